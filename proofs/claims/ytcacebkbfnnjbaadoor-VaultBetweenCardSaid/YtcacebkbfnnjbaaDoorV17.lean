/-
  Parts that the statement rests on, joined: St, Psetc, Psetb, Pcut, Padde, Pout, Pload.
-/
import Derived.Test.YtcacebkbfnnjbaaDoorV8
import Derived.Test.YtcacebkbfnnjbaaDoorV13
import Derived.Test.YtcacebkbfnnjbaaDoorV14
import Derived.Test.YtcacebkbfnnjbaaDoorV15
import Derived.Test.YtcacebkbfnnjbaaDoorV16
import Derived.Test.YtcacebkbfnnjbaaDoorV27
import Derived.BigQuiet
/-
  A state and a vault in memory: their structs' cells, their slices of their own.
-/




namespace Go.Proofs.YtcacebkbfnnjbaaDoor
open Go.RowKit

/-- A state's cells. -/
abbrev stc (t v : Int) (s : Value) : Array Value := #[.int .i64 t, .int .i64 v, s]
structure SMem (g base : Nat) (w : World) (s : Vl.S) (A : Option Addr) (c : Nat) : Prop where
  st : Whole w g 61 (stc s.1.1 s.1.2 (.slice A s.2.length c))
  l : Own w base 57 (.slice A s.2.length c) s.2
  off : lbk A ≠ some g
section
variable {g base : Nat} {w w' : World} {s : Vl.S} {A : Option Addr} {c : Nat}
theorem SMem.keep {D : Nat → Prop} (h : SMem g base w s A c) (hk : Kept D w w') (hg : ¬ D g) (hA : ∀ b, lbk A = some b → ¬ D b) : SMem g base w' s A c :=
  ⟨hk.whole h.st hg, h.l.keep hk (fun b hb => hA b (by rwa [own_lbk] at hb)), h.off⟩
theorem SMem.stay (h : SMem g base w s A c) (hb : Below w.heap.size w w') : SMem g base w' s A c := h.keep (D := fun _ => False) (Below.kept hb) (fun h => h) (fun _ _ h => h)
theorem SMem.drew (h : SMem g base w s A c) : SMem g base w.drew s A c := ⟨h.st, h.l.drew, h.off⟩
theorem SMem.glt (h : SMem g base w s A c) : g < w.heap.size := h.st.lt
theorem SMem.alt (h : SMem g base w s A c) : ∀ b, lbk A = some b → base ≤ b ∧ b < w.heap.size := fun b hb => h.l.lt b (by rwa [own_lbk])
theorem SMem.offv (h : SMem g base w s A c) (n : Nat) : (Value.slice A n c).ownBlock ≠ some g := by rw [own_lbk]; exact h.off
/-- Its ballot stored anew. -/
theorem SMem.bal (h : SMem g base w s A c) (t v : Int) : SMem g base ((w.setCell ⟨g, 0, none⟩ (.int .i64 t)).setCell ⟨g, 1, none⟩ (.int .i64 v)) ((t, v), s.2) A c :=
  ⟨(h.st.setTo 0 (.int .i64 t) (cs2 := stc t s.1.2 (.slice A s.2.length c)) rfl).setTo 1 _ rfl, own_far (own_far h.l (h.offv _) _) (h.offv _) _, h.off⟩
/-- Its log. -/
theorem SMem.log (h : SMem g base w s A c) {A2 : Option Addr} {c2 : Nat} {l2 : List E} (hl : Own w base 57 (.slice A2 l2.length c2) l2) (ho : lbk A2 ≠ some g) : SMem g base (w.setCell ⟨g, 2, none⟩ (.slice A2 l2.length c2)) (s.1, l2) A2 c2 :=
  ⟨h.st.setTo 2 _ rfl, own_far hl (by rw [own_lbk]; exact ho) _, ho⟩
end
/-- What a step of a state leaves. -/
def STo (g base : Nat) (w : World) (s' : Vl.S) (ok : Bool) (e : Ending) (w' : World) : Prop :=
  ∃ A c, e = .returned (.bool ok) ∧ SMem g base w' s' A c ∧ Below base w w'

/-- A list of the call's own, as its result. -/
def NumbOut (w : World) (N : List Int) (e : Ending) (w' : World) : Prop :=
  ∃ A c, e = .returned (.slice A N.length c) ∧ SlS w' (w.heap.size ≤ ·) (.slice A N.length c) N ∧ Below w.heap.size w w'

/-- The blocks of a vault: its struct's, its disk's, its log's. -/
structure VMem (g : Nat) (w : World) (v : Vl.V) (A : Option Addr) (c : Nat) (A2 : Option Addr) (c2 : Nat) : Prop where
  st : Whole w g 63 #[.slice A v.disk.length c, .int .i64 (v.synced : Int), .int .i64 v.s.1.1, .int .i64 v.s.1.2, .slice A2 v.s.2.length c2]
  d : Own w 0 5 (.slice A v.disk.length c) v.disk
  l : Own w 0 57 (.slice A2 v.s.2.length c2) v.s.2
  offd : lbk A ≠ some g
  offl : lbk A2 ≠ some g
  apart : ∀ b, lbk A = some b → lbk A2 ≠ some b
def Vof (g : Nat) (A A2 : Option Addr) (b : Nat) : Prop := b = g ∨ lbk A = some b ∨ lbk A2 = some b
section
variable {g : Nat} {w w' : World} {v : Vl.V} {A A2 : Option Addr} {c c2 : Nat}
theorem VMem.keep {D : Nat → Prop} (h : VMem g w v A c A2 c2) (hk : Kept D w w') (hD : ∀ b, Vof g A A2 b → ¬ D b) : VMem g w' v A c A2 c2 :=
  ⟨hk.whole h.st (hD _ (.inl rfl)), h.d.keep hk (fun b hb => hD b (.inr (.inl (by rwa [own_lbk] at hb)))), h.l.keep hk (fun b hb => hD b (.inr (.inr (by rwa [own_lbk] at hb)))), h.offd, h.offl, h.apart⟩
theorem VMem.stay (h : VMem g w v A c A2 c2) (hb : Below w.heap.size w w') : VMem g w' v A c A2 c2 := h.keep (D := fun _ => False) (Below.kept hb) (fun _ _ h => h)
theorem VMem.drew (h : VMem g w v A c A2 c2) : VMem g w.drew v A c A2 c2 := ⟨h.st, h.d.drew, h.l.drew, h.offd, h.offl, h.apart⟩
theorem VMem.glt (h : VMem g w v A c A2 c2) : ∀ b, Vof g A A2 b → b < w.heap.size := by
  rintro b (rfl | hb | hb)
  · exact h.st.lt
  · exact (h.d.lt b (by rwa [own_lbk])).2
  · exact (h.l.lt b (by rwa [own_lbk])).2
theorem Whole.c5 {w : World} {g : Nat} {t : TypeId} {x0 x1 x2 x3 x4 : Value} (h : Whole w g t #[x0, x1, x2, x3, x4]) : w.cell? ⟨g, 0, none⟩ = some x0 ∧ w.cell? ⟨g, 1, none⟩ = some x1 ∧ w.cell? ⟨g, 2, none⟩ = some x2 ∧ w.cell? ⟨g, 3, none⟩ = some x3 ∧ w.cell? ⟨g, 4, none⟩ = some x4 :=
  ⟨h.cell 0, h.cell 1, h.cell 2, h.cell 3, h.cell 4⟩
theorem Whole.f5 {w : World} {g : Nat} {t : TypeId} {x0 x1 x2 x3 x4 : Value} (h : Whole w g t #[x0, x1, x2, x3, x4]) : w.frozen? ⟨g, 0, none⟩ = false ∧ w.frozen? ⟨g, 1, none⟩ = false ∧ w.frozen? ⟨g, 2, none⟩ = false ∧ w.frozen? ⟨g, 3, none⟩ = false ∧ w.frozen? ⟨g, 4, none⟩ = false :=
  ⟨h.free 0, h.free 1, h.free 2, h.free 3, h.free 4⟩
/-- What a step of a vault leaves: its struct where it lay, its slices there or anew. -/
def VTo (g : Nat) (A A2 : Option Addr) (w : World) (v : Vl.V) (w' : World) : Prop :=
  ∃ B c B2 c2, VMem g w' v B c B2 c2 ∧ (∀ b, Vof g B B2 b → Vof g A A2 b ∨ w.heap.size ≤ b) ∧ Kept (Vof g A A2) w w'
theorem vto_of (h : VMem g w' v A c A2 c2) (hk : Kept (Vof g A A2) w w') : VTo g A A2 w v w' := ⟨A, c, A2, c2, h, fun _ h => .inl h, hk⟩
theorem VTo.from_ {w2 : World} (h : VTo g A A2 w2 v w') (hk : Kept (Vof g A A2) w w2) : VTo g A A2 w v w' := by
  obtain ⟨B, c, B2, c2, h1, h2, h3⟩ := h
  exact ⟨B, c, B2, c2, h1, fun b hb => (h2 b hb).imp id (fun h => Nat.le_trans hk.size h), hk.trans h3⟩
end
end Go.Proofs.YtcacebkbfnnjbaaDoor

/-
  Words on lists of numbers in memory, and on what cut and addEntry make.
-/


namespace Go.Proofs.YtcacebkbfnnjbaaDoor
open Go.RowKit

theorem add_zero7 {w : World} {base : Nat} {e : TypeId} {A : Option Addr} {n c : Nat} {l : List E} (h : Own w base e (.slice A n c) l) : (if c = 0 then A else A.map (·.add (0 * 7))) = A := by
  rcases h.1.2 with ⟨h1, _⟩ | ⟨g, cap, cur, h1, -⟩
  · obtain ⟨rfl, rfl, rfl⟩ := Value.slice.inj h1
    rfl
  · obtain ⟨rfl, rfl, rfl⟩ := Value.slice.inj h1
    split
    · rfl
    · simp [add_at]
theorem cutE_no {s : Vl.S} {N : List Int} (h : N.length ≠ 1) : Vl.cutE s N = none := by unfold Vl.cutE; rw [if_neg (fun hh => h hh.1)]
theorem cutE_one {s : Vl.S} {k : Nat} : Vl.cutE s [(k : Int)] = if k ≤ s.2.length then some (s.1, s.2.take k) else none := by
  unfold Vl.cutE
  by_cases h : k ≤ s.2.length
  · rw [if_pos h, if_pos ⟨rfl, by simpa using h⟩]; simp
  · rw [if_neg h, if_neg (fun hh => h (by simpa using hh.2))]
theorem addE_no {s : Vl.S} {N : List Int} (h : N.length ≠ 8) : Vl.addE s N = none := by unfold Vl.addE; rw [if_neg (fun hh => h hh.1)]
theorem addE_at {s : Vl.S} {n0 n1 n2 n3 n4 n5 n6 n7 : Int} (h : n0 ≠ (s.2.length : Int) + 1) : Vl.addE s [n0, n1, n2, n3, n4, n5, n6, n7] = none := by unfold Vl.addE; rw [if_neg (fun hh => h hh.2.1)]
theorem addE_eight {s : Vl.S} {n0 n1 n2 n3 n4 n5 n6 n7 : Int} (h : n0 = (s.2.length : Int) + 1) : Vl.addE s [n0, n1, n2, n3, n4, n5, n6, n7] = if Lg.may (0, 0, s.2 ++ [(n1, n2, n3, n4, n5, n6, n7)]) = true then some (s.1, s.2 ++ [(n1, n2, n3, n4, n5, n6, n7)]) else none := by
  unfold Vl.addE
  by_cases h2 : Lg.may (0, 0, s.2 ++ [(n1, n2, n3, n4, n5, n6, n7)]) = true
  · rw [if_pos h2, if_pos ⟨rfl, h, h2⟩]; rfl
  · rw [if_neg h2, if_neg (fun hh => h2 hh.2.2)]
theorem list_one {α : Type} {N : List α} (h : N.length = 1) : ∃ a, N = [a] := by
  match N, h with
  | [a], _ => exact ⟨a, rfl⟩
theorem list_eight {α : Type} {N : List α} (h : N.length = 8) : ∃ a b c d e f g i, N = [a, b, c, d, e, f, g, i] := by
  match N, h with
  | [a, b, c, d, e, f, g, i], _ => exact ⟨a, b, c, d, e, f, g, i, rfl⟩
theorem ints_eight {w : World} {B c : Nat} {A : Option Addr} {n0 n1 n2 n3 n4 n5 n6 n7 : Int} (h : Sl w B (.slice A 8 c) [n0, n1, n2, n3, n4, n5, n6, n7]) : ∃ b o, A = some ⟨b, o, none⟩ ∧ b < B ∧
    w.cell? ⟨b, o, none⟩ = some (.int .i64 n0) ∧ w.cell? ⟨b, o + 1, none⟩ = some (.int .i64 n1) ∧ w.cell? ⟨b, o + 2, none⟩ = some (.int .i64 n2) ∧ w.cell? ⟨b, o + 3, none⟩ = some (.int .i64 n3) ∧
    w.cell? ⟨b, o + 4, none⟩ = some (.int .i64 n4) ∧ w.cell? ⟨b, o + 5, none⟩ = some (.int .i64 n5) ∧ w.cell? ⟨b, o + 6, none⟩ = some (.int .i64 n6) ∧ w.cell? ⟨b, o + 7, none⟩ = some (.int .i64 n7) := by
  obtain ⟨b, o, rfl, hb, h0, -⟩ := h.int 0 (by simp)
  have f : ∀ k (hk : k < [n0, n1, n2, n3, n4, n5, n6, n7].length), w.cell? ⟨b, o + k, none⟩ = some (.int .i64 ([n0, n1, n2, n3, n4, n5, n6, n7][k])) := by
    intro k hk
    obtain ⟨b', o', e, _, h1, -⟩ := h.int k hk
    injection e with e
    injection e with e1 e2
    subst e1 e2
    exact h1
  exact ⟨b, o, rfl, hb, f 0 (by simp), f 1 (by simp), f 2 (by simp), f 3 (by simp), f 4 (by simp), f 5 (by simp), f 6 (by simp), f 7 (by simp)⟩
theorem ints_eightS {w : World} {S : Nat → Prop} {c : Nat} {A : Option Addr} {n0 n1 n2 n3 n4 n5 n6 n7 : Int} (h : SlS w S (.slice A 8 c) [n0, n1, n2, n3, n4, n5, n6, n7]) : ∃ b o, A = some ⟨b, o, none⟩ ∧ b < w.heap.size ∧ S b ∧
    w.cell? ⟨b, o, none⟩ = some (.int .i64 n0) ∧ w.cell? ⟨b, o + 1, none⟩ = some (.int .i64 n1) ∧ w.cell? ⟨b, o + 2, none⟩ = some (.int .i64 n2) ∧ w.cell? ⟨b, o + 3, none⟩ = some (.int .i64 n3) ∧
    w.cell? ⟨b, o + 4, none⟩ = some (.int .i64 n4) ∧ w.cell? ⟨b, o + 5, none⟩ = some (.int .i64 n5) ∧ w.cell? ⟨b, o + 6, none⟩ = some (.int .i64 n6) ∧ w.cell? ⟨b, o + 7, none⟩ = some (.int .i64 n7) := by
  obtain ⟨b, o, rfl, hb, h1⟩ := ints_eight h.here
  obtain ⟨b', o', e, hS, -⟩ := SlS.inside h (by simp)
  injection e with e
  injection e with e1 e2
  subst e1
  exact ⟨b, o, rfl, hb, hS, h1⟩
theorem Whole.c6 {w : World} {g : Nat} {t : TypeId} {x0 x1 x2 x3 x4 x5 : Value} (h : Whole w g t #[x0, x1, x2, x3, x4, x5]) : w.cell? ⟨g, 0, none⟩ = some x0 ∧ w.cell? ⟨g, 1, none⟩ = some x1 ∧ w.cell? ⟨g, 2, none⟩ = some x2 ∧ w.cell? ⟨g, 3, none⟩ = some x3 ∧ w.cell? ⟨g, 4, none⟩ = some x4 ∧ w.cell? ⟨g, 5, none⟩ = some x5 :=
  ⟨h.cell 0, h.cell 1, h.cell 2, h.cell 3, h.cell 4, h.cell 5⟩
theorem Whole.f6 {w : World} {g : Nat} {t : TypeId} {x0 x1 x2 x3 x4 x5 : Value} (h : Whole w g t #[x0, x1, x2, x3, x4, x5]) : w.frozen? ⟨g, 0, none⟩ = false ∧ w.frozen? ⟨g, 1, none⟩ = false ∧ w.frozen? ⟨g, 2, none⟩ = false ∧ w.frozen? ⟨g, 3, none⟩ = false ∧ w.frozen? ⟨g, 4, none⟩ = false ∧ w.frozen? ⟨g, 5, none⟩ = false :=
  ⟨h.free 0, h.free 1, h.free 2, h.free 3, h.free 4, h.free 5⟩
end Go.Proofs.YtcacebkbfnnjbaaDoor

/-
  What setBallot and cut leave of a state.
-/



namespace Go.Proofs.YtcacebkbfnnjbaaDoor
open Go.RowKit

theorem setB_no {s : Vl.S} {N : List Int} (h : N.length ≠ 2) : Vl.setB s N = none := by unfold Vl.setB; rw [if_neg (fun hh => h hh.1)]
theorem setB_two {s : Vl.S} {a b : Int} : Vl.setB s [a, b] = if Vt.may (a, b) = true then some ((a, b), s.2) else none := by
  unfold Vl.setB
  by_cases h : Vt.may (a, b) = true
  · rw [if_pos h, if_pos ⟨rfl, h⟩]; rfl
  · rw [if_neg h, if_neg (fun hh => h hh.2)]
theorem list_two {α : Type} {N : List α} (h : N.length = 2) : ∃ a b, N = [a, b] := by
  match N, h with
  | [a, b], _ => exact ⟨a, b, rfl⟩

set_option maxRecDepth 100000 in
theorem setBallot_any (g base : Nat) (s : Vl.S) (A : Option Addr) (c : Nat) (sN : Value) (N : List Int) (w : World) (hbase : base ≤ g) (h : SMem g base w s A c) (hN : Sl w w.heap.size sN N) :
    Calls Tryd.prog 47 #[.pointer (some ⟨g, 0, none⟩), sN] w (STo g base w ((Vl.setB s N).getD s) (Vl.setB s N).isSome) := by
  obtain ⟨A1, c1, rfl, _, hm1⟩ := hN.form
  have HS := Lib.hid h
  have HNN := Lib.hid hN
  have hglt := h.glt
  by_cases h2 : N.length = 2
  · obtain ⟨x, y, rfl⟩ := list_two h2
    obtain ⟨b1, o1, rfl, hb1, k0, -, -⟩ := hN.int 0 (by simp)
    obtain ⟨b2, o2, e2, hb2, k1, -, -⟩ := hN.int 1 (by simp)
    injection e2 with e2
    injection e2 with e2 e3
    subst e2 e3
    simp only [List.getElem_cons_zero, List.getElem_cons_succ, Nat.add_zero] at k0 k1
    rw [setB_two]
    have HMY := Lib.hid (fun W => bmay_any x y W)
    clear h hN h2
    simp only [List.length_cons, List.length_nil] at *
    generalize Vt.may (x, y) = q at *
    generalize hP : (if q = true then some ((x, y), s.2) else none : Option Vl.S) = P at *
    have HP := Lib.hid hP
    clear hP
    have d1 : ((2 : Int) != 2) = false := by simp
    go_enter Tryd.func47, Tryd.ntmps47
    go_wp2_with fail
    refine s_start (fun W => Kept (fun _ => False) (w).drew W) [] (by kernel_rfl) ?_
    have HC := Lib.hid (Kept.refl (fun _ => False) (w).drew)
    have HK := Lib.hid (fun W (hW : Kept (fun _ => False) w.drew W) => (⟨(hW.below (B := w.heap.size) (fun _ h => h.elim) (Nat.le_refl _)).cell (p := ⟨b1, o1, none⟩) hb1 |>.trans k0, (hW.below (B := w.heap.size) (fun _ h => h.elim) (Nat.le_refl _)).cell (p := ⟨b1, o1 + 1, none⟩) hb1 |>.trans k1⟩ : _ ∧ _))
    replace HS := Lib.hid HS.out.drew
    have HD := Lib.hid (show Below w.heap.size w w.drew from (Below.refl _ _).drew)
    have hz1 : w.heap.size ≤ w.drew.heap.size := Nat.le_refl _
    clear k0 k1
    generalize (w).drew = z1 at *
    refine s_take (i := 0) (v := ?_) rfl (by kernel_rfl) (by kernel_rfl) (by kernel_rfl) (k0 := 0) (by kernel_rfl) (by kernel_rfl) (.inl rfl) (fun _ _ _ h => h) (by rfl) HC.out ?_ ?_
    rotate_left
    · intro W hW
      go_simp
      first | done | rfl
    simp only [Act.put, List.setIfInBounds_toArray, List.set_cons_zero, List.set_cons_succ, List.getElem_toArray, List.getElem_cons_zero]
    refine s_take (i := 1) (v := ?_) rfl (by kernel_rfl) (by kernel_rfl) (by kernel_rfl) (k0 := 1) (by kernel_rfl) (by kernel_rfl) (.inl rfl) (fun _ _ _ h => h) (by rfl) HC.out ?_ ?_
    rotate_left
    · intro W hW
      go_simp
      first | done | rfl
    simp only [Act.put, List.setIfInBounds_toArray, List.set_cons_zero, List.set_cons_succ, List.getElem_toArray, List.getElem_cons_zero, List.getElem_cons_succ]
    refine s_take (i := 2) (v := ?_) rfl (by kernel_rfl) (by kernel_rfl) (by kernel_rfl) (k0 := 2) (by kernel_rfl) (by kernel_rfl) (.inl rfl) (fun _ _ _ h => h) (by rfl) HC.out ?_ ?_
    rotate_left
    · intro W hW
      obtain ⟨k0, k1⟩ := HK.out _ hW
      go_simp
      first | done | rfl
    simp only [Act.put, List.setIfInBounds_toArray, List.set_cons_zero, List.set_cons_succ, List.getElem_toArray, List.getElem_cons_zero, List.getElem_cons_succ]
    refine s_take (i := 3) (v := ?_) rfl (by kernel_rfl) (by kernel_rfl) (by kernel_rfl) (k0 := 3) (by kernel_rfl) (by kernel_rfl) (.inl rfl) (fun _ _ _ h => h) (by rfl) HC.out ?_ ?_
    rotate_left
    · intro W hW
      go_simp
      first | done | rfl
    simp only [Act.put, List.setIfInBounds_toArray, List.set_cons_zero, List.set_cons_succ, List.getElem_toArray, List.getElem_cons_zero, List.getElem_cons_succ]
    refine s_take (i := 4) (v := ?_) rfl (by kernel_rfl) (by kernel_rfl) (by kernel_rfl) (k0 := 4) (by kernel_rfl) (by kernel_rfl) (.inl rfl) (fun _ _ _ h => h) (by rfl) HC.out ?_ ?_
    rotate_left
    · intro W hW
      go_simp
      first | done | rfl
    simp only [Act.put, List.setIfInBounds_toArray, List.set_cons_zero, List.set_cons_succ, List.getElem_toArray, List.getElem_cons_zero, List.getElem_cons_succ]
    refine s_take (i := 5) (v := ?_) rfl (by kernel_rfl) (by kernel_rfl) (by kernel_rfl) (k0 := 5) (by kernel_rfl) (by kernel_rfl) (.inl rfl) (fun _ _ _ h => h) (by rfl) HC.out ?_ ?_
    rotate_left
    · intro W hW
      obtain ⟨k0, k1⟩ := HK.out _ hW
      go_simp
      first | done | rfl
    simp only [Act.put, List.setIfInBounds_toArray, List.set_cons_zero, List.set_cons_succ, List.getElem_toArray, List.getElem_cons_zero, List.getElem_cons_succ]
    refine s_take (i := 6) (v := ?_) rfl (by kernel_rfl) (by kernel_rfl) (by kernel_rfl) (k0 := 6) (by kernel_rfl) (by kernel_rfl) (.inl rfl) (fun _ _ _ h => h) (by rfl) HC.out ?_ ?_
    rotate_left
    · intro W hW
      go_simp
      first | done | rfl
    simp only [Act.put, List.setIfInBounds_toArray, List.set_cons_zero, List.set_cons_succ, List.getElem_toArray, List.getElem_cons_zero, List.getElem_cons_succ]
    refine s_one (i := 7) (by kernel_rfl) ?_
    refine ones_run (i := 7) (v := ?_) (w' := World.alloc (z1) (.cells #[.int .i64 0, .int .i64 0] 30)) rfl (by rfl) ?_ ?_ ?_
    rotate_left 1
    · go_simp
      first | done | rfl | (constructor <;> rfl)
    · exact fun _ => HC.out.trans (Below.kept ((Below.refl _ _).alloc (Nat.le_refl _) _))
    simp only [Act.put, List.setIfInBounds_toArray, List.set_cons_zero, List.set_cons_succ, List.getElem_toArray, List.getElem_cons_zero, List.getElem_cons_succ]
    have gbge := HC.out.size
    have HG := Lib.hid (Whole.new (z1) 30 #[.int .i64 0, .int .i64 0])
    replace HC := Lib.hid (HC.out.trans (Below.kept ((Below.refl _ _).alloc (Nat.le_refl _) (.cells #[.int .i64 0, .int .i64 0] 30))))
    generalize hw6 : World.alloc (z1) _ = z2 at *
    clear hw6
    refine s_one (i := 8) (by kernel_rfl) ?_
    obtain ⟨c_0, c_1⟩ := HG.out.c2
    obtain ⟨f_0, f_1⟩ := HG.out.f2
    refine ones_skip (i := 8) (w' := ?_) rfl (by rfl) ?_ ?_ ?_
    rotate_left 1
    · go_simp
      first | done | rfl
    · exact fun _ => ((HC.out.set (p := ⟨z1.heap.size, 0, none⟩) (.inr (by omega)) (.int .i64 x)).set (p := ⟨z1.heap.size, 1, none⟩) (.inr (by omega)) (.int .i64 y))
    simp only [Act.put, List.getElem_toArray, List.getElem_cons_zero, List.getElem_cons_succ]
    clear c_0 f_0 c_1 f_1
    replace HG := Lib.hid (show Whole _ _ _ #[.int .i64 x, .int .i64 y] from ((HG.out.set 0 (.int .i64 x)).set 1 (.int .i64 y)))
    replace HC := Lib.hid ((HC.out.set (p := ⟨z1.heap.size, 0, none⟩) (.inr (by omega)) (.int .i64 x)).set (p := ⟨z1.heap.size, 1, none⟩) (.inr (by omega)) (.int .i64 y))
    generalize hw6 : (World.setCell (World.setCell z2 ⟨z1.heap.size, 0, none⟩ (.int .i64 x)) ⟨z1.heap.size, 1, none⟩ (.int .i64 y)) = z3 at *
    clear hw6
    refine s_done (by kernel_rfl) ?_
    have hKE := HK.out
    have HSS := Lib.hid (HS.out.keep HC.out (fun h => h) (fun _ _ h => h))
    have HBB := Lib.hid (HD.out.trans (HC.out.below (B := w.heap.size) (fun _ h => h.elim) hz1))
    clear HK hKE
    obtain ⟨c_0, c_1⟩ := HG.out.c2
    go_simp
    go_wp2_with fail
    with_reducible refine (HMY.out _).mono ?_
    rintro e w5 ⟨rfl, hb⟩
    replace HSS := Lib.hid (HSS.out.stay hb)
    replace HG := Lib.hid (HG.out.below hb HG.out.lt)
    replace HBB := Lib.hid (HBB.out.trans (hb.mono HBB.out.size))
    clear c_0 c_1 hb
    obtain ⟨c_0, c_1⟩ := HG.out.c2
    obtain ⟨q0, q1, q2⟩ := HSS.out.st.c3
    obtain ⟨f0, f1, f2⟩ := HSS.out.st.f3
    rcases q with _ | _
    · obtain rfl : P = none := by have := HP.out; simpa using this.symm
      go_wp2_with fail
      go_ret
      exact ⟨A, c, rfl, HSS.out, HBB.out.mono (by omega)⟩
    · obtain rfl : P = some ((x, y), s.2) := by have := HP.out; simpa using this.symm
      have HR := Lib.hid (HSS.out.bal x y)
      have HBR := Lib.hid (below_set2 (HBB.out.mono (show base ≤ w.heap.size by omega)) hbase (.int .i64 x) (.int .i64 y))
      go_wp2_with fail
      go_ret
      exact ⟨A, c, rfl, HR.out, HBR.out⟩
  · rw [setB_no h2]
    have hd : ((N.length : Int) != 2) = true := by simpa using (show ¬ (N.length : Int) = 2 by omega)
    clear hN HNN h2 h
    generalize N.length = n at *
    go_enter Tryd.func47, Tryd.ntmps47
    go_wp2_with fail
    go_ret
    exact ⟨A, c, rfl, HS.out, Below.refl _ _⟩
end Go.Proofs.YtcacebkbfnnjbaaDoor

/-
  What cut leaves of a state.
-/



namespace Go.Proofs.YtcacebkbfnnjbaaDoor
open Go.RowKit

set_option maxRecDepth 100000 in
theorem cut_state (g base : Nat) (s : Vl.S) (A : Option Addr) (c : Nat) (sN : Value) (N : List Int) (hmay : ∀ n ∈ N, Fm.may n) (w : World) (hbase : base ≤ g) (h : SMem g base w s A c) (hN : Sl w w.heap.size sN N) :
    Calls Tryd.prog 49 #[.pointer (some ⟨g, 0, none⟩), sN] w (STo g base w ((Vl.cutE s N).getD s) (Vl.cutE s N).isSome) := by
  obtain ⟨A1, c1, rfl, hm0, hm1⟩ := hN.form
  have HS := Lib.hid h
  have hglt := h.glt
  have hbw : base ≤ w.heap.size := by omega
  by_cases h1 : N.length = 1
  · obtain ⟨x, rfl⟩ := list_one h1
    obtain ⟨k, rfl⟩ := Int.eq_ofNat_of_zero_le (hmay x (by simp)).1
    obtain ⟨b1, o1, rfl, hb1, k0, -, -⟩ := hN.int 0 (by simp)
    simp only [List.getElem_cons_zero, Nat.add_zero] at k0
    simp only [List.length_cons, List.length_nil, Nat.zero_add] at *
    obtain ⟨hle, -⟩ := h.l.sl.room.2
    have hcm := h.l.sl.room.2.2
    have HUP := Lib.hid (fun (hk : k ≤ s.2.length) => h.l.upto k hk)
    have hz7 := add_zero7 h.l
    have hrun := fun (hk : k ≤ c) W => run_upto A s.2.length c k (k : Int) rfl hk W
    rw [hz7] at hrun
    have HRUN := Lib.hid hrun
    have d1 : ((1 : Int) != 1) = false := by simp
    have hst := h.st
    obtain ⟨q0, q1, q2⟩ := hst.c3
    clear hst hN h1 hmay hz7 hrun h
    by_cases hk : k ≤ s.2.length
    · rw [cutE_one, if_pos hk]
      have HK := Lib.hid hk
      have hlen : (s.2.take k).length = k := by rw [List.length_take]; omega
      have HL := Lib.hid hlen
      have hr := HRUN.out (Nat.le_trans hk hle)
      have HU := Lib.hid (HUP.out hk)
      clear HUP HRUN hlen
      generalize hn : s.2.length = n at *
      have d2 : decide (n < k) = false := by simp; omega
      have HNN := Lib.hid hn
      clear hn
      go_enter Tryd.func49, Tryd.ntmps49
      go_wp2_with fail
      go_quiet (fail)
      have HD := Lib.hid (below_drewN (Below.refl w.heap.size w) nq)
      replace HS := Lib.hid (HS.out.stay HD.out)
      have hk0 : (w.drewN nq).cell? ⟨b1, o1, none⟩ = some (.int .i64 (k : Int)) := k0
      have hz0 : w.heap.size ≤ (w.drewN nq).heap.size := Nat.le_refl _
      replace HU := Lib.hid (show Own (w.drewN nq) base _ _ _ from HU.out.drewN nq)
      replace hglt : g < (w.drewN nq).heap.size := hglt
      replace hb1 : b1 < (w.drewN nq).heap.size := hb1
      clear q0 q1 q2 k0
      generalize hw1 : World.drewN _ nq = w1 at *
      clear hw1
      go_wp2_with fail
      refine s_start (fun W => Kept (fun _ => False) (w1).drew W) [11] (by kernel_rfl) ?_
      have HC := Lib.hid (Kept.refl (fun _ => False) (w1).drew)
      have HX := Lib.hid (fun W (hW : Kept (fun _ => False) w1.drew W) => (⟨(hW.below (B := w1.heap.size) (fun _ h => h.elim) (Nat.le_refl _)).cell (p := ⟨b1, o1, none⟩) hb1 |>.trans hk0, (hW.whole (show Whole w1.drew _ _ _ from HS.out.st) (fun h => h)).c3⟩ : _ ∧ _))
      rw [HNN.out] at HX
      replace HS := Lib.hid HS.out.drew
      replace HU := Lib.hid HU.out.drew
      replace HD := Lib.hid HD.out.drew
      have hz1 : w.heap.size ≤ w1.drew.heap.size := hz0
      clear hk0
      generalize (w1).drew = z1 at *
      refine s_take (i := 0) (v := ?_) rfl (by kernel_rfl) (by kernel_rfl) (by kernel_rfl) (k0 := 0) (by kernel_rfl) (by kernel_rfl) (.inl rfl) (fun _ _ _ h => h) (by rfl) HC.out ?_ ?_
      rotate_left
      · intro W hW
        go_simp
        first | done | rfl
      simp only [Act.put, List.setIfInBounds_toArray, List.set_cons_zero, List.set_cons_succ, List.getElem_toArray, List.getElem_cons_zero]
      refine s_take (i := 1) (v := ?_) rfl (by kernel_rfl) (by kernel_rfl) (by kernel_rfl) (k0 := 1) (by kernel_rfl) (by kernel_rfl) (.inl rfl) (fun _ _ _ h => h) (by rfl) HC.out ?_ ?_
      rotate_left
      · intro W hW
        go_simp
        first | done | rfl
      simp only [Act.put, List.setIfInBounds_toArray, List.set_cons_zero, List.set_cons_succ, List.getElem_toArray, List.getElem_cons_zero, List.getElem_cons_succ]
      refine s_take (i := 2) (v := ?_) rfl (by kernel_rfl) (by kernel_rfl) (by kernel_rfl) (k0 := 2) (by kernel_rfl) (by kernel_rfl) (.inl rfl) (fun _ _ _ h => h) (by rfl) HC.out ?_ ?_
      rotate_left
      · intro W hW
        go_simp
        first | done | rfl
      simp only [Act.put, List.setIfInBounds_toArray, List.set_cons_zero, List.set_cons_succ, List.getElem_toArray, List.getElem_cons_zero, List.getElem_cons_succ]
      refine s_take (i := 3) (v := ?_) rfl (by kernel_rfl) (by kernel_rfl) (by kernel_rfl) (k0 := 3) (by kernel_rfl) (by kernel_rfl) (.inl rfl) (fun _ _ _ h => h) (by rfl) HC.out ?_ ?_
      rotate_left
      · intro W hW
        go_simp
        first | done | rfl
      simp only [Act.put, List.setIfInBounds_toArray, List.set_cons_zero, List.set_cons_succ, List.getElem_toArray, List.getElem_cons_zero, List.getElem_cons_succ]
      refine s_take (i := 4) (v := ?_) rfl (by kernel_rfl) (by kernel_rfl) (by kernel_rfl) (k0 := 4) (by kernel_rfl) (by kernel_rfl) (.inl rfl) (fun _ _ _ h => h) (by rfl) HC.out ?_ ?_
      rotate_left
      · intro W hW
        obtain ⟨k0, q0, q1, q2⟩ := HX.out _ hW
        go_simp
        first | done | rfl
      simp only [Act.put, List.setIfInBounds_toArray, List.set_cons_zero, List.set_cons_succ, List.getElem_toArray, List.getElem_cons_zero, List.getElem_cons_succ]
      refine s_take (i := 5) (v := ?_) rfl (by kernel_rfl) (by kernel_rfl) (by kernel_rfl) (k0 := 5) (by kernel_rfl) (by kernel_rfl) (.inl rfl) (fun _ _ _ h => h) (by rfl) HC.out ?_ ?_
      rotate_left
      · intro W hW
        go_simp
        first | done | rfl
      simp only [Act.put, List.setIfInBounds_toArray, List.set_cons_zero, List.set_cons_succ, List.getElem_toArray, List.getElem_cons_zero, List.getElem_cons_succ]
      refine s_take (i := 6) (v := ?_) rfl (by kernel_rfl) (by kernel_rfl) (by kernel_rfl) (k0 := 6) (by kernel_rfl) (by kernel_rfl) (.inl rfl) (fun _ _ _ h => h) (by rfl) HC.out ?_ ?_
      rotate_left
      · intro W hW
        go_simp
        first | done | rfl
      simp only [Act.put, List.setIfInBounds_toArray, List.set_cons_zero, List.set_cons_succ, List.getElem_toArray, List.getElem_cons_zero, List.getElem_cons_succ]
      refine s_take (i := 7) (v := ?_) rfl (by kernel_rfl) (by kernel_rfl) (by kernel_rfl) (k0 := 7) (by kernel_rfl) (by kernel_rfl) (.inl rfl) (fun _ _ _ h => h) (by rfl) HC.out ?_ ?_
      rotate_left
      · intro W hW
        obtain ⟨k0, q0, q1, q2⟩ := HX.out _ hW
        go_simp
        first | done | rfl
      simp only [Act.put, List.setIfInBounds_toArray, List.set_cons_zero, List.set_cons_succ, List.getElem_toArray, List.getElem_cons_zero, List.getElem_cons_succ]
      refine s_take (i := 8) (v := ?_) rfl (by kernel_rfl) (by kernel_rfl) (by kernel_rfl) (k0 := 8) (by kernel_rfl) (by kernel_rfl) (.inl rfl) (fun _ _ _ h => h) (by rfl) HC.out ?_ ?_
      rotate_left
      · intro W hW
        go_simp
        first | done | rfl
      simp only [Act.put, List.setIfInBounds_toArray, List.set_cons_zero, List.set_cons_succ, List.getElem_toArray, List.getElem_cons_zero, List.getElem_cons_succ]
      refine s_take (i := 9) (v := ?_) rfl (by kernel_rfl) (by kernel_rfl) (by kernel_rfl) (k0 := 10) (by kernel_rfl) (by kernel_rfl) (.inr (by kernel_rfl)) (fun _ _ _ h => h) (by rfl) HC.out ?_ ?_
      rotate_left
      · intro W hW
        go_simp
        first | done | rfl
      simp only [Act.put, List.setIfInBounds_toArray, List.set_cons_zero, List.set_cons_succ, List.getElem_toArray, List.getElem_cons_zero, List.getElem_cons_succ]
      refine s_take (i := 10) (v := ?_) rfl (by kernel_rfl) (by kernel_rfl) (by kernel_rfl) (k0 := 10) (by kernel_rfl) (by kernel_rfl) (.inl rfl) (fun _ _ _ h => h) (by rfl) HC.out ?_ ?_
      rotate_left
      · intro W hW
        go_simp
        first | done | rfl
      simp only [Act.put, List.setIfInBounds_toArray, List.set_cons_zero, List.set_cons_succ, List.getElem_toArray, List.getElem_cons_zero, List.getElem_cons_succ]
      refine s_one (i := 11) (by kernel_rfl) ?_
      have HSS := Lib.hid (HS.out.keep HC.out (fun h => h) (fun _ _ h => h))
      have HUU := Lib.hid (HU.out.keep HC.out (fun _ _ h => h))
      have HBB := Lib.hid (HD.out.trans (HC.out.below (B := w.heap.size) (fun _ h => h.elim) hz1))
      obtain ⟨c_0, c_1, c_2⟩ := HSS.out.st.c3
      obtain ⟨f_0, f_1, f_2⟩ := HSS.out.st.f3
      refine ones_skip (i := 11) (w' := (World.setCell z1 ⟨g, 2, none⟩ (.slice A k c))) rfl (by rfl) ?_ ?_ ?_
      · go_simp
        first | done | rfl
      · exact fun h => absurd (by decide) h
      simp only [Act.put, List.getElem_toArray, List.getElem_cons_zero, List.getElem_cons_succ]
      have hR := HSS.out.log (A2 := A) (c2 := c) (l2 := s.2.take k) (by rw [HL.out]; exact HUU.out) HSS.out.off
      rw [HL.out] at hR
      have HR := Lib.hid hR
      have HBR := Lib.hid ((HBB.out.mono hbw).setCell (p := ⟨g, 2, none⟩) hbase (.slice A k c))
      clear HSS HUU HBB c_0 c_1 c_2 f_0 f_1 f_2 hR HC HX
      generalize hw6 : (World.setCell z1 ⟨g, 2, none⟩ (.slice A k c)) = z2 at *
      clear hw6
      refine s_done (by kernel_rfl) ?_
      go_simp
      go_wp2_with fail
      go_ret
      exact ⟨A, c, rfl, HR.out, HBR.out⟩

    · rw [cutE_one, if_neg hk]
      generalize hn : s.2.length = n at *
      have d2 : decide (n < k) = true := by simp; omega
      clear hn hk HUP HRUN
      go_enter Tryd.func49, Tryd.ntmps49
      go_wp2_with fail
      go_quiet (fail)
      go_wp2_with fail
      go_ret
      exact ⟨A, c, rfl, HS.out.stay (below_drewN (Below.refl _ _) _), below_drewN (Below.refl _ _) _⟩
  · rw [cutE_no h1]
    have hd : ((N.length : Int) != 1) = true := by simpa using (show ¬ (N.length : Int) = 1 by omega)
    clear hN h1 h hmay
    generalize N.length = n at *
    go_enter Tryd.func49, Tryd.ntmps49
    go_wp2_with fail
    go_quiet (fail)
    go_wp2_with fail
    go_ret
    exact ⟨A, c, rfl, HS.out.stay (below_drewN (Below.refl _ _) _), below_drewN (Below.refl _ _) _⟩
end Go.Proofs.YtcacebkbfnnjbaaDoor

/-
  What addEntry leaves of a state.
-/




namespace Go.Proofs.YtcacebkbfnnjbaaDoor
open Go.RowKit

theorem may_fit {n : Int} (h : Fm.may n) : -9223372036854775808 ≤ n ∧ n ≤ 9223372036854775807 := by unfold Fm.may at h; omega
set_option maxRecDepth 100000 in
set_option maxHeartbeats 800000 in
theorem addEntry_any (g base : Nat) (s : Vl.S) (hl64 : s.2.length ≤ 64) (A : Option Addr) (c : Nat) (sN : Value) (N : List Int) (hmay : ∀ n ∈ N, Fm.may n) (w : World) (hbase : base ≤ g) (h : SMem g base w s A c) (hN : SlS w (fun b => lbk A ≠ some b) sN N) :
    Calls Tryd.prog 48 #[.pointer (some ⟨g, 0, none⟩), sN] w (STo g base w ((Vl.addE s N).getD s) (Vl.addE s N).isSome) := by
  obtain ⟨A1, c1, rfl, hm0, hm1⟩ := hN.form
  have HS := Lib.hid h
  have hglt := h.glt
  have hbw : base ≤ w.heap.size := by omega
  by_cases h1 : N.length = 8
  · obtain ⟨n0, n1, n2, n3, n4, n5, n6, n7, rfl⟩ := list_eight h1
    obtain ⟨b1, o1, rfl, hb1, hb1A, k0, k1, k2, k3, k4, k5, k6, k7⟩ := ints_eightS hN
    simp only [List.length_cons, List.length_nil, Nat.zero_add, Nat.reduceAdd] at *
    have hwf : Flat.wf (α := E) (n1, n2, n3, n4, n5, n6, n7) := ⟨may_fit (hmay n1 (by simp)), may_fit (hmay n2 (by simp)), may_fit (hmay n3 (by simp)), may_fit (hmay n4 (by simp)), may_fit (hmay n5 (by simp)), may_fit (hmay n6 (by simp)), may_fit (hmay n7 (by simp))⟩
    have d1 : ((8 : Int) != 8) = false := by simp
    have hst := h.st
    obtain ⟨q0, q1, q2⟩ := hst.c3
    have hgA := h.off
    have hAlt := h.alt
    have HAL := Lib.hid hAlt
    have HO := Lib.hid h.l
    have hwr : IntKind.i64.wrap ((s.2.length : Int) + 1) = (s.2.length : Int) + 1 := by rw [IntKind.wrap_i64]; omega
    clear hst hN h1 hmay h hAlt
    by_cases hat : n0 = (s.2.length : Int) + 1
    · rw [addE_eight hat]
      have HMY := Lib.hid (fun W v (hv : Sl W W.heap.size v (s.2 ++ [(n1, n2, n3, n4, n5, n6, n7)])) => may_any 0 0 v _ W W.heap.size (Nat.le_refl _) hv)
      have HL0 := Lib.hid (show (s.2 ++ [(n1, n2, n3, n4, n5, n6, n7)]).length = s.2.length + 1 by simp)
      have HQ : Hid (Lg.may (0, 0, s.2 ++ [(n1, n2, n3, n4, n5, n6, n7)]) = Lg.may (0, 0, s.2 ++ [(n1, n2, n3, n4, n5, n6, n7)])) := Lib.hid rfl
      generalize Lg.may (0, 0, s.2 ++ [(n1, n2, n3, n4, n5, n6, n7)]) = q at *
      clear HQ
      generalize hP : (if q = true then some (s.1, s.2 ++ [(n1, n2, n3, n4, n5, n6, n7)]) else none : Option Vl.S) = P at *
      have HP := Lib.hid hP
      clear hP
      subst hat
      generalize hn : s.2.length = n at *
      have d2 : (((n : Int) + 1) != ((n : Int) + 1)) = false := by simp
      have HNN := Lib.hid hn
      clear hn
      go_enter Tryd.func48, Tryd.ntmps48
      go_wp2_with fail
      go_quiet (fail)
      have HD := Lib.hid (below_drewN (Below.refl w.heap.size w) nq)
      replace HS := Lib.hid (HS.out.stay HD.out)
      replace HO := Lib.hid (show Own (w.drewN nq) base _ _ _ from HO.out.drewN nq)
      have hzw : w.heap.size ≤ (w.drewN nq).heap.size := Nat.le_refl _
      have HK := Lib.hid (show (w.drewN nq).cell? ⟨b1, o1, none⟩ = some (.int .i64 ((n : Int) + 1)) ∧ (w.drewN nq).cell? ⟨b1, o1 + 1, none⟩ = some (.int .i64 n1) ∧ (w.drewN nq).cell? ⟨b1, o1 + 2, none⟩ = some (.int .i64 n2) ∧ (w.drewN nq).cell? ⟨b1, o1 + 3, none⟩ = some (.int .i64 n3) ∧ (w.drewN nq).cell? ⟨b1, o1 + 4, none⟩ = some (.int .i64 n4) ∧ (w.drewN nq).cell? ⟨b1, o1 + 5, none⟩ = some (.int .i64 n5) ∧ (w.drewN nq).cell? ⟨b1, o1 + 6, none⟩ = some (.int .i64 n6) ∧ (w.drewN nq).cell? ⟨b1, o1 + 7, none⟩ = some (.int .i64 n7) from ⟨k0, k1, k2, k3, k4, k5, k6, k7⟩)
      clear q0 q1 q2 k0 k1 k2 k3 k4 k5 k6 k7
      generalize hw1 : World.drewN _ nq = w1 at *
      clear hw1
      go_wp2_with fail
      refine s_start (fun W => Kept (fun _ => False) (w1).drew W) [] (by kernel_rfl) ?_
      have HC := Lib.hid (Kept.refl (fun _ => False) (w1).drew)
      replace hb1 : b1 < w1.heap.size := by omega
      have HX := Lib.hid (fun W (hW : Kept (fun _ => False) w1.drew W) => by
        obtain ⟨k0, k1, k2, k3, k4, k5, k6, k7⟩ := HK.out
        exact (⟨(hW.below (B := w1.heap.size) (fun _ h => h.elim) (Nat.le_refl _)).cell (p := ⟨b1, o1, none⟩) hb1 |>.trans k0, (hW.below (B := w1.heap.size) (fun _ h => h.elim) (Nat.le_refl _)).cell (p := ⟨b1, o1 + 1, none⟩) hb1 |>.trans k1, (hW.below (B := w1.heap.size) (fun _ h => h.elim) (Nat.le_refl _)).cell (p := ⟨b1, o1 + 2, none⟩) hb1 |>.trans k2, (hW.below (B := w1.heap.size) (fun _ h => h.elim) (Nat.le_refl _)).cell (p := ⟨b1, o1 + 3, none⟩) hb1 |>.trans k3, (hW.below (B := w1.heap.size) (fun _ h => h.elim) (Nat.le_refl _)).cell (p := ⟨b1, o1 + 4, none⟩) hb1 |>.trans k4, (hW.below (B := w1.heap.size) (fun _ h => h.elim) (Nat.le_refl _)).cell (p := ⟨b1, o1 + 5, none⟩) hb1 |>.trans k5, (hW.below (B := w1.heap.size) (fun _ h => h.elim) (Nat.le_refl _)).cell (p := ⟨b1, o1 + 6, none⟩) hb1 |>.trans k6, (hW.below (B := w1.heap.size) (fun _ h => h.elim) (Nat.le_refl _)).cell (p := ⟨b1, o1 + 7, none⟩) hb1 |>.trans k7⟩ : _ ∧ _ ∧ _ ∧ _ ∧ _ ∧ _ ∧ _ ∧ _))
      replace HS := Lib.hid HS.out.drew
      replace HO := Lib.hid HO.out.drew
      replace HD := Lib.hid HD.out.drew
      have hz1 : w.heap.size ≤ w1.drew.heap.size := hzw
      replace hb1 : b1 < w1.drew.heap.size := hb1
      generalize (w1).drew = z1 at *
      refine s_take (i := 0) (v := ?_) rfl (by kernel_rfl) (by kernel_rfl) (by kernel_rfl) (k0 := 0) (by kernel_rfl) (by kernel_rfl) (.inl rfl) (fun _ _ _ h => h) (by rfl) HC.out ?_ ?_
      rotate_left
      · intro W hW
        go_simp
        first | done | rfl
      simp only [Act.put, List.setIfInBounds_toArray, List.set_cons_zero, List.set_cons_succ, List.getElem_toArray, List.getElem_cons_zero]
      refine s_take (i := 1) (v := ?_) rfl (by kernel_rfl) (by kernel_rfl) (by kernel_rfl) (k0 := 1) (by kernel_rfl) (by kernel_rfl) (.inl rfl) (fun _ _ _ h => h) (by rfl) HC.out ?_ ?_
      rotate_left
      · intro W hW
        go_simp
        first | done | rfl
      simp only [Act.put, List.setIfInBounds_toArray, List.set_cons_zero, List.set_cons_succ, List.getElem_toArray, List.getElem_cons_zero, List.getElem_cons_succ]
      refine s_take (i := 2) (v := ?_) rfl (by kernel_rfl) (by kernel_rfl) (by kernel_rfl) (k0 := 2) (by kernel_rfl) (by kernel_rfl) (.inl rfl) (fun _ _ _ h => h) (by rfl) HC.out ?_ ?_
      rotate_left
      · intro W hW
        obtain ⟨k0, k1, k2, k3, k4, k5, k6, k7⟩ := HX.out _ hW
        go_simp
        first | done | rfl
      simp only [Act.put, List.setIfInBounds_toArray, List.set_cons_zero, List.set_cons_succ, List.getElem_toArray, List.getElem_cons_zero, List.getElem_cons_succ]
      refine s_take (i := 3) (v := ?_) rfl (by kernel_rfl) (by kernel_rfl) (by kernel_rfl) (k0 := 3) (by kernel_rfl) (by kernel_rfl) (.inl rfl) (fun _ _ _ h => h) (by rfl) HC.out ?_ ?_
      rotate_left
      · intro W hW
        go_simp
        first | done | rfl
      simp only [Act.put, List.setIfInBounds_toArray, List.set_cons_zero, List.set_cons_succ, List.getElem_toArray, List.getElem_cons_zero, List.getElem_cons_succ]
      refine s_take (i := 4) (v := ?_) rfl (by kernel_rfl) (by kernel_rfl) (by kernel_rfl) (k0 := 4) (by kernel_rfl) (by kernel_rfl) (.inl rfl) (fun _ _ _ h => h) (by rfl) HC.out ?_ ?_
      rotate_left
      · intro W hW
        go_simp
        first | done | rfl
      simp only [Act.put, List.setIfInBounds_toArray, List.set_cons_zero, List.set_cons_succ, List.getElem_toArray, List.getElem_cons_zero, List.getElem_cons_succ]
      refine s_take (i := 5) (v := ?_) rfl (by kernel_rfl) (by kernel_rfl) (by kernel_rfl) (k0 := 5) (by kernel_rfl) (by kernel_rfl) (.inl rfl) (fun _ _ _ h => h) (by rfl) HC.out ?_ ?_
      rotate_left
      · intro W hW
        obtain ⟨k0, k1, k2, k3, k4, k5, k6, k7⟩ := HX.out _ hW
        go_simp
        first | done | rfl
      simp only [Act.put, List.setIfInBounds_toArray, List.set_cons_zero, List.set_cons_succ, List.getElem_toArray, List.getElem_cons_zero, List.getElem_cons_succ]
      refine s_take (i := 6) (v := ?_) rfl (by kernel_rfl) (by kernel_rfl) (by kernel_rfl) (k0 := 6) (by kernel_rfl) (by kernel_rfl) (.inl rfl) (fun _ _ _ h => h) (by rfl) HC.out ?_ ?_
      rotate_left
      · intro W hW
        go_simp
        first | done | rfl
      simp only [Act.put, List.setIfInBounds_toArray, List.set_cons_zero, List.set_cons_succ, List.getElem_toArray, List.getElem_cons_zero, List.getElem_cons_succ]
      refine s_take (i := 7) (v := ?_) rfl (by kernel_rfl) (by kernel_rfl) (by kernel_rfl) (k0 := 7) (by kernel_rfl) (by kernel_rfl) (.inl rfl) (fun _ _ _ h => h) (by rfl) HC.out ?_ ?_
      rotate_left
      · intro W hW
        go_simp
        first | done | rfl
      simp only [Act.put, List.setIfInBounds_toArray, List.set_cons_zero, List.set_cons_succ, List.getElem_toArray, List.getElem_cons_zero, List.getElem_cons_succ]
      refine s_take (i := 8) (v := ?_) rfl (by kernel_rfl) (by kernel_rfl) (by kernel_rfl) (k0 := 8) (by kernel_rfl) (by kernel_rfl) (.inl rfl) (fun _ _ _ h => h) (by rfl) HC.out ?_ ?_
      rotate_left
      · intro W hW
        obtain ⟨k0, k1, k2, k3, k4, k5, k6, k7⟩ := HX.out _ hW
        go_simp
        first | done | rfl
      simp only [Act.put, List.setIfInBounds_toArray, List.set_cons_zero, List.set_cons_succ, List.getElem_toArray, List.getElem_cons_zero, List.getElem_cons_succ]
      refine s_take (i := 9) (v := ?_) rfl (by kernel_rfl) (by kernel_rfl) (by kernel_rfl) (k0 := 9) (by kernel_rfl) (by kernel_rfl) (.inl rfl) (fun _ _ _ h => h) (by rfl) HC.out ?_ ?_
      rotate_left
      · intro W hW
        go_simp
        first | done | rfl
      simp only [Act.put, List.setIfInBounds_toArray, List.set_cons_zero, List.set_cons_succ, List.getElem_toArray, List.getElem_cons_zero, List.getElem_cons_succ]
      refine s_take (i := 10) (v := ?_) rfl (by kernel_rfl) (by kernel_rfl) (by kernel_rfl) (k0 := 10) (by kernel_rfl) (by kernel_rfl) (.inl rfl) (fun _ _ _ h => h) (by rfl) HC.out ?_ ?_
      rotate_left
      · intro W hW
        go_simp
        first | done | rfl
      simp only [Act.put, List.setIfInBounds_toArray, List.set_cons_zero, List.set_cons_succ, List.getElem_toArray, List.getElem_cons_zero, List.getElem_cons_succ]
      refine s_take (i := 11) (v := ?_) rfl (by kernel_rfl) (by kernel_rfl) (by kernel_rfl) (k0 := 11) (by kernel_rfl) (by kernel_rfl) (.inl rfl) (fun _ _ _ h => h) (by rfl) HC.out ?_ ?_
      rotate_left
      · intro W hW
        obtain ⟨k0, k1, k2, k3, k4, k5, k6, k7⟩ := HX.out _ hW
        go_simp
        first | done | rfl
      simp only [Act.put, List.setIfInBounds_toArray, List.set_cons_zero, List.set_cons_succ, List.getElem_toArray, List.getElem_cons_zero, List.getElem_cons_succ]
      refine s_take (i := 12) (v := ?_) rfl (by kernel_rfl) (by kernel_rfl) (by kernel_rfl) (k0 := 12) (by kernel_rfl) (by kernel_rfl) (.inl rfl) (fun _ _ _ h => h) (by rfl) HC.out ?_ ?_
      rotate_left
      · intro W hW
        go_simp
        first | done | rfl
      simp only [Act.put, List.setIfInBounds_toArray, List.set_cons_zero, List.set_cons_succ, List.getElem_toArray, List.getElem_cons_zero, List.getElem_cons_succ]
      refine s_take (i := 13) (v := ?_) rfl (by kernel_rfl) (by kernel_rfl) (by kernel_rfl) (k0 := 13) (by kernel_rfl) (by kernel_rfl) (.inl rfl) (fun _ _ _ h => h) (by rfl) HC.out ?_ ?_
      rotate_left
      · intro W hW
        go_simp
        first | done | rfl
      simp only [Act.put, List.setIfInBounds_toArray, List.set_cons_zero, List.set_cons_succ, List.getElem_toArray, List.getElem_cons_zero, List.getElem_cons_succ]
      refine s_take (i := 14) (v := ?_) rfl (by kernel_rfl) (by kernel_rfl) (by kernel_rfl) (k0 := 14) (by kernel_rfl) (by kernel_rfl) (.inl rfl) (fun _ _ _ h => h) (by rfl) HC.out ?_ ?_
      rotate_left
      · intro W hW
        obtain ⟨k0, k1, k2, k3, k4, k5, k6, k7⟩ := HX.out _ hW
        go_simp
        first | done | rfl
      simp only [Act.put, List.setIfInBounds_toArray, List.set_cons_zero, List.set_cons_succ, List.getElem_toArray, List.getElem_cons_zero, List.getElem_cons_succ]
      refine s_take (i := 15) (v := ?_) rfl (by kernel_rfl) (by kernel_rfl) (by kernel_rfl) (k0 := 15) (by kernel_rfl) (by kernel_rfl) (.inl rfl) (fun _ _ _ h => h) (by rfl) HC.out ?_ ?_
      rotate_left
      · intro W hW
        go_simp
        first | done | rfl
      simp only [Act.put, List.setIfInBounds_toArray, List.set_cons_zero, List.set_cons_succ, List.getElem_toArray, List.getElem_cons_zero, List.getElem_cons_succ]
      refine s_take (i := 16) (v := ?_) rfl (by kernel_rfl) (by kernel_rfl) (by kernel_rfl) (k0 := 16) (by kernel_rfl) (by kernel_rfl) (.inl rfl) (fun _ _ _ h => h) (by rfl) HC.out ?_ ?_
      rotate_left
      · intro W hW
        go_simp
        first | done | rfl
      simp only [Act.put, List.setIfInBounds_toArray, List.set_cons_zero, List.set_cons_succ, List.getElem_toArray, List.getElem_cons_zero, List.getElem_cons_succ]
      refine s_take (i := 17) (v := ?_) rfl (by kernel_rfl) (by kernel_rfl) (by kernel_rfl) (k0 := 17) (by kernel_rfl) (by kernel_rfl) (.inl rfl) (fun _ _ _ h => h) (by rfl) HC.out ?_ ?_
      rotate_left
      · intro W hW
        obtain ⟨k0, k1, k2, k3, k4, k5, k6, k7⟩ := HX.out _ hW
        go_simp
        first | done | rfl
      simp only [Act.put, List.setIfInBounds_toArray, List.set_cons_zero, List.set_cons_succ, List.getElem_toArray, List.getElem_cons_zero, List.getElem_cons_succ]
      refine s_take (i := 18) (v := ?_) rfl (by kernel_rfl) (by kernel_rfl) (by kernel_rfl) (k0 := 18) (by kernel_rfl) (by kernel_rfl) (.inl rfl) (fun _ _ _ h => h) (by rfl) HC.out ?_ ?_
      rotate_left
      · intro W hW
        go_simp
        first | done | rfl
      simp only [Act.put, List.setIfInBounds_toArray, List.set_cons_zero, List.set_cons_succ, List.getElem_toArray, List.getElem_cons_zero, List.getElem_cons_succ]
      refine s_one (i := 19) (by kernel_rfl) ?_
      refine ones_run (i := 19) (v := ?_) (w' := World.alloc (z1) (.cells #[.int .i64 0, .int .i64 0, .int .i64 0, .int .i64 0, .int .i64 0, .int .i64 0] 55)) rfl (by rfl) ?_ ?_ ?_
      rotate_left 1
      · go_simp
        first | done | rfl | (constructor <;> rfl)
      · exact fun _ => HC.out.trans (Below.kept ((Below.refl _ _).alloc (Nat.le_refl _) _))
      simp only [Act.put, List.setIfInBounds_toArray, List.set_cons_zero, List.set_cons_succ, List.getElem_toArray, List.getElem_cons_zero, List.getElem_cons_succ]
      have gcge := HC.out.size
      have HG := Lib.hid (Whole.new (z1) 55 #[.int .i64 0, .int .i64 0, .int .i64 0, .int .i64 0, .int .i64 0, .int .i64 0])
      replace HC := Lib.hid (HC.out.trans (Below.kept ((Below.refl _ _).alloc (Nat.le_refl _) (.cells #[.int .i64 0, .int .i64 0, .int .i64 0, .int .i64 0, .int .i64 0, .int .i64 0] 55))))
      generalize hw6 : World.alloc (z1) _ = z2 at *
      clear hw6
      refine s_one (i := 20) (by kernel_rfl) ?_
      obtain ⟨c_0, c_1, c_2, c_3, c_4, c_5⟩ := HG.out.c6
      obtain ⟨f_0, f_1, f_2, f_3, f_4, f_5⟩ := HG.out.f6
      refine ones_skip (i := 20) (w' := ?_) rfl (by rfl) ?_ ?_ ?_
      rotate_left 1
      · go_simp
        first | done | rfl
      · exact fun _ => ((((((HC.out.set (p := ⟨z1.heap.size, 0, none⟩) (.inr (by omega)) (.int .i64 n2)).set (p := ⟨z1.heap.size, 1, none⟩) (.inr (by omega)) (.int .i64 n3)).set (p := ⟨z1.heap.size, 2, none⟩) (.inr (by omega)) (.int .i64 n4)).set (p := ⟨z1.heap.size, 3, none⟩) (.inr (by omega)) (.int .i64 n5)).set (p := ⟨z1.heap.size, 4, none⟩) (.inr (by omega)) (.int .i64 n6)).set (p := ⟨z1.heap.size, 5, none⟩) (.inr (by omega)) (.int .i64 n7))
      simp only [Act.put, List.getElem_toArray, List.getElem_cons_zero, List.getElem_cons_succ]
      clear c_0 f_0 c_1 f_1 c_2 f_2 c_3 f_3 c_4 f_4 c_5 f_5
      replace HG := Lib.hid (show Whole _ _ _ #[.int .i64 n2, .int .i64 n3, .int .i64 n4, .int .i64 n5, .int .i64 n6, .int .i64 n7] from ((((((HG.out.set 0 (.int .i64 n2)).set 1 (.int .i64 n3)).set 2 (.int .i64 n4)).set 3 (.int .i64 n5)).set 4 (.int .i64 n6)).set 5 (.int .i64 n7)))
      replace HC := Lib.hid ((((((HC.out.set (p := ⟨z1.heap.size, 0, none⟩) (.inr (by omega)) (.int .i64 n2)).set (p := ⟨z1.heap.size, 1, none⟩) (.inr (by omega)) (.int .i64 n3)).set (p := ⟨z1.heap.size, 2, none⟩) (.inr (by omega)) (.int .i64 n4)).set (p := ⟨z1.heap.size, 3, none⟩) (.inr (by omega)) (.int .i64 n5)).set (p := ⟨z1.heap.size, 4, none⟩) (.inr (by omega)) (.int .i64 n6)).set (p := ⟨z1.heap.size, 5, none⟩) (.inr (by omega)) (.int .i64 n7))
      generalize hw6 : (World.setCell (World.setCell (World.setCell (World.setCell (World.setCell (World.setCell z2 ⟨z1.heap.size, 0, none⟩ (.int .i64 n2)) ⟨z1.heap.size, 1, none⟩ (.int .i64 n3)) ⟨z1.heap.size, 2, none⟩ (.int .i64 n4)) ⟨z1.heap.size, 3, none⟩ (.int .i64 n5)) ⟨z1.heap.size, 4, none⟩ (.int .i64 n6)) ⟨z1.heap.size, 5, none⟩ (.int .i64 n7)) = z3 at *
      clear hw6
      refine s_done (by kernel_rfl) ?_
      have HSS := Lib.hid (HS.out.keep HC.out (fun h => h) (fun _ _ h => h))
      clear HS
      have HS := HSS
      clear HSS
      replace HO := Lib.hid (HO.out.keep HC.out (fun _ _ h => h))
      replace HD := Lib.hid (HD.out.trans (HC.out.below (B := w.heap.size) (fun _ h => h.elim) hz1))
      replace HK := Lib.hid (HX.out _ HC.out)
      have hgcA : lbk A ≠ some z1.heap.size := fun e => by have := (HAL.out _ e).2; omega
      replace hb1 : b1 < z3.heap.size := by have := HC.out.size; omega
      clear HX HC
      generalize hw2 : z3 = w2 at *
      clear hw2
      go_simp
      go_wp2_with fail
      refine s_start (fun W => Kept (fun b => lbk A = some b) (w2).drew W) [] (by kernel_rfl) ?_
      have HC := Lib.hid (Kept.refl (fun b => lbk A = some b) (w2).drew)
      have HXX := Lib.hid (fun W (hW : Kept (fun b => lbk A = some b) w2.drew W) => (⟨(World.cell?_of_block (a := ⟨b1, o1 + 1, none⟩) (hW.block b1 hb1 (fun e => hb1A e))).trans HK.out.2.1, (hW.whole (show Whole w2.drew _ _ _ from HS.out.st) (fun e => hgA e)).c3.1, (hW.whole (show Whole w2.drew _ _ _ from HS.out.st) (fun e => hgA e)).c3.2.1, (hW.whole (show Whole w2.drew _ _ _ from HS.out.st) (fun e => hgA e)).c3.2.2, (hW.whole (show Whole w2.drew _ _ _ from HG.out) (fun e => hgcA e)).c6⟩ : _ ∧ _ ∧ _ ∧ _ ∧ _))
      rw [HNN.out] at HXX
      replace HS := Lib.hid HS.out.drew
      replace HO := Lib.hid HO.out.drew
      replace HD := Lib.hid HD.out.drew
      replace HG := Lib.hid (show Whole w2.drew _ _ _ from HG.out)
      have hz2 : w.heap.size ≤ w2.drew.heap.size := HD.out.size
      have hz9 : base ≤ w2.drew.heap.size := by omega
      have hg2 : g < w2.drew.heap.size := HS.out.glt
      generalize (w2).drew = y1 at *
      refine s_take (i := 0) (v := ?_) rfl (by kernel_rfl) (by kernel_rfl) (by kernel_rfl) (k0 := 0) (by kernel_rfl) (by kernel_rfl) (.inl rfl) (fun _ _ _ h => h) (by rfl) HC.out ?_ ?_
      rotate_left
      · intro W hW
        go_simp
        first | done | rfl
      simp only [Act.put, List.setIfInBounds_toArray, List.set_cons_zero, List.set_cons_succ, List.getElem_toArray, List.getElem_cons_zero]
      refine s_take (i := 1) (v := ?_) rfl (by kernel_rfl) (by kernel_rfl) (by kernel_rfl) (k0 := 1) (by kernel_rfl) (by kernel_rfl) (.inl rfl) (fun _ _ _ h => h) (by rfl) HC.out ?_ ?_
      rotate_left
      · intro W hW
        go_simp
        first | done | rfl
      simp only [Act.put, List.setIfInBounds_toArray, List.set_cons_zero, List.set_cons_succ, List.getElem_toArray, List.getElem_cons_zero, List.getElem_cons_succ]
      refine s_take (i := 2) (v := ?_) rfl (by kernel_rfl) (by kernel_rfl) (by kernel_rfl) (k0 := 2) (by kernel_rfl) (by kernel_rfl) (.inl rfl) (fun _ _ _ h => h) (by rfl) HC.out ?_ ?_
      rotate_left
      · intro W hW
        go_simp
        first | done | rfl
      simp only [Act.put, List.setIfInBounds_toArray, List.set_cons_zero, List.set_cons_succ, List.getElem_toArray, List.getElem_cons_zero, List.getElem_cons_succ]
      refine s_take (i := 3) (v := ?_) rfl (by kernel_rfl) (by kernel_rfl) (by kernel_rfl) (k0 := 3) (by kernel_rfl) (by kernel_rfl) (.inl rfl) (fun _ _ _ h => h) (by rfl) HC.out ?_ ?_
      rotate_left
      · intro W hW
        obtain ⟨kk, q0, q1, q2, j0, j1, j2, j3, j4, j5⟩ := HXX.out _ hW
        go_simp
        first | done | rfl
      simp only [Act.put, List.setIfInBounds_toArray, List.set_cons_zero, List.set_cons_succ, List.getElem_toArray, List.getElem_cons_zero, List.getElem_cons_succ]
      refine s_take (i := 4) (v := ?_) rfl (by kernel_rfl) (by kernel_rfl) (by kernel_rfl) (k0 := 4) (by kernel_rfl) (by kernel_rfl) (.inl rfl) (fun _ _ _ h => h) (by rfl) HC.out ?_ ?_
      rotate_left
      · intro W hW
        go_simp
        first | done | rfl
      simp only [Act.put, List.setIfInBounds_toArray, List.set_cons_zero, List.set_cons_succ, List.getElem_toArray, List.getElem_cons_zero, List.getElem_cons_succ]
      refine s_take (i := 5) (v := ?_) rfl (by kernel_rfl) (by kernel_rfl) (by kernel_rfl) (k0 := 5) (by kernel_rfl) (by kernel_rfl) (.inl rfl) (fun _ _ _ h => h) (by rfl) HC.out ?_ ?_
      rotate_left
      · intro W hW
        go_simp
        first | done | rfl
      simp only [Act.put, List.setIfInBounds_toArray, List.set_cons_zero, List.set_cons_succ, List.getElem_toArray, List.getElem_cons_zero, List.getElem_cons_succ]
      refine s_take (i := 6) (v := ?_) rfl (by kernel_rfl) (by kernel_rfl) (by kernel_rfl) (k0 := 6) (by kernel_rfl) (by kernel_rfl) (.inl rfl) (fun _ _ _ h => h) (by rfl) HC.out ?_ ?_
      rotate_left
      · intro W hW
        obtain ⟨kk, q0, q1, q2, j0, j1, j2, j3, j4, j5⟩ := HXX.out _ hW
        go_simp
        first | done | rfl
      simp only [Act.put, List.setIfInBounds_toArray, List.set_cons_zero, List.set_cons_succ, List.getElem_toArray, List.getElem_cons_zero, List.getElem_cons_succ]
      refine s_take (i := 7) (v := ?_) rfl (by kernel_rfl) (by kernel_rfl) (by kernel_rfl) (k0 := 7) (by kernel_rfl) (by kernel_rfl) (.inl rfl) (fun _ _ _ h => h) (by rfl) HC.out ?_ ?_
      rotate_left
      · intro W hW
        obtain ⟨kk, q0, q1, q2, j0, j1, j2, j3, j4, j5⟩ := HXX.out _ hW
        go_simp
        first | done | rfl
      simp only [Act.put, List.setIfInBounds_toArray, List.set_cons_zero, List.set_cons_succ, List.getElem_toArray, List.getElem_cons_zero, List.getElem_cons_succ]
      refine s_take (i := 8) (v := ?_) rfl (by kernel_rfl) (by kernel_rfl) (by kernel_rfl) (k0 := 8) (by kernel_rfl) (by kernel_rfl) (.inl rfl) (fun _ _ _ h => h) (by rfl) HC.out ?_ ?_
      rotate_left
      · intro W hW
        go_simp
        first | done | rfl
      simp only [Act.put, List.setIfInBounds_toArray, List.set_cons_zero, List.set_cons_succ, List.getElem_toArray, List.getElem_cons_zero, List.getElem_cons_succ]
      refine s_one (i := 9) (by kernel_rfl) ?_
      refine ones_run (i := 9) (v := ?_) (w' := ?_) rfl (by rfl) ?_ ?_ ?_
      rotate_left 2
      · go_simp
        first | done | (constructor <;> rfl)
      · exact fun _ => HC.out.trans (Below.kept ((Below.refl _ _).alloc (Nat.le_refl _) _))
      simp only [Act.put, List.setIfInBounds_toArray, List.set_cons_zero, List.set_cons_succ, List.getElem_toArray, List.getElem_cons_zero, List.getElem_cons_succ]
      have HN := Lib.hid (Sl.new1 (y1) 57 (α := E) (n1, n2, n3, n4, n5, n6, n7) #[.int .i64 n1, .int .i64 n2, .int .i64 n3, .int .i64 n4, .int .i64 n5, .int .i64 n6, .int .i64 n7] hwf rfl)
      replace HO := Lib.hid (HO.out.alloc (.cells #[.int .i64 n1, .int .i64 n2, .int .i64 n3, .int .i64 n4, .int .i64 n5, .int .i64 n6, .int .i64 n7] 57))
      replace HC := Lib.hid (HC.out.trans (Below.kept ((Below.refl _ _).alloc (Nat.le_refl _) (.cells #[.int .i64 n1, .int .i64 n2, .int .i64 n3, .int .i64 n4, .int .i64 n5, .int .i64 n6, .int .i64 n7] 57))))
      generalize hgN : y1.heap.size = gN at *
      have HGN := Lib.hid hgN
      clear hgN
      generalize (y1).alloc (.cells #[.int .i64 n1, .int .i64 n2, .int .i64 n3, .int .i64 n4, .int .i64 n5, .int .i64 n6, .int .i64 n7] 57) = y2 at *
      refine s_one (i := 10) (by kernel_rfl) ?_
      have hb0 : base ≤ y2.heap.size := by have := HC.out.size; have := HGN.out; omega
      refine ones_append_old (i := 10) rfl (by rfl) _ _ rfl rowE base (.slice A n c) s.2 rfl HO.out (gN + 1) _ [(n1, n2, n3, n4, n5, n6, n7)] rfl HN.out (by rw [HNN.out]; simp; unfold maxLen; omega) (by rw [HNN.out]; simp; omega) hb0 (fun W hg => HC.out.trans (by have := grown_kept hg; rw [own_lbk] at this; exact this)) ?_
      intro v4 y3 hown4 hold4 hgr4 hat4
      rw [own_lbk] at hgr4 hat4
      have hC1 := HC.out.size
      replace HC := Lib.hid (HC.out.trans (grown_kept hgr4))
      have HO4 := Lib.hid hown4
      have HOL := Lib.hid hold4
      clear hown4 hold4 hgr4 HN HO
      obtain ⟨A4, d4, rfl, -, -⟩ := HO4.out.sl.form
      rw [HL0.out] at HO4 hat4 ⊢
      rw [own_lbk] at hat4
      simp only [Act.put, List.setIfInBounds_toArray, List.set_cons_zero, List.set_cons_succ, List.getElem_toArray, List.getElem_cons_zero, List.getElem_cons_succ]
      refine s_take (i := 11) (v := ?_) rfl (by kernel_rfl) (by kernel_rfl) (by kernel_rfl) (k0 := 11) (by kernel_rfl) (by kernel_rfl) (.inl rfl) (fun _ _ _ h => h) (by rfl) HC.out ?_ ?_
      rotate_left
      · intro W hW
        go_simp
        first | done | rfl
      simp only [Act.put, List.setIfInBounds_toArray, List.set_cons_zero, List.set_cons_succ, List.getElem_toArray, List.getElem_cons_zero, List.getElem_cons_succ]
      refine s_done (by kernel_rfl) ?_
      have hsz := HC.out.size
      have hgN := HGN.out
      have hWS := HC.out.whole HS.out.st (fun e => hgA e)
      have HBB := Lib.hid (HD.out.mono hbw |>.trans (HC.out.below (B := base) (fun b hb => (HAL.out b hb).1) (by omega)))
      have HW4 := Lib.hid hWS
      clear hWS HXX HS HG
      have ho4 : ∀ b, lbk A4 = some b → b ≠ g := fun b hb => by
        rintro rfl
        rcases hat4 with e | e
        · exact hgA (e.symm.trans hb)
        · have := e.symm.trans hb
          injection this with this
          omega
      have HOF := Lib.hid ho4
      clear ho4 hat4 hgN
      generalize hw5 : y3 = w5 at *
      clear hw5
      go_simp
      go_wp2_with fail
      with_reducible refine (HMY.out _ _ HO4.out.sl).mono ?_
      rintro e w6 ⟨rfl, hb⟩
      have HW6 := Lib.hid (HW4.out.below hb HW4.out.lt)
      have HO6 := Lib.hid (HO4.out.below hb)
      have HOL6 := Lib.hid (HOL.out.below hb)
      replace HBB := Lib.hid (HBB.out.trans (hb.mono (show base ≤ w5.heap.size by have := HBB.out.size; omega)))
      clear hb HW4 HO4 HOL HC
      obtain ⟨q0, q1, q2⟩ := HW6.out.c3
      obtain ⟨f0, f1, f2⟩ := HW6.out.f3
      rcases q with _ | _
      · obtain rfl : P = none := by have := HP.out; simpa using this.symm
        go_wp2_with fail
        go_ret
        obtain rfl := HNN.out
        exact ⟨A, c, rfl, ⟨HW6.out, HOL6.out, hgA⟩, HBB.out⟩
      · obtain rfl : P = some (s.1, s.2 ++ [(n1, n2, n3, n4, n5, n6, n7)]) := by have := HP.out; simpa using this.symm
        go_wp2_with fail
        go_ret
        obtain rfl := HNN.out
        have hR := (SMem.mk HW6.out HOL6.out hgA).log (A2 := A4) (c2 := d4) (l2 := s.2 ++ [(n1, n2, n3, n4, n5, n6, n7)]) (by rw [HL0.out]; exact HO6.out) (fun e => HOF.out g e rfl)
        rw [HL0.out] at hR
        exact ⟨A4, d4, rfl, hR, HBB.out.setCell (p := ⟨g, 2, none⟩) hbase _⟩

    · rw [addE_at hat]
      generalize hn : s.2.length = n at *
      have d2 : (n0 != ((n : Int) + 1)) = true := by simpa using hat
      clear hn hat HO HAL
      go_enter Tryd.func48, Tryd.ntmps48
      go_wp2_with fail
      go_quiet (fail)
      go_wp2_with fail
      go_ret
      exact ⟨A, c, rfl, HS.out.stay (below_drewN (Below.refl _ _) _), below_drewN (Below.refl _ _) _ |>.mono hbw⟩
  · rw [addE_no h1]
    have hd : ((N.length : Int) != 8) = true := by simpa using (show ¬ (N.length : Int) = 8 by omega)
    clear hN h1 h hmay
    generalize N.length = n at *
    go_enter Tryd.func48, Tryd.ntmps48
    go_wp2_with fail
    go_quiet (fail)
    go_wp2_with fail
    go_ret
    exact ⟨A, c, rfl, HS.out.stay (below_drewN (Below.refl _ _) _), below_drewN (Below.refl _ _) _ |>.mono hbw⟩
end Go.Proofs.YtcacebkbfnnjbaaDoor

/-
  Results that lie in two cells: a ballot and a log, or these and a number.
-/


namespace Go.Proofs.YtcacebkbfnnjbaaDoor
open Go.RowKit

section
variable {fn : Func} {p q u : Tmp} {tmps : Array Value} {w : World} {g g2 : Nat} {x0 x1 y0 y1 y2 : Value}
theorem results_bl (h : fn.results = #[.cell p 30, .cell q 38]) (hp : tmps.getD p undef = .pointer (some ⟨g, 0, none⟩)) (hq : tmps.getD q undef = .pointer (some ⟨g2, 0, none⟩))
    (h1 : Whole w g 30 #[x0, x1]) (h2 : Whole w g2 38 #[y0, y1, y2]) : (results fn tmps).run Tryd.prog w = .ok (.tuple #[.agg #[x0, x1], .agg #[y0, y1, y2]]) w := by
  have e1 := run_loadVar_row w g 30 _ _ _ _ h1 Tryd.underlying30 rfl (by kernel_rfl)
  have e2 := run_loadVar_row w g2 38 _ _ _ _ h2 Tryd.underlying38 rfl (by kernel_rfl)
  simp only [results, h]
  rw [Array.getD_eq_getD_getElem?] at hp hq
  simp [Sem.run_bind, Result.andThen, hp, hq, asAddr, e1, e2]
theorem results_bln (h : fn.results = #[.cell p 30, .cell q 38, .tmp u]) (hp : tmps.getD p undef = .pointer (some ⟨g, 0, none⟩)) (hq : tmps.getD q undef = .pointer (some ⟨g2, 0, none⟩))
    (h1 : Whole w g 30 #[x0, x1]) (h2 : Whole w g2 38 #[y0, y1, y2]) : (results fn tmps).run Tryd.prog w = .ok (.tuple #[.agg #[x0, x1], .agg #[y0, y1, y2], tmps.getD u undef]) w := by
  have e1 := run_loadVar_row w g 30 _ _ _ _ h1 Tryd.underlying30 rfl (by kernel_rfl)
  have e2 := run_loadVar_row w g2 38 _ _ _ _ h2 Tryd.underlying38 rfl (by kernel_rfl)
  simp only [results, h]
  rw [Array.getD_eq_getD_getElem?] at hp hq
  simp [Sem.run_bind, Result.andThen, hp, hq, asAddr, e1, e2]
end
/-- What Load answers: a ballot, a log of the call's own. -/
def LoadOut (w : World) (s : Vl.S) (e : Ending) (w' : World) : Prop :=
  ∃ A c, e = .returned (.tuple #[bv s.1.1 s.1.2, lv 0 0 (.slice A s.2.length c)]) ∧ Own w' w.heap.size 57 (.slice A s.2.length c) s.2 ∧ Below w.heap.size w w'
/-- What Read answers: these, and how many bytes. -/
def RdOut (w : World) (r : Vl.S × Nat) (e : Ending) (w' : World) : Prop :=
  ∃ A c, e = .returned (.tuple #[bv r.1.1.1 r.1.1.2, lv 0 0 (.slice A r.1.2.length c), .int .i64 (r.2 : Int)]) ∧ Own w' w.heap.size 57 (.slice A r.1.2.length c) r.1.2 ∧ Below w.heap.size w w'
end Go.Proofs.YtcacebkbfnnjbaaDoor

/-
  What Load answers.
-/



namespace Go.Proofs.YtcacebkbfnnjbaaDoor
open Go.RowKit

set_option maxRecDepth 100000 in
set_option maxHeartbeats 800000 in
theorem load_any (g : Nat) (v : Vl.V) (hl : v.s.2.length ≤ 64) (A : Option Addr) (c : Nat) (A2 : Option Addr) (c2 : Nat) (w : World) (h : VMem g w v A c A2 c2) :
    Calls Tryd.prog 18 #[.pointer (some ⟨g, 0, none⟩)] w (LoadOut w v.s) := by
  have hg := h.glt
  have hb1 : Below w.heap.size w (w.alloc (.cells #[.int .i64 0, .int .i64 0] 30)) := (Below.refl _ _).alloc (Nat.le_refl _) _
  have HD := Lib.hid (hb1.alloc hb1.size (.cells #[.int .i64 0, .int .i64 0, .slice none 0 0] 38))
  have HV := Lib.hid (h.stay HD.out)
  have HG1 := Lib.hid ((Whole.new w 30 #[.int .i64 0, .int .i64 0]).alloc (.cells #[.int .i64 0, .int .i64 0, .slice none 0 0] 38))
  have HG2 := Lib.hid (Whole.new1 w (.cells #[.int .i64 0, .int .i64 0] 30) 38 #[.int .i64 0, .int .i64 0, .slice none 0 0])
  have hsz : ((w.alloc (.cells #[.int .i64 0, .int .i64 0] 30)).alloc (.cells #[.int .i64 0, .int .i64 0, .slice none 0 0] 38)).heap.size = w.heap.size + 2 := by simp
  have hsz1 : w.heap.size + 2 ≤ ((w.alloc (.cells #[.int .i64 0, .int .i64 0] 30)).alloc (.cells #[.int .i64 0, .int .i64 0, .slice none 0 0] 38)).heap.size := by rw [hsz]; exact Nat.le_refl _
  clear h hb1 hsz
  obtain ⟨d, sy, ⟨⟨t, vo⟩, l⟩⟩ := v
  simp only at *
  have hg1 : ∀ b, Vof g A A2 b → ¬ (b = w.heap.size ∨ b = w.heap.size + 1) := fun b hb e => by have := hg b hb; omega
  clear hg
  generalize hn : l.length = n at *
  have HN := Lib.hid hn
  clear hn
  go_enter Tryd.func18, Tryd.ntmps18
  go_wp2_with fail
  generalize hw1 : World.alloc _ (Obj.cells #[.int .i64 0, .int .i64 0, .slice none 0 0] 38) = w1 at *
  clear hw1
  refine s_start (fun W => Kept (fun b => b = w.heap.size ∨ b = w.heap.size + 1) (w1).drew W) [] (by kernel_rfl) ?_
  have HC := Lib.hid (Kept.refl (fun b => b = w.heap.size ∨ b = w.heap.size + 1) (w1).drew)
  have HX := Lib.hid (fun W (hW : Kept (fun b => b = w.heap.size ∨ b = w.heap.size + 1) w1.drew W) => ((HV.out.drew.keep hW hg1).st).c5)
  have HCL := Lib.hid (fun W (hW : Kept (fun b => b = w.heap.size ∨ b = w.heap.size + 1) w1.drew W) => clone_any (.slice A2 n c2) l (by rw [HN.out]; omega) W W.heap.size (Nat.le_refl _) (by have := (HV.out.drew.keep hW hg1).l.sl; simp only at this; rw [HN.out] at this; exact this))
  simp only [HN.out] at HX
  replace HG1 := Lib.hid (show Whole w1.drew _ _ _ from HG1.out)
  replace HG2 := Lib.hid (show Whole w1.drew _ _ _ from HG2.out)
  replace HD := Lib.hid HD.out.drew
  replace hsz1 : w.heap.size + 2 ≤ w1.drew.heap.size := hsz1
  clear HV
  generalize (w1).drew = z1 at *
  refine s_take (i := 0) (v := ?_) rfl (by kernel_rfl) (by kernel_rfl) (by kernel_rfl) (k0 := 0) (by kernel_rfl) (by kernel_rfl) (.inl rfl) (fun _ _ _ h => h) (by rfl) HC.out ?_ ?_
  rotate_left
  · intro W hW
    go_simp
    first | done | rfl
  simp only [Act.put, List.setIfInBounds_toArray, List.set_cons_zero, List.set_cons_succ, List.getElem_toArray, List.getElem_cons_zero]
  refine s_take (i := 1) (v := ?_) rfl (by kernel_rfl) (by kernel_rfl) (by kernel_rfl) (k0 := 1) (by kernel_rfl) (by kernel_rfl) (.inl rfl) (fun _ _ _ h => h) (by rfl) HC.out ?_ ?_
  rotate_left
  · intro W hW
    go_simp
    first | done | rfl
  simp only [Act.put, List.setIfInBounds_toArray, List.set_cons_zero, List.set_cons_succ, List.getElem_toArray, List.getElem_cons_zero, List.getElem_cons_succ]
  refine s_take (i := 2) (v := ?_) rfl (by kernel_rfl) (by kernel_rfl) (by kernel_rfl) (k0 := 2) (by kernel_rfl) (by kernel_rfl) (.inl rfl) (fun _ _ _ h => h) (by rfl) HC.out ?_ ?_
  rotate_left
  · intro W hW
    go_simp
    first | done | rfl
  simp only [Act.put, List.setIfInBounds_toArray, List.set_cons_zero, List.set_cons_succ, List.getElem_toArray, List.getElem_cons_zero, List.getElem_cons_succ]
  refine s_take (i := 3) (v := ?_) rfl (by kernel_rfl) (by kernel_rfl) (by kernel_rfl) (k0 := 3) (by kernel_rfl) (by kernel_rfl) (.inl rfl) (fun _ _ _ h => h) (by rfl) HC.out ?_ ?_
  rotate_left
  · intro W hW
    go_simp
    first | done | rfl
  simp only [Act.put, List.setIfInBounds_toArray, List.set_cons_zero, List.set_cons_succ, List.getElem_toArray, List.getElem_cons_zero, List.getElem_cons_succ]
  refine s_take (i := 4) (v := ?_) rfl (by kernel_rfl) (by kernel_rfl) (by kernel_rfl) (k0 := 4) (by kernel_rfl) (by kernel_rfl) (.inl rfl) (fun _ _ _ h => h) (by rfl) HC.out ?_ ?_
  rotate_left
  · intro W hW
    obtain ⟨k0, k1, k2, k3, k4⟩ := HX.out _ hW
    go_simp
    first | done | rfl
  simp only [Act.put, List.setIfInBounds_toArray, List.set_cons_zero, List.set_cons_succ, List.getElem_toArray, List.getElem_cons_zero, List.getElem_cons_succ]
  refine s_take (i := 5) (v := ?_) rfl (by kernel_rfl) (by kernel_rfl) (by kernel_rfl) (k0 := 5) (by kernel_rfl) (by kernel_rfl) (.inl rfl) (fun _ _ _ h => h) (by rfl) HC.out ?_ ?_
  rotate_left
  · intro W hW
    go_simp
    first | done | rfl
  simp only [Act.put, List.setIfInBounds_toArray, List.set_cons_zero, List.set_cons_succ, List.getElem_toArray, List.getElem_cons_zero, List.getElem_cons_succ]
  refine s_take (i := 6) (v := ?_) rfl (by kernel_rfl) (by kernel_rfl) (by kernel_rfl) (k0 := 6) (by kernel_rfl) (by kernel_rfl) (.inl rfl) (fun _ _ _ h => h) (by rfl) HC.out ?_ ?_
  rotate_left
  · intro W hW
    go_simp
    first | done | rfl
  simp only [Act.put, List.setIfInBounds_toArray, List.set_cons_zero, List.set_cons_succ, List.getElem_toArray, List.getElem_cons_zero, List.getElem_cons_succ]
  refine s_take (i := 7) (v := ?_) rfl (by kernel_rfl) (by kernel_rfl) (by kernel_rfl) (k0 := 7) (by kernel_rfl) (by kernel_rfl) (.inl rfl) (fun _ _ _ h => h) (by rfl) HC.out ?_ ?_
  rotate_left
  · intro W hW
    go_simp
    first | done | rfl
  simp only [Act.put, List.setIfInBounds_toArray, List.set_cons_zero, List.set_cons_succ, List.getElem_toArray, List.getElem_cons_zero, List.getElem_cons_succ]
  refine s_take (i := 8) (v := ?_) rfl (by kernel_rfl) (by kernel_rfl) (by kernel_rfl) (k0 := 8) (by kernel_rfl) (by kernel_rfl) (.inl rfl) (fun _ _ _ h => h) (by rfl) HC.out ?_ ?_
  rotate_left
  · intro W hW
    go_simp
    first | done | rfl
  simp only [Act.put, List.setIfInBounds_toArray, List.set_cons_zero, List.set_cons_succ, List.getElem_toArray, List.getElem_cons_zero, List.getElem_cons_succ]
  refine s_take (i := 9) (v := ?_) rfl (by kernel_rfl) (by kernel_rfl) (by kernel_rfl) (k0 := 9) (by kernel_rfl) (by kernel_rfl) (.inl rfl) (fun _ _ _ h => h) (by rfl) HC.out ?_ ?_
  rotate_left
  · intro W hW
    obtain ⟨k0, k1, k2, k3, k4⟩ := HX.out _ hW
    go_simp
    first | done | rfl
  simp only [Act.put, List.setIfInBounds_toArray, List.set_cons_zero, List.set_cons_succ, List.getElem_toArray, List.getElem_cons_zero, List.getElem_cons_succ]
  refine s_one (i := 10) (by kernel_rfl) ?_
  refine ones_call (i := 10) (f := 27) (args := ?_) rfl (by rfl) ?_ ?_
  rotate_left
  · go_simp
    first | done | rfl
  with_reducible refine (HCL.out _ HC.out).mono ?_
  rintro e z2 ⟨A3, c3, rfl, ho, hb⟩
  refine ⟨_, rfl, fun _ => HC.out.trans (Below.kept hb), ?_⟩
  replace HC := Lib.hid (HC.out.trans (Below.kept hb))
  rw [HN.out] at ho ⊢
  have HO := Lib.hid (ho.down (show w.heap.size + 2 ≤ _ by have := HC.out.size; have := hb.size; omega))
  replace HG1 := Lib.hid (HG1.out.below hb HG1.out.lt)
  replace HG2 := Lib.hid (HG2.out.below hb HG2.out.lt)
  clear ho
  clear hb
  simp only [Act.put, List.setIfInBounds_toArray, List.set_cons_zero, List.set_cons_succ, List.getElem_toArray, List.getElem_cons_zero, List.getElem_cons_succ]
  refine s_take (i := 11) (v := ?_) rfl (by kernel_rfl) (by kernel_rfl) (by kernel_rfl) (k0 := 11) (by kernel_rfl) (by kernel_rfl) (.inl rfl) (fun _ _ _ h => h) (by rfl) HC.out ?_ ?_
  rotate_left
  · intro W hW
    go_simp
    first | done | rfl
  simp only [Act.put, List.setIfInBounds_toArray, List.set_cons_zero, List.set_cons_succ, List.getElem_toArray, List.getElem_cons_zero, List.getElem_cons_succ]
  refine s_one (i := 12) (by kernel_rfl) ?_
  obtain ⟨c_0, c_1⟩ := HG1.out.c2
  obtain ⟨f_0, f_1⟩ := HG1.out.f2
  refine ones_skip (i := 12) (w' := ?_) rfl (by rfl) ?_ ?_ ?_
  rotate_left 1
  · go_simp
    first | done | rfl
  · exact fun _ => ((HC.out.set (p := ⟨w.heap.size, 0, none⟩) (.inl (.inl rfl)) (.int .i64 t)).set (p := ⟨w.heap.size, 1, none⟩) (.inl (.inl rfl)) (.int .i64 vo))
  simp only [Act.put, List.getElem_toArray, List.getElem_cons_zero, List.getElem_cons_succ]
  clear c_0 f_0 c_1 f_1
  replace HG1 := Lib.hid (show Whole _ _ _ #[.int .i64 t, .int .i64 vo] from ((HG1.out.set 0 (.int .i64 t)).set 1 (.int .i64 vo)))
  replace HC := Lib.hid ((HC.out.set (p := ⟨w.heap.size, 0, none⟩) (.inl (.inl rfl)) (.int .i64 t)).set (p := ⟨w.heap.size, 1, none⟩) (.inl (.inl rfl)) (.int .i64 vo))
  replace HG2 := Lib.hid (HG2.out.far (p := ⟨w.heap.size, 0, none⟩) (by simp) (.int .i64 t))
  replace HO := Lib.hid (HO.out.set (p := ⟨w.heap.size, 0, none⟩) (by simp) (.int .i64 t))
  replace HG2 := Lib.hid (HG2.out.far (p := ⟨w.heap.size, 1, none⟩) (by simp) (.int .i64 vo))
  replace HO := Lib.hid (HO.out.set (p := ⟨w.heap.size, 1, none⟩) (by simp) (.int .i64 vo))
  generalize hw6 : (World.setCell (World.setCell z2 ⟨w.heap.size, 0, none⟩ (.int .i64 t)) ⟨w.heap.size, 1, none⟩ (.int .i64 vo)) = z3 at *
  clear hw6
  refine s_one (i := 13) (by kernel_rfl) ?_
  obtain ⟨c_0, c_1, c_2⟩ := HG2.out.c3
  obtain ⟨f_0, f_1, f_2⟩ := HG2.out.f3
  refine ones_skip (i := 13) (w' := ?_) rfl (by rfl) ?_ ?_ ?_
  rotate_left 1
  · go_simp
    first | done | rfl
  · exact fun _ => (((HC.out.set (p := ⟨w.heap.size + 1, 0, none⟩) (.inl (.inr rfl)) (.int .i64 0)).set (p := ⟨w.heap.size + 1, 1, none⟩) (.inl (.inr rfl)) (.int .i64 0)).set (p := ⟨w.heap.size + 1, 2, none⟩) (.inl (.inr rfl)) (.slice A3 n c3))
  simp only [Act.put, List.getElem_toArray, List.getElem_cons_zero, List.getElem_cons_succ]
  clear c_0 f_0 c_1 f_1 c_2 f_2
  replace HG2 := Lib.hid (show Whole _ _ _ #[.int .i64 0, .int .i64 0, .slice A3 n c3] from (((HG2.out.set 0 (.int .i64 0)).set 1 (.int .i64 0)).set 2 (.slice A3 n c3)))
  replace HC := Lib.hid (((HC.out.set (p := ⟨w.heap.size + 1, 0, none⟩) (.inl (.inr rfl)) (.int .i64 0)).set (p := ⟨w.heap.size + 1, 1, none⟩) (.inl (.inr rfl)) (.int .i64 0)).set (p := ⟨w.heap.size + 1, 2, none⟩) (.inl (.inr rfl)) (.slice A3 n c3))
  replace HG1 := Lib.hid (HG1.out.far (p := ⟨w.heap.size + 1, 0, none⟩) (by simp) (.int .i64 0))
  replace HO := Lib.hid (HO.out.set (p := ⟨w.heap.size + 1, 0, none⟩) (by simp) (.int .i64 0))
  replace HG1 := Lib.hid (HG1.out.far (p := ⟨w.heap.size + 1, 1, none⟩) (by simp) (.int .i64 0))
  replace HO := Lib.hid (HO.out.set (p := ⟨w.heap.size + 1, 1, none⟩) (by simp) (.int .i64 0))
  replace HG1 := Lib.hid (HG1.out.far (p := ⟨w.heap.size + 1, 2, none⟩) (by simp) (.slice A3 n c3))
  replace HO := Lib.hid (HO.out.set (p := ⟨w.heap.size + 1, 2, none⟩) (by simp) (.slice A3 n c3))
  generalize hw6 : (World.setCell (World.setCell (World.setCell z3 ⟨w.heap.size + 1, 0, none⟩ (.int .i64 0)) ⟨w.heap.size + 1, 1, none⟩ (.int .i64 0)) ⟨w.heap.size + 1, 2, none⟩ (.slice A3 n c3)) = z4 at *
  clear hw6
  refine s_done (by kernel_rfl) ?_
  have HBB := Lib.hid (HD.out.trans (HC.out.below (B := w.heap.size) (fun b hb => by omega) (by omega)))
  go_simp
  go_wp2_with fail
  refine bodyPost_ret (results_bl rfl rfl rfl HG1.out HG2.out) rfl ?_
  have hn := HN.out
  subst hn
  exact ⟨A3, c3, rfl, HO.out.down (Nat.le_add_right _ _), HBB.out⟩
end Go.Proofs.YtcacebkbfnnjbaaDoor
