/-
  Parts that the statement rests on, joined: Ent, Slc, Clone.
-/
import Derived.Test.YtcacebkbfnnjbaaDoorV3
import Derived.Test.YtcacebkbfnnjbaaDoorV7
import Derived.Test.YtcacebkbfnnjbaaDoorProg
import Derived.WalkKit
import Derived.WalkLawsBesides
import Derived.Lib.Hide
import Derived.KernelRfl
/-
  Entries and logs: how their cells read; the rows of the program's table of types that the statements of entries use.
-/







namespace Go.Proofs.YtcacebkbfnnjbaaDoor
open Go.RowKit

/-- An entry: its term, and its command's six numbers. -/
abbrev E := Int × Int × Int × Int × Int × Int × Int
/-- A log: Base, BaseTerm, entries. -/
abbrev L := Int × Int × List E

/-- An entry's cells. -/
abbrev ec (e : E) : Array Value := #[.int .i64 e.1, .int .i64 e.2.1, .int .i64 e.2.2.1, .int .i64 e.2.2.2.1, .int .i64 e.2.2.2.2.1, .int .i64 e.2.2.2.2.2.1, .int .i64 e.2.2.2.2.2.2]
/-- A log's value. -/
abbrev lv (b t : Int) (v : Value) : Value := .agg #[.int .i64 b, .int .i64 t, v]
theorem ec_enc (e : E) : (Flat.enc e : List Value) = (ec e).toList := rfl

theorem rowE : Row Tryd.prog 31 57 E 56 := by
  obtain ⟨i, hi, hz, hsz, hby⟩ := info_parts (show (Tryd.prog.info? 57).map (fun i => (i.zero, i.size, i.bytes)) = some (some (.agg #[.int .i64 0, .int .i64 0, .int .i64 0, .int .i64 0, .int .i64 0, .int .i64 0, .int .i64 0]), 7, 56) by kernel_rfl)
  exact ⟨Tryd.underlying31, i, _, hi, hz, hsz, hby, rfl⟩

/-- The entry at k of a slice of entries: its cells. -/
theorem Sl.entry {w : World} {B n c : Nat} {A : Option Addr} {l : List E} (h : Sl w B (.slice A n c) l) (k : Nat) (hk : k < l.length) :
    ∃ b off, A = some ⟨b, off, none⟩ ∧ b < B ∧ w.cell? ⟨b, off + k * 7, none⟩ = some (.int .i64 (l[k]).1) ∧ w.cell? ⟨b, off + k * 7 + 1, none⟩ = some (.int .i64 (l[k]).2.1) ∧ w.cell? ⟨b, off + k * 7 + 2, none⟩ = some (.int .i64 (l[k]).2.2.1) ∧
      w.cell? ⟨b, off + k * 7 + 3, none⟩ = some (.int .i64 (l[k]).2.2.2.1) ∧ w.cell? ⟨b, off + k * 7 + 4, none⟩ = some (.int .i64 (l[k]).2.2.2.2.1) ∧ w.cell? ⟨b, off + k * 7 + 5, none⟩ = some (.int .i64 (l[k]).2.2.2.2.2.1) ∧
      w.cell? ⟨b, off + k * 7 + 6, none⟩ = some (.int .i64 (l[k]).2.2.2.2.2.2) ∧ Flat.wf l[k] := by
  have hr := h.room
  obtain ⟨b, off, ds, e, hb, h1, h2⟩ := h.at_ k (by omega) hk
  obtain ⟨rfl, hw⟩ := Flat.iff.1 h1
  have g : ∀ j u, (ec l[k]).toList[j]? = some u → w.cell? ⟨b, off + k * 7 + j, none⟩ = some u := h2
  exact ⟨b, off, e, hb, g 0 _ rfl, g 1 _ rfl, g 2 _ rfl, g 3 _ rfl, g 4 _ rfl, g 5 _ rfl, g 6 _ rfl, hw⟩
/-- A block of three cells. -/
theorem Whole.c3 {w : World} {g : Nat} {t : TypeId} {x0 x1 x2 : Value} (h : Whole w g t #[x0, x1, x2]) : w.cell? ⟨g, 0, none⟩ = some x0 ∧ w.cell? ⟨g, 1, none⟩ = some x1 ∧ w.cell? ⟨g, 2, none⟩ = some x2 := ⟨h.cell 0, h.cell 1, h.cell 2⟩
theorem Whole.f3 {w : World} {g : Nat} {t : TypeId} {x0 x1 x2 : Value} (h : Whole w g t #[x0, x1, x2]) : w.frozen? ⟨g, 0, none⟩ = false ∧ w.frozen? ⟨g, 1, none⟩ = false ∧ w.frozen? ⟨g, 2, none⟩ = false := ⟨h.free 0, h.free 1, h.free 2⟩
/-- .. all stored anew. -/
theorem Whole.set3 {w : World} {g : Nat} {t : TypeId} {x0 x1 x2 : Value} (h : Whole w g t #[x0, x1, x2]) (y0 y1 y2 : Value) : Whole (((w.setCell ⟨g, 0, none⟩ y0).setCell ⟨g, 1, none⟩ y1).setCell ⟨g, 2, none⟩ y2) g t #[y0, y1, y2] := ((h.set 0 y0).set 1 y1).set 2 y2
theorem below_set3 {B : Nat} {a w : World} (h : Below B a w) {g : Nat} (hg : B ≤ g) (y0 y1 y2 : Value) : Below B a (((w.setCell ⟨g, 0, none⟩ y0).setCell ⟨g, 1, none⟩ y1).setCell ⟨g, 2, none⟩ y2) := ((h.setCell hg y0).setCell hg y1).setCell hg y2
/-- .. its term alone. -/
theorem Sl.term {w : World} {B n c : Nat} {A : Option Addr} {l : List E} (h : Sl w B (.slice A n c) l) (k : Nat) (hk : k < l.length) :
    ∃ b off, A = some ⟨b, off, none⟩ ∧ w.cell? ⟨b, off + k * 7, none⟩ = some (.int .i64 (l[k]).1) := by
  obtain ⟨b, off, h1, _, h2, _⟩ := h.entry k hk
  exact ⟨b, off, h1, h2⟩
end Go.Proofs.YtcacebkbfnnjbaaDoor

/-
  Slices of entries that are cut, in one form for every start: the steps, and what they read as.
-/

namespace Go.Proofs.YtcacebkbfnnjbaaDoor
open Go.RowKit

theorem size_e (w : World) : (sizeOf 57).run Tryd.prog w = .ok 7 w := by
  obtain ⟨i, hi, hz, hsz, hby⟩ := info_parts (show (Tryd.prog.info? 57).map (fun i => (i.zero, i.size, i.bytes)) = some (some (.agg #[.int .i64 0, .int .i64 0, .int .i64 0, .int .i64 0, .int .i64 0, .int .i64 0, .int .i64 0]), 7, 56) by kernel_rfl)
  simp [sizeOf, typeInfo, hi, hsz, Sem.run_bind]
theorem elem_e : Tryd.prog.elem 31 = 57 := by kernel_rfl
theorem under_e : Tryd.prog.underlying 31 = some (.slice (Tryd.prog.elem 31)) := by rw [elem_e]; exact Tryd.underlying31
/-- s[a:] -/
theorem run_from (A : Option Addr) (n c a : Nat) (i : Int) (hi : i = (a : Int)) (h : a ≤ n) (w : World) :
    (Instr.slice 31 (.slice A n c) (some (.int .i64 i)) none none).run Tryd.prog w = .ok (.slice (if c = a then A else A.map (·.add (a * 7))) (n - a) (c - a)) w := by
  subst hi
  rw [run_slice_l w _ A n c under_e .i64 (a : Int) (by omega) (by omega), elem_e, size_e]
  rfl
/-- s[:a] -/
theorem run_upto (A : Option Addr) (n c a : Nat) (i : Int) (hi : i = (a : Int)) (h : a ≤ c) (w : World) :
    (Instr.slice 31 (.slice A n c) none (some (.int .i64 i)) none).run Tryd.prog w = .ok (.slice (if c = 0 then A else A.map (·.add (0 * 7))) a c) w := by
  subst hi
  rw [run_slice_h w _ A n c under_e .i64 (a : Int) (by omega) (by omega), elem_e, size_e]
  rfl
theorem Sl.upto {w : World} {B n c : Nat} {A : Option Addr} {l : List E} (h : Sl w B (.slice A n c) l) (k : Nat) (hk : k ≤ n) : Sl w B (.slice (if c = 0 then A else A.map (·.add (0 * 7))) k c) (l.take k) := by
  have hr := h.room
  have h1 := h.take k c hk (by omega) hr.2.2
  have hl : (l.take k).length = k := by rw [List.length_take]; omega
  rcases Nat.eq_zero_or_pos k with h0 | h0
  · subst h0
    rw [List.take_zero]
    exact ⟨_, c, rfl, by simp, hr.2.2, fun h => absurd h (by simp)⟩
  · obtain ⟨b, off, rfl, _⟩ := h1.entry 0 (by omega)
    rw [if_neg (by omega), Option.map_some, add_at, Nat.zero_mul, Nat.add_zero]
    exact h1
end Go.Proofs.YtcacebkbfnnjbaaDoor

/-
  What slices.Clone answers: a list of the call's own.
-/

namespace Go.Proofs.YtcacebkbfnnjbaaDoor
open Go.RowKit

/-- A list of entries of the call's own. -/
def ListOut (w : World) (l : List E) (e : Ending) (w' : World) : Prop :=
  ∃ A c, e = .returned (.slice A l.length c) ∧ Own w' w.heap.size 57 (.slice A l.length c) l ∧ Below w.heap.size w w'
theorem listOut_of {w w' : World} {l : List E} {v : Value} (h : Own w' w.heap.size 57 v l) (hb : Below w.heap.size w w') : ListOut w l (.returned v) w' := by
  obtain ⟨A, c, rfl, _, _⟩ := h.sl.form
  exact ⟨A, c, rfl, h, hb⟩

set_option maxRecDepth 100000 in
theorem clone_any (v : Value) (l : List E) (hl : l.length ≤ 100000) (w : World) (B : Nat) (hB : B ≤ w.heap.size) (hv : Sl w B v l) :
    Calls Tryd.prog 27 #[v] w (ListOut w l) := by
  obtain ⟨A, c, rfl, hc, hm⟩ := hv.form
  have hnil := fun (w : World) (a : Option Addr) (n c : Nat) => Lib.run_eql_slice_nil (P := Tryd.prog) w 31 57 a n c 0 0 Tryd.underlying31
  rcases A with _ | ⟨g, o, s⟩
  · have hl0 : l = [] := by
      rcases l with _ | ⟨x, l⟩
      · rfl
      · obtain ⟨b, off, h, _⟩ := hv.entry 0 (by simp)
        cases h
    subst hl0
    go_enter Tryd.func27, Tryd.ntmps27
    go_wp2_with fail
    go_ret
    exact ⟨none, 0, rfl, Own.nil _ _ _, Below.refl _ _⟩
  · have hb1 : Below w.heap.size w (w.alloc (.cells #[] 57)) := (Below.refl _ _).alloc (Nat.le_refl _) _
    have HO := Lib.hid (Own.newL (α := E) w w.heap.size 57 [] #[] (fun _ h => by simp at h) rfl (Nat.zero_le _) (Nat.le_refl _))
    have HV := Lib.hid (hv.below (hb1.mono hB))
    have HB := Lib.hid hb1
    clear hv hb1
    generalize hn : l.length = n at *
    have HN := Lib.hid hn
    clear hn
    go_enter Tryd.func27, Tryd.ntmps27
    go_wp2_with (at_builtin; refine wpList_append_sl rfl (.tmp 5) (.tmp 6) rfl rowE w.heap.size _ [] rfl HO.out B _ l rfl HV.out (by rw [HN.out]; unfold maxLen; simp; omega) (by rw [HN.out]; simp; omega) (by simp) ?_; intro v3 w3 hown3 hg3 hat3; rw [List.nil_append] at hown3; have hb3 := below_of_own HB.out HO.out hg3 (by simp); have HO3 := Lib.hid hown3; have HB3 := Lib.hid hb3; clear hown3 hg3 hat3 hb3)
    go_ret
    exact listOut_of HO3.out HB3.out
end Go.Proofs.YtcacebkbfnnjbaaDoor
