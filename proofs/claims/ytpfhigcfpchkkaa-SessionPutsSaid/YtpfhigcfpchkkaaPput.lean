/-
  Put.
-/
import Derived.Test.YtpfhigcfpchkkaaPing
import Derived.Test.YtpfhigcfpchkkaaPlook
namespace Go.Proofs.Ytpfhigcfpchkkaa
open Go.RowKit

/-- A list of the call's own and an error. -/
def PutOut (w : World) (r : List Se × Int) (e : Ending) (w' : World) : Prop :=
  ∃ A c, e = .returned (.tuple #[.slice A r.1.length c, .int .i64 r.2]) ∧ Own w' w.heap.size 37 (.slice A r.1.length c) r.1 ∧ Below w.heap.size w w'
theorem putOut_err {w w' : World} {x : Int} (hb : Below w.heap.size w w') : PutOut w ([], x) (.returned (.tuple #[.slice none 0 0, .int .i64 x])) w' := ⟨none, 0, rfl, Own.nil _ _ _, hb⟩
theorem putOut_ok {w w' : World} {l l' : List Se} {n : Nat} {A : Option Addr} {c : Nat} (e : l = l') (hn : n = l.length) (h : Own w' w.heap.size 37 (.slice A n c) l) (hb : Below w.heap.size w w') : PutOut w (l', 0) (.returned (.tuple #[.slice A n c, .int .i64 0])) w' := by
  subst e hn; exact ⟨A, c, rfl, h, hb⟩

theorem cells_set3 (s : Se) : ∀ (m : List Se) (j : Nat), cells (m.set j s) = (((cells m).set (j * 3) (.int .i64 s.1)).set (j * 3 + 1) (.int .i64 s.2.1)).set (j * 3 + 2) (.int .i64 s.2.2)
  | [], j => by simp [cells]
  | x :: m, j => by
    have e1 : ∀ (y : Se) (l : List Se), cells (y :: l) = (sc y).toList ++ cells l := fun _ _ => rfl
    cases j with
    | zero => rw [List.set_cons_zero, e1, e1]; rfl
    | succ j =>
      rw [List.set_cons_succ, e1, e1, cells_set3 s m j]
      rw [show (j + 1) * 3 = j * 3 + 3 by omega]
      rfl
/-- An element stored anew into a row of the call's own. -/
theorem Own.store3 {w : World} {base : Nat} {e : TypeId} {g n c : Nat} {m : List Se} (h : Own w base e (.slice (some ⟨g, 0, none⟩) n c) m) (j : Nat) {s : Se} (hw : Flat.wf s) :
    Own (((w.setCell ⟨g, j * 3, none⟩ (.int .i64 s.1)).setCell ⟨g, j * 3 + 1, none⟩ (.int .i64 s.2.1)).setCell ⟨g, j * 3 + 2, none⟩ (.int .i64 s.2.2)) base e (.slice (some ⟨g, 0, none⟩) n c) (m.set j s) := by
  have hn := h.sl.room.1
  have h1 := h.1
  rw [hn] at h1
  refine ⟨?_, fun x hx => ?_⟩
  · rw [List.length_set, hn, cells_set3]
    exact (World.ownsRow.stored (World.ownsRow.stored (World.ownsRow.stored h1 _ _).1 _ _).1 _ _).1
  · rcases List.mem_or_eq_of_mem_set hx with hx | rfl
    · exact h.2 x hx
    · exact hw
theorem below_setC3 {B : Nat} {a w : World} (h : Below B a w) {g : Nat} (hg : B ≤ g) (i j k : Nat) (y0 y1 y2 : Value) : Below B a (((w.setCell ⟨g, i, none⟩ y0).setCell ⟨g, j, none⟩ y1).setCell ⟨g, k, none⟩ y2) := ((h.setCell hg y0).setCell hg y1).setCell hg y2

set_option maxRecDepth 100000 in
set_option maxHeartbeats 800000 in
theorem put_any (v : Value) (l : List Se) (c q a : Int) (ha : -9223372036854775808 ≤ a ∧ a ≤ 9223372036854775807) (w : World) (B : Nat) (hB : B ≤ w.heap.size) (hv : Sl w B v l) :
    Calls Try.prog 13 #[v, .int .i64 c, .int .i64 q, .int .i64 a] w (PutOut w (Sm.put l c q a)) := by
  obtain ⟨A, cap, rfl, hc, hm⟩ := hv.form
  unfold maxLen at hm
  have HL := Lib.hid (look_any _ l c q w B hB hv)
  have hok := Lib.hid (@Sm.look_ok l c q)
  have HF := Lib.hid (fun (h : Sm.may l = true) W (hb : Below w.heap.size w W) => find_any _ l 0 (Sm.may_rise h) (by have := Sm.may_len h; omega) c W B (Nat.le_trans hB hb.size) (hv.below (hb.mono hB)))
  have HC := Lib.hid (fun (h : Sm.may l = true) W (hb : Below w.heap.size w W) => clone_any _ l (by have := Sm.may_len h; omega) W B (Nat.le_trans hB hb.size) (hv.below (hb.mono hB)))
  have he1 := Lib.hid (@Sm.put_err l c q a)
  have he2 := Lib.hid (@Sm.put_there l c q a)
  have he3 := Lib.hid (@Sm.put_full l c q a)
  have he4 := Lib.hid (@Sm.put_in l c q a)
  clear hv
  generalize Sm.look l c q = X at *
  generalize Sm.put l c q a = R at *
  obtain ⟨x1, x2, x3⟩ := X
  dsimp only at *
  go_enter Try.func13, Try.ntmps13
  go_wp2_with fail
  with_reducible refine HL.out.mono ?_
  rintro e w2 ⟨rfl, hb2⟩
  have HB2 := Lib.hid hb2
  clear hb2 HL
  by_cases h3 : x3 = 0
  · subst h3
    rcases x2 with _ | _
    · obtain ⟨hmay, hokc, hoks⟩ := hok.out rfl
      have hlen := Sm.may_len hmay
      have hrise := Sm.may_rise hmay
      have hwf : Flat.wf ((c, q, a) : Se) := by
        rw [Sm.okc_iff] at hokc
        rw [Sm.oks_iff] at hoks
        refine ⟨?_, ?_, ha⟩
        · show _ ∧ _; constructor <;> simp only <;> omega
        · show _ ∧ _; constructor <;> simp only <;> omega
      have HWF := Lib.hid hwf
      have HFn := Lib.hid (HF.out hmay)
      have HCn := Lib.hid (HC.out hmay)
      have hpl := Sm.pos_le l c
      have hins := Lib.hid (Sm.ins_has hrise (c, q, a))
      have hinn := Lib.hid (Sm.ins_new hrise (c, q, a))
      clear hmay hokc hoks hrise hwf HF HC he1 he2 hok
      by_cases h16 : Sm.has l c = false ∧ l.length = 16
      · obtain rfl := he3.out rfl rfl h16.1 h16.2
        have hh := h16.1
        have h16' := h16.2
        clear he3 he4 h16 hins hinn HCn
        rw [hh] at HFn
        generalize Sm.pos l c = p at *
        generalize l.length = n at *
        subst h16'
        go_wp2_with fail
        with_reducible refine (HFn.out _ HB2.out).mono ?_
        rintro e w3 ⟨rfl, hb3⟩
        have HB3 := Lib.hid (HB2.out.trans (hb3.mono HB2.out.size))
        clear hb3
        go_wp2_with fail
        go_ret2
        exact putOut_err HB3.out
      · obtain rfl := he4.out rfl rfl h16
        clear he3 he4
        rcases hh : Sm.has l c with _ | _
        · have hE := Lib.hid (hinn.out hh)
          have h16' : l.length ≠ 16 := fun h => h16 ⟨hh, h⟩
          rw [hh] at HFn
          clear hins hinn h16 hh
          generalize hp : Sm.pos l c = p at *
          have HP := Lib.hid hp
          clear hp
          have HCL : Hid (l.length ≤ 100000) := by show _ ≤ _; omega
          generalize hn : l.length = n at *
          have HN := Lib.hid hn
          clear hn
          have d16 : ((n : Int) == 16) = false := by simp; omega
          go_wp2_with fail
          with_reducible refine (HFn.out _ HB2.out).mono ?_
          rintro e w3 ⟨rfl, hb3⟩
          have HB3 := Lib.hid (HB2.out.trans (hb3.mono HB2.out.size))
          clear hb3 HFn HB2
          go_wp2_with fail
          with_reducible refine (HCn.out _ HB3.out).mono ?_
          rintro e w4 ⟨A4, c4, rfl, hown4, hb4⟩
          have hown4' := hown4.down HB3.out.size
          have HB4 := Lib.hid (HB3.out.trans (hb4.mono HB3.out.size))
          have hA := (hown4'.alloc (.cells (sc (0, 0, 0)) 37))
          have hB5 := HB4.out.alloc HB4.out.size (.cells (sc (0, 0, 0)) 37)
          have hI := (insert_any _ l w.heap.size _ hB5.size hA (by rw [HN.out]; exact HCL.out) p (by rw [HN.out]; exact hpl) (0, 0, 0) (by refine ⟨?_, ?_, ?_⟩ <;> constructor <;> simp) w4.heap.size (Whole.new w4 37 (sc (0, 0, 0))) (fun h => by have := (hown4'.lt _ h).2; omega))
          have HB5 := Lib.hid hB5
          rw [HN.out] at hI
          dsimp only [sc] at hI
          have HI := Lib.hid hI
          clear hI
          have hz4 := HB4.out.size
          have hl2 : (l.take p ++ [((0 : Int), (0 : Int), (0 : Int))] ++ l.drop p).length = n + 1 := by simp; rw [HN.out]; omega
          have hset := Sm.set_in l p (0, 0, 0) (c, q, a) (by rw [HN.out]; exact hpl)
          rw [HN.out] at hown4 ⊢
          clear hown4 hown4' hA hB5 hb4 HB4 HB3 HCn
          go_wp2_with fail
          with_reducible refine HI.out.mono ?_
          rintro e w6 ⟨A6, c6, rfl, hown6, hb6⟩
          have HB6 := Lib.hid (HB5.out.trans hb6)
          rw [hl2] at hown6 ⊢
          obtain ⟨g6, rfl, hg6, -, hf6⟩ := hown6.at_ (by omega)
          obtain ⟨b6, o6, e6, -, p0, p1, p2, -⟩ := hown6.sl.sess p (by rw [hl2]; omega)
          injection e6 with e6
          injection e6 with e6 e7
          subst e6 e7
          have f0 := hf6 (p * 3)
          have f1 := hf6 (p * 3 + 1)
          have f2 := hf6 (p * 3 + 2)
          rw [Nat.zero_add] at p0 p1 p2
          have hst := hown6.store3 p HWF.out
          rw [hset] at hst
          have HST := Lib.hid hst
          clear hst hset hown6 hb6 HI HB5 hf6
          generalize ((l.take p ++ [((0 : Int), (0 : Int), (0 : Int))] ++ l.drop p)[p]'_) = y at *
          obtain ⟨y0, y1, y2⟩ := y
          dsimp only at p0 p1 p2
          have i1 : (0 : Int) ≤ (p : Int) := by omega
          have i2 : (p : Int) < (n : Int) + 1 := by omega
          go_wp2_with fail
          go_ret2
          exact putOut_ok (by rw [hE.out]) (by simp; rw [HN.out]; omega) HST.out (below_setC3 HB6.out hg6 _ _ _ _ _ _)
        · obtain ⟨hE, hpl2⟩ := hins.out hh
          have HE := Lib.hid hE
          have hp2 : Sm.pos l c < l.length := hpl2
          rw [hh] at HFn
          clear hins hinn h16 hh hE hpl2
          generalize hp : Sm.pos l c = p at *
          have HP := Lib.hid hp
          clear hp
          generalize hn : l.length = n at *
          have HN := Lib.hid hn
          clear hn
          go_wp2_with fail
          with_reducible refine (HFn.out _ HB2.out).mono ?_
          rintro e w3 ⟨rfl, hb3⟩
          have HB3 := Lib.hid (HB2.out.trans (hb3.mono HB2.out.size))
          clear hb3 HFn HB2
          go_wp2_with fail
          with_reducible refine (HCn.out _ HB3.out).mono ?_
          rintro e w4 ⟨A4, c4, rfl, hown4, hb4⟩
          have hown6 := hown4.down HB3.out.size
          have HB6 := Lib.hid (HB3.out.trans (hb4.mono HB3.out.size))
          rw [HN.out] at hown6 ⊢
          obtain ⟨g6, rfl, hg6, -, hf6⟩ := hown6.at_ (by omega)
          obtain ⟨b6, o6, e6, -, p0, p1, p2, -⟩ := hown6.sl.sess p (by rw [HN.out]; omega)
          injection e6 with e6
          injection e6 with e6 e7
          subst e6 e7
          have f0 := hf6 (p * 3)
          have f1 := hf6 (p * 3 + 1)
          have f2 := hf6 (p * 3 + 2)
          rw [Nat.zero_add] at p0 p1 p2
          have HST := Lib.hid (hown6.store3 p HWF.out)
          clear hown4 hown6 hb4 HCn hf6 HB3
          generalize (l[p]'_) = y at *
          obtain ⟨y0, y1, y2⟩ := y
          dsimp only at p0 p1 p2
          have i1 : (0 : Int) ≤ (p : Int) := by omega
          have i2 : (p : Int) < (n : Int) := by omega
          go_wp2_with fail
          go_ret2
          exact putOut_ok (by rw [HE.out]) (by simp; rw [HN.out]) HST.out (below_setC3 HB6.out hg6 _ _ _ _ _ _)
    · obtain rfl := he2.out rfl rfl
      clear he1 he2 he3 he4 HF HC hok
      go_wp2_with fail
      go_ret2
      exact putOut_err HB2.out
  · obtain rfl := he1.out h3
    have d3 : (x3 != 0) = true := by simpa using h3
    clear he1 he2 he3 he4 HF HC hok
    go_wp2_with fail
    go_ret2
    exact putOut_err HB2.out
end Go.Proofs.Ytpfhigcfpchkkaa
