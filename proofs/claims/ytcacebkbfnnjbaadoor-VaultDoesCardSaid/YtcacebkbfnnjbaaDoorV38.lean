/-
  Parts that the statement rests on, joined: Rstep.
-/
import Derived.Test.YtcacebkbfnnjbaaDoorV14
import Derived.Test.YtcacebkbfnnjbaaDoorV16
import Derived.Test.YtcacebkbfnnjbaaDoorV17
import Derived.Test.YtcacebkbfnnjbaaDoorV27
import Derived.Test.YtcacebkbfnnjbaaDoorV30
import Derived.Test.YtcacebkbfnnjbaaDoorV37
import Derived.BigQuiet
/-
  What the reference's step answers.
-/










namespace Go.Proofs.YtcacebkbfnnjbaaDoor
open Go.RowKit

theorem results_rstate2 {fn : Func} {p u : Tmp} (h : fn.results = #[.cell p 33, .tmp u]) {tmps : Array Value} {w : World} {g : Nat} {x0 x1 x2 : Value} (hp : tmps.getD p undef = .pointer (some ⟨g, 0, none⟩)) (hg : Whole w g 33 #[x0, x1, x2]) :
    (results fn tmps).run Tryd.prog w = .ok (.tuple #[.agg #[x0, x1, x2], tmps.getD u undef]) w := by
  rw [results_cell_tmp h, hp]
  simp [asAddr, Result.andThen, run_loadVar_row w g 33 _ _ _ _ hg Tryd.underlying33 rfl (by kernel_rfl)]
/-- What step answers: a state, whether it goes on; its log in blocks of S or made anew. -/
def RStepOut (w : World) (S : Nat → Prop) (s : Vl.S) (ok : Bool) (e : Ending) (w' : World) : Prop :=
  ∃ v, e = .returned (.tuple #[.agg (stc s.1.1 s.1.2 v), .bool ok]) ∧ SlS w' (fun b => S b ∨ w.heap.size ≤ b) v s.2 ∧ Below w.heap.size w w'

set_option maxRecDepth 100000 in
set_option maxHeartbeats 2000000 in
theorem rstep_err (S : Nat → Prop) (t vo : Int) (l : List E) (_hl64 : l.length ≤ 64) (vl : Value) (k : Int) (sB : Value) (b : List UInt8) (hbl : b.length ≤ 4096) (w : World) (hL : SlS w S vl l) (hb : Sl w w.heap.size sB b) (er : Int) (hu : Fm.unpack b = .err er) :
    Calls Tryd.prog 35 #[.agg #[.int .i64 t, .int .i64 vo, vl], .agg #[.int .i64 k, sB]] w (RStepOut w S ((t, vo), l) false) := by
  have her : (er != 0) = true := by simpa using unpack_err hu
  have hu2 := hu
  obtain ⟨A, c, rfl, hc, hm⟩ := hL.form
  obtain ⟨Ab, cb, rfl, hcb, hmb⟩ := hb.form
  have HSL := Lib.hid (fun W (h : Below w.heap.size w W) => (hL.wide (T := fun b => S b ∧ b < w.heap.size) (fun b h1 h2 => ⟨h1, h2⟩)).stay (fun b _ hlt => h.block b hlt))
  have h1 : Below w.heap.size w (w.alloc (.cells #[.int .i64 t, .int .i64 vo, .slice A l.length c] 33)) := (Below.refl _ _).alloc (Nat.le_refl _) _
  have h2 := h1.alloc h1.size (.cells #[.int .i64 k, .slice Ab b.length cb] 75)
  have HB := Lib.hid (h2.alloc h2.size (.cells #[.int .i64 0, .int .i64 0, .slice none 0 0] 33))
  have HS := Lib.hid (((Whole.new w 33 #[.int .i64 t, .int .i64 vo, .slice A l.length c]).alloc (.cells #[.int .i64 k, .slice Ab b.length cb] 75)).alloc (.cells #[.int .i64 0, .int .i64 0, .slice none 0 0] 33))
  have HF := Lib.hid ((Whole.new1 w (.cells #[.int .i64 t, .int .i64 vo, .slice A l.length c] 33) 75 #[.int .i64 k, .slice Ab b.length cb]).alloc (.cells #[.int .i64 0, .int .i64 0, .slice none 0 0] 33))
  have hR := Whole.new ((w.alloc (.cells #[.int .i64 t, .int .i64 vo, .slice A l.length c] 33)).alloc (.cells #[.int .i64 k, .slice Ab b.length cb] 75)) 33 #[.int .i64 0, .int .i64 0, .slice none 0 0]
  simp only [World.size_alloc, Nat.add_assoc, Nat.reduceAdd] at hR
  have HR := Lib.hid hR
  have hsz : w.heap.size + 3 ≤ (((w.alloc (.cells #[.int .i64 t, .int .i64 vo, .slice A l.length c] 33)).alloc (.cells #[.int .i64 k, .slice Ab b.length cb] 75)).alloc (.cells #[.int .i64 0, .int .i64 0, .slice none 0 0] 33)).heap.size := by simp
  have HU := Lib.hid (refUnpack_any _ b (by omega) (((w.alloc (.cells #[.int .i64 t, .int .i64 vo, .slice A l.length c] 33)).alloc (.cells #[.int .i64 k, .slice Ab b.length cb] 75)).alloc (.cells #[.int .i64 0, .int .i64 0, .slice none 0 0] 33)) w.heap.size HB.out.size (hb.below HB.out))
  clear hL hb h1 h2 hR
  generalize hln : l.length = n at *
  have HLN := Lib.hid hln
  generalize hbn : b.length = bn at *
  clear hln hbn
  rw [hu2] at HU
  clear hu hu2
  go_enter Tryd.func35, Tryd.ntmps35
  go_wp2_with fail
  with_reducible refine HU.out.mono ?_
  rintro e w1 ⟨rfl, hb2⟩
  obtain ⟨A1, c1, A2, c2, hA1, hA2⟩ : ∃ (A1 : Option Addr) (c1 : Nat) (A2 : Option Addr) (c2 : Nat), (none, 0) = (A1, c1) ∧ (none, 0) = (A2, c2) := ⟨none, 0, none, 0, rfl, rfl⟩
  injection hA1 with hA1 hc1
  injection hA2 with hA2 hc2
  subst hA1 hA2 hc1 hc2
  replace HS := Lib.hid ((HS.out.below hb2 (by omega)).alloc (.cells #[.slice none 0 0, .slice none 0 0] 88))
  replace HF := Lib.hid ((HF.out.below hb2 (by omega)).alloc (.cells #[.slice none 0 0, .slice none 0 0] 88))
  replace HR := Lib.hid ((HR.out.below hb2 (by omega)).alloc (.cells #[.slice none 0 0, .slice none 0 0] 88))
  have HX := Lib.hid (Whole.new w1 88 #[.slice none 0 0, .slice none 0 0])
  replace HB := Lib.hid ((HB.out.trans (hb2.mono HB.out.size)).alloc (HB.out.trans (hb2.mono HB.out.size)).size (.cells #[.slice none 0 0, .slice none 0 0] 88))
  have hsz1 : w.heap.size + 3 ≤ w1.heap.size := Nat.le_trans hsz hb2.size
  have hsz2 : w.heap.size + 3 ≤ (w1.alloc (.cells #[.slice none 0 0, .slice none 0 0] 88)).heap.size := by simp; omega
  clear hb2 HU
  obtain ⟨k0, k1, k2⟩ := HS.out.c3
  obtain ⟨j0, j1, j2⟩ := HR.out.c3
  obtain ⟨f0, f1, f2⟩ := HR.out.f3
  obtain ⟨q0, q1⟩ := HF.out.c2
  obtain ⟨x0, x1⟩ := HX.out.c2
  have HRES := Lib.hid (HR.out.set3 (.int .i64 t) (.int .i64 vo) (.slice A n c))
  have HBS := Lib.hid (below_set3 HB.out (g := w.heap.size + 2) (by omega) (.int .i64 t) (.int .i64 vo) (.slice A n c))
  go_wp2_with fail
  refine bodyPost_ret (results_rstate2 rfl rfl HRES.out) rfl ?_
  exact ⟨_, rfl, (HSL.out _ HBS.out).wide (fun b hb _ => .inl hb.1), HBS.out⟩
set_option maxRecDepth 100000 in
set_option maxHeartbeats 2000000 in
theorem rstep_data (S : Nat → Prop) (t vo : Int) (l : List E) (_hl64 : l.length ≤ 64) (vl : Value) (k : Int) (sB : Value) (b : List UInt8) (hbl : b.length ≤ 4096) (w : World) (hL : SlS w S vl l) (hb : Sl w w.heap.size sB b) (N : List Int) (Dt r : List UInt8) (hu : Fm.unpack b = .ok (N, Dt) r) (hD : Dt ≠ []) :
    Calls Tryd.prog 35 #[.agg #[.int .i64 t, .int .i64 vo, vl], .agg #[.int .i64 k, sB]] w (RStepOut w S ((t, vo), l) false) := by
  have hdl : 0 < Dt.length := List.length_pos_iff.2 hD
  have hu2 := hu
  obtain ⟨A, c, rfl, hc, hm⟩ := hL.form
  obtain ⟨Ab, cb, rfl, hcb, hmb⟩ := hb.form
  have HSL := Lib.hid (fun W (h : Below w.heap.size w W) => (hL.wide (T := fun b => S b ∧ b < w.heap.size) (fun b h1 h2 => ⟨h1, h2⟩)).stay (fun b _ hlt => h.block b hlt))
  have h1 : Below w.heap.size w (w.alloc (.cells #[.int .i64 t, .int .i64 vo, .slice A l.length c] 33)) := (Below.refl _ _).alloc (Nat.le_refl _) _
  have h2 := h1.alloc h1.size (.cells #[.int .i64 k, .slice Ab b.length cb] 75)
  have HB := Lib.hid (h2.alloc h2.size (.cells #[.int .i64 0, .int .i64 0, .slice none 0 0] 33))
  have HS := Lib.hid (((Whole.new w 33 #[.int .i64 t, .int .i64 vo, .slice A l.length c]).alloc (.cells #[.int .i64 k, .slice Ab b.length cb] 75)).alloc (.cells #[.int .i64 0, .int .i64 0, .slice none 0 0] 33))
  have HF := Lib.hid ((Whole.new1 w (.cells #[.int .i64 t, .int .i64 vo, .slice A l.length c] 33) 75 #[.int .i64 k, .slice Ab b.length cb]).alloc (.cells #[.int .i64 0, .int .i64 0, .slice none 0 0] 33))
  have hR := Whole.new ((w.alloc (.cells #[.int .i64 t, .int .i64 vo, .slice A l.length c] 33)).alloc (.cells #[.int .i64 k, .slice Ab b.length cb] 75)) 33 #[.int .i64 0, .int .i64 0, .slice none 0 0]
  simp only [World.size_alloc, Nat.add_assoc, Nat.reduceAdd] at hR
  have HR := Lib.hid hR
  have hsz : w.heap.size + 3 ≤ (((w.alloc (.cells #[.int .i64 t, .int .i64 vo, .slice A l.length c] 33)).alloc (.cells #[.int .i64 k, .slice Ab b.length cb] 75)).alloc (.cells #[.int .i64 0, .int .i64 0, .slice none 0 0] 33)).heap.size := by simp
  have HU := Lib.hid (refUnpack_any _ b (by omega) (((w.alloc (.cells #[.int .i64 t, .int .i64 vo, .slice A l.length c] 33)).alloc (.cells #[.int .i64 k, .slice Ab b.length cb] 75)).alloc (.cells #[.int .i64 0, .int .i64 0, .slice none 0 0] 33)) w.heap.size HB.out.size (hb.below HB.out))
  clear hL hb h1 h2 hR
  generalize hln : l.length = n at *
  have HLN := Lib.hid hln
  generalize hbn : b.length = bn at *
  clear hln hbn
  rw [hu2] at HU
  clear hu hu2 hD
  go_enter Tryd.func35, Tryd.ntmps35
  go_wp2_with fail
  with_reducible refine HU.out.mono ?_
  rintro e w1 ⟨sN, sD, rfl, h1, h2, hb2⟩
  obtain ⟨A1, c1, rfl, _, hm1⟩ := h1.sl.form
  obtain ⟨A2, c2, rfl, _, hm2⟩ := h2.sl.form
  clear h1 h2
  simp only at *
  generalize N.length = nn at *
  generalize Dt.length = dd at *
  replace HS := Lib.hid ((HS.out.below hb2 (by omega)).alloc (.cells #[.slice A1 nn c1, .slice A2 dd c2] 88))
  replace HF := Lib.hid ((HF.out.below hb2 (by omega)).alloc (.cells #[.slice A1 nn c1, .slice A2 dd c2] 88))
  replace HR := Lib.hid ((HR.out.below hb2 (by omega)).alloc (.cells #[.slice A1 nn c1, .slice A2 dd c2] 88))
  have HX := Lib.hid (Whole.new w1 88 #[.slice A1 nn c1, .slice A2 dd c2])
  replace HB := Lib.hid ((HB.out.trans (hb2.mono HB.out.size)).alloc (HB.out.trans (hb2.mono HB.out.size)).size (.cells #[.slice A1 nn c1, .slice A2 dd c2] 88))
  have hsz1 : w.heap.size + 3 ≤ w1.heap.size := Nat.le_trans hsz hb2.size
  have hsz2 : w.heap.size + 3 ≤ (w1.alloc (.cells #[.slice A1 nn c1, .slice A2 dd c2] 88)).heap.size := by simp; omega
  clear hb2 HU
  obtain ⟨k0, k1, k2⟩ := HS.out.c3
  obtain ⟨j0, j1, j2⟩ := HR.out.c3
  obtain ⟨f0, f1, f2⟩ := HR.out.f3
  obtain ⟨q0, q1⟩ := HF.out.c2
  obtain ⟨x0, x1⟩ := HX.out.c2
  have HRES := Lib.hid (HR.out.set3 (.int .i64 t) (.int .i64 vo) (.slice A n c))
  have HBS := Lib.hid (below_set3 HB.out (g := w.heap.size + 2) (by omega) (.int .i64 t) (.int .i64 vo) (.slice A n c))
  go_wp2_with fail
  refine bodyPost_ret (results_rstate2 rfl rfl HRES.out) rfl ?_
  exact ⟨_, rfl, (HSL.out _ HBS.out).wide (fun b hb _ => .inl hb.1), HBS.out⟩
set_option maxRecDepth 100000 in
set_option maxHeartbeats 2000000 in
theorem rstep_no (S : Nat → Prop) (t vo : Int) (l : List E) (_hl64 : l.length ≤ 64) (vl : Value) (k : Int) (sB : Value) (b : List UInt8) (hbl : b.length ≤ 4096) (w : World) (hL : SlS w S vl l) (hb : Sl w w.heap.size sB b) (N : List Int) (r : List UInt8) (hu : Fm.unpack b = .ok (N, []) r) (hno : (k = 1 ∧ N.length ≠ 2) ∨ (k = 2 ∧ N.length ≠ 8) ∨ (k = 3 ∧ N.length ≠ 1) ∨ (k ≠ 1 ∧ k ≠ 2 ∧ k ≠ 3)) :
    Calls Tryd.prog 35 #[.agg #[.int .i64 t, .int .i64 vo, vl], .agg #[.int .i64 k, sB]] w (RStepOut w S ((t, vo), l) false) := by
  have hu2 := hu
  obtain ⟨A, c, rfl, hc, hm⟩ := hL.form
  obtain ⟨Ab, cb, rfl, hcb, hmb⟩ := hb.form
  have HSL := Lib.hid (fun W (h : Below w.heap.size w W) => (hL.wide (T := fun b => S b ∧ b < w.heap.size) (fun b h1 h2 => ⟨h1, h2⟩)).stay (fun b _ hlt => h.block b hlt))
  have h1 : Below w.heap.size w (w.alloc (.cells #[.int .i64 t, .int .i64 vo, .slice A l.length c] 33)) := (Below.refl _ _).alloc (Nat.le_refl _) _
  have h2 := h1.alloc h1.size (.cells #[.int .i64 k, .slice Ab b.length cb] 75)
  have HB := Lib.hid (h2.alloc h2.size (.cells #[.int .i64 0, .int .i64 0, .slice none 0 0] 33))
  have HS := Lib.hid (((Whole.new w 33 #[.int .i64 t, .int .i64 vo, .slice A l.length c]).alloc (.cells #[.int .i64 k, .slice Ab b.length cb] 75)).alloc (.cells #[.int .i64 0, .int .i64 0, .slice none 0 0] 33))
  have HF := Lib.hid ((Whole.new1 w (.cells #[.int .i64 t, .int .i64 vo, .slice A l.length c] 33) 75 #[.int .i64 k, .slice Ab b.length cb]).alloc (.cells #[.int .i64 0, .int .i64 0, .slice none 0 0] 33))
  have hR := Whole.new ((w.alloc (.cells #[.int .i64 t, .int .i64 vo, .slice A l.length c] 33)).alloc (.cells #[.int .i64 k, .slice Ab b.length cb] 75)) 33 #[.int .i64 0, .int .i64 0, .slice none 0 0]
  simp only [World.size_alloc, Nat.add_assoc, Nat.reduceAdd] at hR
  have HR := Lib.hid hR
  have hsz : w.heap.size + 3 ≤ (((w.alloc (.cells #[.int .i64 t, .int .i64 vo, .slice A l.length c] 33)).alloc (.cells #[.int .i64 k, .slice Ab b.length cb] 75)).alloc (.cells #[.int .i64 0, .int .i64 0, .slice none 0 0] 33)).heap.size := by simp
  have HU := Lib.hid (refUnpack_any _ b (by omega) (((w.alloc (.cells #[.int .i64 t, .int .i64 vo, .slice A l.length c] 33)).alloc (.cells #[.int .i64 k, .slice Ab b.length cb] 75)).alloc (.cells #[.int .i64 0, .int .i64 0, .slice none 0 0] 33)) w.heap.size HB.out.size (hb.below HB.out))
  clear hL hb h1 h2 hR
  generalize hln : l.length = n at *
  have HLN := Lib.hid hln
  generalize hbn : b.length = bn at *
  clear hln hbn
  rw [hu2] at HU
  clear hu hu2
  go_enter Tryd.func35, Tryd.ntmps35
  go_wp2_with fail
  with_reducible refine HU.out.mono ?_
  rintro e w1 ⟨sN, sD, rfl, h1, h2, hb2⟩
  obtain ⟨A1, c1, rfl, hcn, hm1⟩ := h1.sl.form
  obtain ⟨A2, c2, rfl, _, hm2⟩ := h2.sl.form
  simp only [List.length_nil] at *
  clear h1 h2
  generalize N.length = nn at *
  replace HS := Lib.hid ((HS.out.below hb2 (by omega)).alloc (.cells #[.slice A1 nn c1, .slice A2 0 c2] 88))
  replace HF := Lib.hid ((HF.out.below hb2 (by omega)).alloc (.cells #[.slice A1 nn c1, .slice A2 0 c2] 88))
  replace HR := Lib.hid ((HR.out.below hb2 (by omega)).alloc (.cells #[.slice A1 nn c1, .slice A2 0 c2] 88))
  have HX := Lib.hid (Whole.new w1 88 #[.slice A1 nn c1, .slice A2 0 c2])
  replace HB := Lib.hid ((HB.out.trans (hb2.mono HB.out.size)).alloc (HB.out.trans (hb2.mono HB.out.size)).size (.cells #[.slice A1 nn c1, .slice A2 0 c2] 88))
  have hsz1 : w.heap.size + 3 ≤ w1.heap.size := Nat.le_trans hsz hb2.size
  have hsz2 : w.heap.size + 3 ≤ (w1.alloc (.cells #[.slice A1 nn c1, .slice A2 0 c2] 88)).heap.size := by simp; omega
  clear hb2 HU
  obtain ⟨k0, k1, k2⟩ := HS.out.c3
  obtain ⟨j0, j1, j2⟩ := HR.out.c3
  obtain ⟨f0, f1, f2⟩ := HR.out.f3
  obtain ⟨q0, q1⟩ := HF.out.c2
  obtain ⟨x0, x1⟩ := HX.out.c2
  rcases hno with ⟨rfl, h⟩ | ⟨rfl, h⟩ | ⟨rfl, h⟩ | ⟨e1, e2, e3⟩
  · have d2 : ((nn : Int) == 2) = false := by rw [beq_eq_false_iff_ne]; omega
    go_wp2_with fail
    go_quiet (fail)
    replace HS := Lib.hid (HS.out.drewN nq)
    replace HF := Lib.hid (HF.out.drewN nq)
    replace HR := Lib.hid (HR.out.drewN nq)
    replace HX := Lib.hid (HX.out.drewN nq)
    replace HB := Lib.hid (below_drewN HB.out nq)
    clear k0 k1 k2 j0 j1 j2 f0 f1 f2 q0 q1 x0 x1
    obtain ⟨k0, k1, k2⟩ := HS.out.c3
    obtain ⟨j0, j1, j2⟩ := HR.out.c3
    obtain ⟨f0, f1, f2⟩ := HR.out.f3
    obtain ⟨q0, q1⟩ := HF.out.c2
    obtain ⟨x0, x1⟩ := HX.out.c2
    have HRES := Lib.hid (HR.out.set3 (.int .i64 t) (.int .i64 vo) (.slice A n c))
    have HBS := Lib.hid (below_set3 HB.out (g := w.heap.size + 2) (by omega) (.int .i64 t) (.int .i64 vo) (.slice A n c))
    go_wp2_with fail
    refine bodyPost_ret (results_rstate2 rfl rfl HRES.out) rfl ?_
    exact ⟨_, rfl, (HSL.out _ HBS.out).wide (fun b hb _ => .inl hb.1), HBS.out⟩
  · have d2 : ((nn : Int) == 8) = false := by rw [beq_eq_false_iff_ne]; omega
    go_wp2_with fail
    go_quiet (fail)
    replace HS := Lib.hid (HS.out.drewN nq)
    replace HF := Lib.hid (HF.out.drewN nq)
    replace HR := Lib.hid (HR.out.drewN nq)
    replace HX := Lib.hid (HX.out.drewN nq)
    replace HB := Lib.hid (below_drewN HB.out nq)
    clear k0 k1 k2 j0 j1 j2 f0 f1 f2 q0 q1 x0 x1
    obtain ⟨k0, k1, k2⟩ := HS.out.c3
    obtain ⟨j0, j1, j2⟩ := HR.out.c3
    obtain ⟨f0, f1, f2⟩ := HR.out.f3
    obtain ⟨q0, q1⟩ := HF.out.c2
    obtain ⟨x0, x1⟩ := HX.out.c2
    have HRES := Lib.hid (HR.out.set3 (.int .i64 t) (.int .i64 vo) (.slice A n c))
    have HBS := Lib.hid (below_set3 HB.out (g := w.heap.size + 2) (by omega) (.int .i64 t) (.int .i64 vo) (.slice A n c))
    go_wp2_with fail
    refine bodyPost_ret (results_rstate2 rfl rfl HRES.out) rfl ?_
    exact ⟨_, rfl, (HSL.out _ HBS.out).wide (fun b hb _ => .inl hb.1), HBS.out⟩
  · have d2 : ((nn : Int) == 1) = false := by rw [beq_eq_false_iff_ne]; omega
    go_wp2_with fail
    go_quiet (fail)
    replace HS := Lib.hid (HS.out.drewN nq)
    replace HF := Lib.hid (HF.out.drewN nq)
    replace HR := Lib.hid (HR.out.drewN nq)
    replace HX := Lib.hid (HX.out.drewN nq)
    replace HB := Lib.hid (below_drewN HB.out nq)
    clear k0 k1 k2 j0 j1 j2 f0 f1 f2 q0 q1 x0 x1
    obtain ⟨k0, k1, k2⟩ := HS.out.c3
    obtain ⟨j0, j1, j2⟩ := HR.out.c3
    obtain ⟨f0, f1, f2⟩ := HR.out.f3
    obtain ⟨q0, q1⟩ := HF.out.c2
    obtain ⟨x0, x1⟩ := HX.out.c2
    have HRES := Lib.hid (HR.out.set3 (.int .i64 t) (.int .i64 vo) (.slice A n c))
    have HBS := Lib.hid (below_set3 HB.out (g := w.heap.size + 2) (by omega) (.int .i64 t) (.int .i64 vo) (.slice A n c))
    go_wp2_with fail
    refine bodyPost_ret (results_rstate2 rfl rfl HRES.out) rfl ?_
    exact ⟨_, rfl, (HSL.out _ HBS.out).wide (fun b hb _ => .inl hb.1), HBS.out⟩
  · have d1 : (k == 1) = false := by simpa using e1
    have d2 : (k == 2) = false := by simpa using e2
    have d3 : (k == 3) = false := by simpa using e3
    go_wp2_with fail
    go_quiet (fail)
    replace HS := Lib.hid (HS.out.drewN nq)
    replace HF := Lib.hid (HF.out.drewN nq)
    replace HR := Lib.hid (HR.out.drewN nq)
    replace HX := Lib.hid (HX.out.drewN nq)
    replace HB := Lib.hid (below_drewN HB.out nq)
    clear k0 k1 k2 j0 j1 j2 f0 f1 f2 q0 q1 x0 x1
    obtain ⟨k0, k1, k2⟩ := HS.out.c3
    obtain ⟨j0, j1, j2⟩ := HR.out.c3
    obtain ⟨f0, f1, f2⟩ := HR.out.f3
    obtain ⟨q0, q1⟩ := HF.out.c2
    obtain ⟨x0, x1⟩ := HX.out.c2
    have HRES := Lib.hid (HR.out.set3 (.int .i64 t) (.int .i64 vo) (.slice A n c))
    have HBS := Lib.hid (below_set3 HB.out (g := w.heap.size + 2) (by omega) (.int .i64 t) (.int .i64 vo) (.slice A n c))
    go_wp2_with fail
    refine bodyPost_ret (results_rstate2 rfl rfl HRES.out) rfl ?_
    exact ⟨_, rfl, (HSL.out _ HBS.out).wide (fun b hb _ => .inl hb.1), HBS.out⟩
set_option maxRecDepth 100000 in
set_option maxHeartbeats 2000000 in
theorem rstep_bal (S : Nat → Prop) (t vo : Int) (l : List E) (_hl64 : l.length ≤ 64) (vl : Value) (k : Int) (sB : Value) (b : List UInt8) (hbl : b.length ≤ 4096) (w : World) (hL : SlS w S vl l) (hb : Sl w w.heap.size sB b) (x y : Int) (r : List UInt8) (hu : Fm.unpack b = .ok ([x, y], []) r) (hk : k = 1) :
    Calls Tryd.prog 35 #[.agg #[.int .i64 t, .int .i64 vo, vl], .agg #[.int .i64 k, sB]] w (RStepOut w S ((Vl.setB ((t, vo), l) [x, y]).getD ((t, vo), l)) (Vl.setB ((t, vo), l) [x, y]).isSome) := by
  rw [setB_two]
  have HRB := Lib.hid (fun W => rbmay_any x y W)
  generalize Vt.may (x, y) = q at *
  generalize hP : (if q = true then some ((x, y), ((t, vo), l).2) else none : Option Vl.S) = P at *
  have HP := Lib.hid hP
  clear hP
  have hu2 := hu
  obtain ⟨A, c, rfl, hc, hm⟩ := hL.form
  obtain ⟨Ab, cb, rfl, hcb, hmb⟩ := hb.form
  have HSL := Lib.hid (fun W (h : Below w.heap.size w W) => (hL.wide (T := fun b => S b ∧ b < w.heap.size) (fun b h1 h2 => ⟨h1, h2⟩)).stay (fun b _ hlt => h.block b hlt))
  have h1 : Below w.heap.size w (w.alloc (.cells #[.int .i64 t, .int .i64 vo, .slice A l.length c] 33)) := (Below.refl _ _).alloc (Nat.le_refl _) _
  have h2 := h1.alloc h1.size (.cells #[.int .i64 k, .slice Ab b.length cb] 75)
  have HB := Lib.hid (h2.alloc h2.size (.cells #[.int .i64 0, .int .i64 0, .slice none 0 0] 33))
  have HS := Lib.hid (((Whole.new w 33 #[.int .i64 t, .int .i64 vo, .slice A l.length c]).alloc (.cells #[.int .i64 k, .slice Ab b.length cb] 75)).alloc (.cells #[.int .i64 0, .int .i64 0, .slice none 0 0] 33))
  have HF := Lib.hid ((Whole.new1 w (.cells #[.int .i64 t, .int .i64 vo, .slice A l.length c] 33) 75 #[.int .i64 k, .slice Ab b.length cb]).alloc (.cells #[.int .i64 0, .int .i64 0, .slice none 0 0] 33))
  have hR := Whole.new ((w.alloc (.cells #[.int .i64 t, .int .i64 vo, .slice A l.length c] 33)).alloc (.cells #[.int .i64 k, .slice Ab b.length cb] 75)) 33 #[.int .i64 0, .int .i64 0, .slice none 0 0]
  simp only [World.size_alloc, Nat.add_assoc, Nat.reduceAdd] at hR
  have HR := Lib.hid hR
  have hsz : w.heap.size + 3 ≤ (((w.alloc (.cells #[.int .i64 t, .int .i64 vo, .slice A l.length c] 33)).alloc (.cells #[.int .i64 k, .slice Ab b.length cb] 75)).alloc (.cells #[.int .i64 0, .int .i64 0, .slice none 0 0] 33)).heap.size := by simp
  have HU := Lib.hid (refUnpack_any _ b (by omega) (((w.alloc (.cells #[.int .i64 t, .int .i64 vo, .slice A l.length c] 33)).alloc (.cells #[.int .i64 k, .slice Ab b.length cb] 75)).alloc (.cells #[.int .i64 0, .int .i64 0, .slice none 0 0] 33)) w.heap.size HB.out.size (hb.below HB.out))
  clear hL hb h1 h2 hR
  generalize hln : l.length = n at *
  have HLN := Lib.hid hln
  generalize hbn : b.length = bn at *
  clear hln hbn
  rw [hu2] at HU
  clear hu hu2
  subst hk
  go_enter Tryd.func35, Tryd.ntmps35
  go_wp2_with fail
  with_reducible refine HU.out.mono ?_
  rintro e w1 ⟨sN, sD, rfl, h1, h2, hb2⟩
  obtain ⟨A1, c1, rfl, hcn, hm1⟩ := h1.sl.form
  obtain ⟨A2, c2, rfl, _, hm2⟩ := h2.sl.form
  simp only [List.length_nil] at *
  have hsl := h1.sl.below ((Below.refl w1.heap.size w1).alloc (Nat.le_refl _) (.cells #[.slice A1 2 c1, .slice A2 0 c2] 88))
  simp only [List.length_cons, List.length_nil, Nat.zero_add, Nat.reduceAdd] at *
  obtain ⟨b1, o1, rfl, hb1, m0, -, -⟩ := hsl.int 0 (by simp)
  obtain ⟨b2, o2, e2, -, m1, -, -⟩ := hsl.int 1 (by simp)
  injection e2 with e2
  injection e2 with e2 e3
  subst e2 e3
  simp only [List.getElem_cons_zero, List.getElem_cons_succ, Nat.add_zero] at m0 m1
  clear h1 h2 hsl
  replace HS := Lib.hid ((HS.out.below hb2 (by omega)).alloc (.cells #[.slice (some ⟨b1, o1, none⟩) 2 c1, .slice A2 0 c2] 88))
  replace HF := Lib.hid ((HF.out.below hb2 (by omega)).alloc (.cells #[.slice (some ⟨b1, o1, none⟩) 2 c1, .slice A2 0 c2] 88))
  replace HR := Lib.hid ((HR.out.below hb2 (by omega)).alloc (.cells #[.slice (some ⟨b1, o1, none⟩) 2 c1, .slice A2 0 c2] 88))
  have HX := Lib.hid (Whole.new w1 88 #[.slice (some ⟨b1, o1, none⟩) 2 c1, .slice A2 0 c2])
  replace HB := Lib.hid ((HB.out.trans (hb2.mono HB.out.size)).alloc (HB.out.trans (hb2.mono HB.out.size)).size (.cells #[.slice (some ⟨b1, o1, none⟩) 2 c1, .slice A2 0 c2] 88))
  have hsz1 : w.heap.size + 3 ≤ w1.heap.size := Nat.le_trans hsz hb2.size
  have hsz2 : w.heap.size + 3 ≤ (w1.alloc (.cells #[.slice (some ⟨b1, o1, none⟩) 2 c1, .slice A2 0 c2] 88)).heap.size := by simp; omega
  clear hb2 HU
  obtain ⟨k0, k1, k2⟩ := HS.out.c3
  obtain ⟨j0, j1, j2⟩ := HR.out.c3
  obtain ⟨f0, f1, f2⟩ := HR.out.f3
  obtain ⟨q0, q1⟩ := HF.out.c2
  obtain ⟨x0, x1⟩ := HX.out.c2
  replace hb1 : b1 < (w1.alloc (.cells #[.slice (some ⟨b1, o1, none⟩) 2 c1, .slice A2 0 c2] 88)).heap.size := by simp; omega
  have d2 : ((2 : Int) == 2) = true := by simp
  go_wp2_with fail
  clear k0 k1 k2 j0 j1 j2 f0 f1 f2 q0 q1 x0 x1
  generalize hw2 : World.alloc w1 _ = w2 at *
  clear hw2
  refine s_start (fun W => Kept (fun _ => False) (w2).drew W) [] (by kernel_rfl) ?_
  have HC := Lib.hid (Kept.refl (fun _ => False) (w2).drew)
  have HK := Lib.hid (fun W (hW : Kept (fun _ => False) w2.drew W) => (⟨(hW.below (B := w2.heap.size) (fun _ h => h.elim) (Nat.le_refl _)).cell (p := ⟨b1, o1, none⟩) hb1 |>.trans m0, (hW.below (B := w2.heap.size) (fun _ h => h.elim) (Nat.le_refl _)).cell (p := ⟨b1, o1 + 1, none⟩) hb1 |>.trans m1⟩ : _ ∧ _))
  have HD2 := Lib.hid (show Below w2.heap.size w2 w2.drew from (Below.refl _ _).drew)
  have hzz : w2.heap.size ≤ w2.drew.heap.size := Nat.le_refl _
  clear m0 m1
  generalize (w2).drew = z1 at *
  refine s_take (i := 0) (v := ?_) rfl (by kernel_rfl) (by kernel_rfl) (by kernel_rfl) (k0 := 0) (by kernel_rfl) (by kernel_rfl) (.inl rfl) (fun _ _ _ h => h) (by rfl) HC.out ?_ ?_
  rotate_left
  · intro W hW
    go_simp
    first | done | rfl
  simp only [Act.put, List.setIfInBounds_toArray, List.set_cons_zero, List.set_cons_succ, List.getElem_toArray, List.getElem_cons_zero]
  refine s_take (i := 1) (v := ?_) rfl (by kernel_rfl) (by kernel_rfl) (by kernel_rfl) (k0 := 1) (by kernel_rfl) (by kernel_rfl) (.inl rfl) (fun _ _ _ h => h) (by rfl) HC.out ?_ ?_
  rotate_left
  · intro W hW
    go_simp
    first | done | rfl
  simp only [Act.put, List.setIfInBounds_toArray, List.set_cons_zero, List.set_cons_succ, List.getElem_toArray, List.getElem_cons_zero, List.getElem_cons_succ]
  refine s_take (i := 2) (v := ?_) rfl (by kernel_rfl) (by kernel_rfl) (by kernel_rfl) (k0 := 2) (by kernel_rfl) (by kernel_rfl) (.inl rfl) (fun _ _ _ h => h) (by rfl) HC.out ?_ ?_
  rotate_left
  · intro W hW
    obtain ⟨n0, n1⟩ := HK.out _ hW
    go_simp
    first | done | rfl
  simp only [Act.put, List.setIfInBounds_toArray, List.set_cons_zero, List.set_cons_succ, List.getElem_toArray, List.getElem_cons_zero, List.getElem_cons_succ]
  refine s_take (i := 3) (v := ?_) rfl (by kernel_rfl) (by kernel_rfl) (by kernel_rfl) (k0 := 3) (by kernel_rfl) (by kernel_rfl) (.inl rfl) (fun _ _ _ h => h) (by rfl) HC.out ?_ ?_
  rotate_left
  · intro W hW
    go_simp
    first | done | rfl
  simp only [Act.put, List.setIfInBounds_toArray, List.set_cons_zero, List.set_cons_succ, List.getElem_toArray, List.getElem_cons_zero, List.getElem_cons_succ]
  refine s_take (i := 4) (v := ?_) rfl (by kernel_rfl) (by kernel_rfl) (by kernel_rfl) (k0 := 4) (by kernel_rfl) (by kernel_rfl) (.inl rfl) (fun _ _ _ h => h) (by rfl) HC.out ?_ ?_
  rotate_left
  · intro W hW
    go_simp
    first | done | rfl
  simp only [Act.put, List.setIfInBounds_toArray, List.set_cons_zero, List.set_cons_succ, List.getElem_toArray, List.getElem_cons_zero, List.getElem_cons_succ]
  refine s_take (i := 5) (v := ?_) rfl (by kernel_rfl) (by kernel_rfl) (by kernel_rfl) (k0 := 5) (by kernel_rfl) (by kernel_rfl) (.inl rfl) (fun _ _ _ h => h) (by rfl) HC.out ?_ ?_
  rotate_left
  · intro W hW
    obtain ⟨n0, n1⟩ := HK.out _ hW
    go_simp
    first | done | rfl
  simp only [Act.put, List.setIfInBounds_toArray, List.set_cons_zero, List.set_cons_succ, List.getElem_toArray, List.getElem_cons_zero, List.getElem_cons_succ]
  refine s_take (i := 6) (v := ?_) rfl (by kernel_rfl) (by kernel_rfl) (by kernel_rfl) (k0 := 6) (by kernel_rfl) (by kernel_rfl) (.inl rfl) (fun _ _ _ h => h) (by rfl) HC.out ?_ ?_
  rotate_left
  · intro W hW
    go_simp
    first | done | rfl
  simp only [Act.put, List.setIfInBounds_toArray, List.set_cons_zero, List.set_cons_succ, List.getElem_toArray, List.getElem_cons_zero, List.getElem_cons_succ]
  refine s_one (i := 7) (by kernel_rfl) ?_
  refine ones_run (i := 7) (v := ?_) (w' := World.alloc (z1) (.cells #[.int .i64 0, .int .i64 0] 30)) rfl (by rfl) ?_ ?_ ?_
  rotate_left 1
  · go_simp
    first | done | rfl | (constructor <;> rfl)
  · exact fun _ => HC.out.trans (Below.kept ((Below.refl _ _).alloc (Nat.le_refl _) _))
  simp only [Act.put, List.setIfInBounds_toArray, List.set_cons_zero, List.set_cons_succ, List.getElem_toArray, List.getElem_cons_zero, List.getElem_cons_succ]
  have gbge := HC.out.size
  have HG := Lib.hid (Whole.new (z1) 30 #[.int .i64 0, .int .i64 0])
  replace HC := Lib.hid (HC.out.trans (Below.kept ((Below.refl _ _).alloc (Nat.le_refl _) (.cells #[.int .i64 0, .int .i64 0] 30))))
  generalize hw6 : World.alloc (z1) _ = z2 at *
  clear hw6
  refine s_one (i := 8) (by kernel_rfl) ?_
  obtain ⟨c_0, c_1⟩ := HG.out.c2
  obtain ⟨f_0, f_1⟩ := HG.out.f2
  refine ones_skip (i := 8) (w' := ?_) rfl (by rfl) ?_ ?_ ?_
  rotate_left 1
  · go_simp
    first | done | rfl
  · exact fun _ => ((HC.out.set (p := ⟨z1.heap.size, 0, none⟩) (.inr (by omega)) (.int .i64 x)).set (p := ⟨z1.heap.size, 1, none⟩) (.inr (by omega)) (.int .i64 y))
  simp only [Act.put, List.getElem_toArray, List.getElem_cons_zero, List.getElem_cons_succ]
  clear c_0 f_0 c_1 f_1
  replace HG := Lib.hid (show Whole _ _ _ #[.int .i64 x, .int .i64 y] from ((HG.out.set 0 (.int .i64 x)).set 1 (.int .i64 y)))
  replace HC := Lib.hid ((HC.out.set (p := ⟨z1.heap.size, 0, none⟩) (.inr (by omega)) (.int .i64 x)).set (p := ⟨z1.heap.size, 1, none⟩) (.inr (by omega)) (.int .i64 y))
  generalize hw6 : (World.setCell (World.setCell z2 ⟨z1.heap.size, 0, none⟩ (.int .i64 x)) ⟨z1.heap.size, 1, none⟩ (.int .i64 y)) = z3 at *
  clear hw6
  refine s_done (by kernel_rfl) ?_
  have hbw : Below w2.heap.size w2 z3 := HD2.out.trans (HC.out.below (B := w2.heap.size) (fun _ h => h.elim) hzz)
  replace HS := Lib.hid (HS.out.below hbw HS.out.lt)
  replace HF := Lib.hid (HF.out.below hbw HF.out.lt)
  replace HR := Lib.hid (HR.out.below hbw HR.out.lt)
  replace HX := Lib.hid (HX.out.below hbw HX.out.lt)
  replace HB := Lib.hid (HB.out.trans (hbw.mono HB.out.size))
  have hszx : w.heap.size + 3 ≤ z3.heap.size := by have := hbw.size; omega
  clear hbw HK HC HD2
  generalize hw5 : z3 = w5 at *
  clear hw5
  obtain ⟨c0, c1_⟩ := HG.out.c2
  go_simp
  go_wp2_with fail
  with_reducible refine (HRB.out _).mono ?_
  rintro e w6 ⟨rfl, hb⟩
  replace HS := Lib.hid (HS.out.below hb HS.out.lt)
  replace HF := Lib.hid (HF.out.below hb HF.out.lt)
  replace HR := Lib.hid (HR.out.below hb HR.out.lt)
  replace HX := Lib.hid (HX.out.below hb HX.out.lt)
  replace HG := Lib.hid (HG.out.below hb HG.out.lt)
  replace HB := Lib.hid (HB.out.trans (hb.mono HB.out.size))
  clear hb c0 c1_
  obtain ⟨c0, c1_⟩ := HG.out.c2
  obtain ⟨k0, k1, k2⟩ := HS.out.c3
  obtain ⟨j0, j1, j2⟩ := HR.out.c3
  obtain ⟨f0, f1, f2⟩ := HR.out.f3
  obtain ⟨q0, q1⟩ := HF.out.c2
  obtain ⟨x0, x1⟩ := HX.out.c2
  rcases q with _ | _
  · obtain rfl : P = none := by have := HP.out; simpa using this.symm
    have HRES := Lib.hid (HR.out.set3 (.int .i64 t) (.int .i64 vo) (.slice A n c))
    have HBS := Lib.hid (below_set3 HB.out (g := w.heap.size + 2) (by omega) (.int .i64 t) (.int .i64 vo) (.slice A n c))
    go_wp2_with fail
    refine bodyPost_ret (results_rstate2 rfl rfl HRES.out) rfl ?_
    exact ⟨_, rfl, (HSL.out _ HBS.out).wide (fun b hb _ => .inl hb.1), HBS.out⟩
  · obtain rfl : P = some ((x, y), l) := by have := HP.out; simpa using this.symm
    have HRES := Lib.hid (HR.out.set3 (.int .i64 x) (.int .i64 y) (.slice A n c))
    have HBS := Lib.hid (below_set3 HB.out (g := w.heap.size + 2) (by omega) (.int .i64 x) (.int .i64 y) (.slice A n c))
    go_wp2_with fail
    refine bodyPost_ret (results_rstate2 rfl rfl HRES.out) rfl ?_
    exact ⟨_, rfl, (HSL.out _ HBS.out).wide (fun b hb _ => .inl hb.1), HBS.out⟩
set_option maxRecDepth 100000 in
set_option maxHeartbeats 2000000 in
theorem rstep_cut (S : Nat → Prop) (t vo : Int) (l : List E) (hl64 : l.length ≤ 64) (vl : Value) (k : Int) (sB : Value) (b : List UInt8) (hbl : b.length ≤ 4096) (w : World) (hL : SlS w S vl l) (hb : Sl w w.heap.size sB b) (kn : Nat) (r : List UInt8) (hu : Fm.unpack b = .ok ([(kn : Int)], []) r) (hk : k = 3) (hkn : kn ≤ l.length) :
    Calls Tryd.prog 35 #[.agg #[.int .i64 t, .int .i64 vo, vl], .agg #[.int .i64 k, sB]] w (RStepOut w S ((t, vo), l.take kn) true) := by
  have HTL := Lib.hid (show (l.take kn).length = kn by rw [List.length_take]; omega)
  have hu2 := hu
  obtain ⟨A, c, rfl, hc, hm⟩ := hL.form
  obtain ⟨Ab, cb, rfl, hcb, hmb⟩ := hb.form
  have HSL := Lib.hid (fun W (h : Below w.heap.size w W) => (hL.wide (T := fun b => S b ∧ b < w.heap.size) (fun b h1 h2 => ⟨h1, h2⟩)).stay (fun b _ hlt => h.block b hlt))
  have h1 : Below w.heap.size w (w.alloc (.cells #[.int .i64 t, .int .i64 vo, .slice A l.length c] 33)) := (Below.refl _ _).alloc (Nat.le_refl _) _
  have h2 := h1.alloc h1.size (.cells #[.int .i64 k, .slice Ab b.length cb] 75)
  have HB := Lib.hid (h2.alloc h2.size (.cells #[.int .i64 0, .int .i64 0, .slice none 0 0] 33))
  have HS := Lib.hid (((Whole.new w 33 #[.int .i64 t, .int .i64 vo, .slice A l.length c]).alloc (.cells #[.int .i64 k, .slice Ab b.length cb] 75)).alloc (.cells #[.int .i64 0, .int .i64 0, .slice none 0 0] 33))
  have HF := Lib.hid ((Whole.new1 w (.cells #[.int .i64 t, .int .i64 vo, .slice A l.length c] 33) 75 #[.int .i64 k, .slice Ab b.length cb]).alloc (.cells #[.int .i64 0, .int .i64 0, .slice none 0 0] 33))
  have hR := Whole.new ((w.alloc (.cells #[.int .i64 t, .int .i64 vo, .slice A l.length c] 33)).alloc (.cells #[.int .i64 k, .slice Ab b.length cb] 75)) 33 #[.int .i64 0, .int .i64 0, .slice none 0 0]
  simp only [World.size_alloc, Nat.add_assoc, Nat.reduceAdd] at hR
  have HR := Lib.hid hR
  have hsz : w.heap.size + 3 ≤ (((w.alloc (.cells #[.int .i64 t, .int .i64 vo, .slice A l.length c] 33)).alloc (.cells #[.int .i64 k, .slice Ab b.length cb] 75)).alloc (.cells #[.int .i64 0, .int .i64 0, .slice none 0 0] 33)).heap.size := by simp
  have HU := Lib.hid (refUnpack_any _ b (by omega) (((w.alloc (.cells #[.int .i64 t, .int .i64 vo, .slice A l.length c] 33)).alloc (.cells #[.int .i64 k, .slice Ab b.length cb] 75)).alloc (.cells #[.int .i64 0, .int .i64 0, .slice none 0 0] 33)) w.heap.size HB.out.size (hb.below HB.out))
  clear hL hb h1 h2 hR
  generalize hln : l.length = n at *
  have HLN := Lib.hid hln
  generalize hbn : b.length = bn at *
  clear hln hbn
  rw [hu2] at HU
  clear hu hu2
  subst hk
  unfold maxLen at hm
  go_enter Tryd.func35, Tryd.ntmps35
  go_wp2_with fail
  with_reducible refine HU.out.mono ?_
  rintro e w1 ⟨sN, sD, rfl, h1, h2, hb2⟩
  obtain ⟨A1, c1, rfl, hcn, hm1⟩ := h1.sl.form
  obtain ⟨A2, c2, rfl, _, hm2⟩ := h2.sl.form
  simp only [List.length_nil] at *
  have hsl := h1.sl.below ((Below.refl w1.heap.size w1).alloc (Nat.le_refl _) (.cells #[.slice A1 1 c1, .slice A2 0 c2] 88))
  simp only [List.length_cons, List.length_nil, Nat.zero_add] at *
  obtain ⟨b1, o1, rfl, hb1, m0, -, -⟩ := hsl.int 0 (by simp)
  simp only [List.getElem_cons_zero, Nat.add_zero] at m0
  have hb1w : w.heap.size + 3 ≤ b1 := by
    obtain ⟨g, e1, e2, -, -⟩ := Own.at_ h1 (by omega)
    injection e1 with e1
    injection e1 with e1
    subst e1
    omega
  clear h1 h2 hsl
  replace HS := Lib.hid ((HS.out.below hb2 (by omega)).alloc (.cells #[.slice (some ⟨b1, o1, none⟩) 1 c1, .slice A2 0 c2] 88))
  replace HF := Lib.hid ((HF.out.below hb2 (by omega)).alloc (.cells #[.slice (some ⟨b1, o1, none⟩) 1 c1, .slice A2 0 c2] 88))
  replace HR := Lib.hid ((HR.out.below hb2 (by omega)).alloc (.cells #[.slice (some ⟨b1, o1, none⟩) 1 c1, .slice A2 0 c2] 88))
  have HX := Lib.hid (Whole.new w1 88 #[.slice (some ⟨b1, o1, none⟩) 1 c1, .slice A2 0 c2])
  replace HB := Lib.hid ((HB.out.trans (hb2.mono HB.out.size)).alloc (HB.out.trans (hb2.mono HB.out.size)).size (.cells #[.slice (some ⟨b1, o1, none⟩) 1 c1, .slice A2 0 c2] 88))
  have hsz1 : w.heap.size + 3 ≤ w1.heap.size := Nat.le_trans hsz hb2.size
  have hsz2 : w.heap.size + 3 ≤ (w1.alloc (.cells #[.slice (some ⟨b1, o1, none⟩) 1 c1, .slice A2 0 c2] 88)).heap.size := by simp; omega
  clear hb2 HU
  obtain ⟨k0, k1, k2⟩ := HS.out.c3
  obtain ⟨j0, j1, j2⟩ := HR.out.c3
  obtain ⟨f0, f1, f2⟩ := HR.out.f3
  obtain ⟨q0, q1⟩ := HF.out.c2
  obtain ⟨x0, x1⟩ := HX.out.c2
  replace hb1 : b1 < (w1.alloc (.cells #[.slice (some ⟨b1, o1, none⟩) 1 c1, .slice A2 0 c2] 88)).heap.size := by simp; omega
  have d2 : ((1 : Int) == 1) = true := by simp
  have d3 : decide (kn ≤ n) = true := by simpa using hkn
  have d4 : (0 : Int) < 1 := by omega
  have hr := fun W => run_upto A n c kn (kn : Int) rfl (by omega) W
  have hTK0 := fun W (h : Below w.heap.size w W) => (HSL.out W h).here.upto kn hkn
  generalize (if c = 0 then A else A.map (·.add (0 * 7))) = A3 at *
  go_wp2_with fail
  go_quiet (fail)
  replace HS := Lib.hid (HS.out.drewN nq)
  replace HF := Lib.hid (HF.out.drewN nq)
  replace HR := Lib.hid (HR.out.drewN nq)
  replace HX := Lib.hid (HX.out.drewN nq)
  replace HB := Lib.hid (below_drewN HB.out nq)
  clear k0 k1 k2 j0 j1 j2 f0 f1 f2 q0 q1 x0 x1
  replace hb1 : b1 < (World.drewN (w1.alloc (.cells #[.slice (some ⟨b1, o1, none⟩) 1 c1, .slice A2 0 c2] 88)) nq).heap.size := hb1
  replace m0 : (World.drewN (w1.alloc (.cells #[.slice (some ⟨b1, o1, none⟩) 1 c1, .slice A2 0 c2] 88)) nq).cell? _ = _ := m0
  have hsz3 : w.heap.size + 3 ≤ (World.drewN (w1.alloc (.cells #[.slice (some ⟨b1, o1, none⟩) 1 c1, .slice A2 0 c2] 88)) nq).heap.size := hsz2
  generalize hw3 : World.drewN _ nq = w3 at *
  clear hw3
  have hTK := fun W (hW : Kept (fun b => b = w.heap.size + 2) w3 W) => hTK0 W (HB.out.trans (hW.below (B := w.heap.size) (fun b hb => by omega) (by omega)))
  clear hTK0
  go_wp2_with fail
  refine s_start (fun W => Kept (fun b => b = w.heap.size + 2) (w3).drew W) [] (by kernel_rfl) ?_
  have HC := Lib.hid (Kept.refl (fun b => b = w.heap.size + 2) (w3).drew)
  have HK := Lib.hid (fun W (hW : Kept (fun b => b = w.heap.size + 2) w3.drew W) => (⟨(World.cell?_of_block (a := ⟨b1, o1, none⟩) (hW.block b1 hb1 (by omega))).trans m0, (hW.whole (show Whole w3.drew _ _ _ from HS.out) (by omega)).c3⟩ : _ ∧ _))
  have HTK := Lib.hid (fun W (hW : Kept (fun b => b = w.heap.size + 2) w3.drew W) => hTK W ((Below.kept (Below.refl _ _).drew).trans hW))
  replace HR := Lib.hid (show Whole w3.drew _ _ _ from HR.out)
  replace HB := Lib.hid HB.out.drew
  have hsz4 : w.heap.size + 3 ≤ w3.drew.heap.size := hsz3
  clear m0 hTK
  generalize (w3).drew = z1 at *
  refine s_take (i := 0) (v := ?_) rfl (by kernel_rfl) (by kernel_rfl) (by kernel_rfl) (k0 := 0) (by kernel_rfl) (by kernel_rfl) (.inl rfl) (fun _ _ _ h => h) (by rfl) HC.out ?_ ?_
  rotate_left
  · intro W hW
    go_simp
    first | done | rfl
  simp only [Act.put, List.setIfInBounds_toArray, List.set_cons_zero, List.set_cons_succ, List.getElem_toArray, List.getElem_cons_zero]
  refine s_take (i := 1) (v := ?_) rfl (by kernel_rfl) (by kernel_rfl) (by kernel_rfl) (k0 := 1) (by kernel_rfl) (by kernel_rfl) (.inl rfl) (fun _ _ _ h => h) (by rfl) HC.out ?_ ?_
  rotate_left
  · intro W hW
    obtain ⟨m0, k0, k1, k2⟩ := HK.out _ hW
    go_simp
    first | done | rfl
  simp only [Act.put, List.setIfInBounds_toArray, List.set_cons_zero, List.set_cons_succ, List.getElem_toArray, List.getElem_cons_zero, List.getElem_cons_succ]
  refine s_take (i := 2) (v := ?_) rfl (by kernel_rfl) (by kernel_rfl) (by kernel_rfl) (k0 := 2) (by kernel_rfl) (by kernel_rfl) (.inl rfl) (fun _ _ _ h => h) (by rfl) HC.out ?_ ?_
  rotate_left
  · intro W hW
    go_simp
    first | done | rfl
  simp only [Act.put, List.setIfInBounds_toArray, List.set_cons_zero, List.set_cons_succ, List.getElem_toArray, List.getElem_cons_zero, List.getElem_cons_succ]
  refine s_take (i := 3) (v := ?_) rfl (by kernel_rfl) (by kernel_rfl) (by kernel_rfl) (k0 := 3) (by kernel_rfl) (by kernel_rfl) (.inl rfl) (fun _ _ _ h => h) (by rfl) HC.out ?_ ?_
  rotate_left
  · intro W hW
    obtain ⟨m0, k0, k1, k2⟩ := HK.out _ hW
    go_simp
    first | done | rfl
  simp only [Act.put, List.setIfInBounds_toArray, List.set_cons_zero, List.set_cons_succ, List.getElem_toArray, List.getElem_cons_zero, List.getElem_cons_succ]
  refine s_take (i := 4) (v := ?_) rfl (by kernel_rfl) (by kernel_rfl) (by kernel_rfl) (k0 := 4) (by kernel_rfl) (by kernel_rfl) (.inl rfl) (fun _ _ _ h => h) (by rfl) HC.out ?_ ?_
  rotate_left
  · intro W hW
    go_simp
    first | done | rfl
  simp only [Act.put, List.setIfInBounds_toArray, List.set_cons_zero, List.set_cons_succ, List.getElem_toArray, List.getElem_cons_zero, List.getElem_cons_succ]
  refine s_take (i := 5) (v := ?_) rfl (by kernel_rfl) (by kernel_rfl) (by kernel_rfl) (k0 := 5) (by kernel_rfl) (by kernel_rfl) (.inl rfl) (fun _ _ _ h => h) (by rfl) HC.out ?_ ?_
  rotate_left
  · intro W hW
    go_simp
    first | done | rfl
  simp only [Act.put, List.setIfInBounds_toArray, List.set_cons_zero, List.set_cons_succ, List.getElem_toArray, List.getElem_cons_zero, List.getElem_cons_succ]
  refine s_take (i := 6) (v := ?_) rfl (by kernel_rfl) (by kernel_rfl) (by kernel_rfl) (k0 := 6) (by kernel_rfl) (by kernel_rfl) (.inl rfl) (fun _ _ _ h => h) (by rfl) HC.out ?_ ?_
  rotate_left
  · intro W hW
    obtain ⟨m0, k0, k1, k2⟩ := HK.out _ hW
    go_simp
    first | done | rfl
  simp only [Act.put, List.setIfInBounds_toArray, List.set_cons_zero, List.set_cons_succ, List.getElem_toArray, List.getElem_cons_zero, List.getElem_cons_succ]
  refine s_take (i := 7) (v := ?_) rfl (by kernel_rfl) (by kernel_rfl) (by kernel_rfl) (k0 := 7) (by kernel_rfl) (by kernel_rfl) (.inl rfl) (fun _ _ _ h => h) (by rfl) HC.out ?_ ?_
  rotate_left
  · intro W hW
    go_simp
    first | done | rfl
  simp only [Act.put, List.setIfInBounds_toArray, List.set_cons_zero, List.set_cons_succ, List.getElem_toArray, List.getElem_cons_zero, List.getElem_cons_succ]
  refine s_one (i := 8) (by kernel_rfl) ?_
  refine ones_append_sl (i := 8) rfl (by rfl) _ _ rfl rowE (w.heap.size + 3) (.slice none 0 0) [] rfl (Own.nil _ _ _) z1.heap.size _ (l.take kn) rfl (HTK.out _ HC.out) (by rw [HTL.out]; unfold maxLen; simp; omega) (by rw [HTL.out]; simp; omega) (by have := HC.out.size; omega) (fun W hg => HC.out.trans (Below.kept ((Below.refl _ _).grown hg (Nat.le_refl _) (fun k hk => by cases hk)))) ?_
  intro v4 z2 hown4 hgr4 hat4
  rw [List.nil_append] at hown4
  have hb4 := (Below.refl z1.heap.size z1).grown hgr4 (Nat.le_refl _) (fun k hk => by cases hk)
  replace HR := Lib.hid (HR.out.below hb4 HR.out.lt)
  replace HC := Lib.hid (HC.out.trans (Below.kept hb4))
  have HO := Lib.hid hown4
  clear hown4 hgr4 hat4 hb4
  obtain ⟨A5, c5, rfl, -, -⟩ := HO.out.sl.form
  rw [HTL.out] at HO ⊢
  simp only [Act.put, List.setIfInBounds_toArray, List.set_cons_zero, List.set_cons_succ, List.getElem_toArray, List.getElem_cons_zero, List.getElem_cons_succ]
  refine s_take (i := 9) (v := ?_) rfl (by kernel_rfl) (by kernel_rfl) (by kernel_rfl) (k0 := 9) (by kernel_rfl) (by kernel_rfl) (.inl rfl) (fun _ _ _ h => h) (by rfl) HC.out ?_ ?_
  rotate_left
  · intro W hW
    go_simp
    first | done | rfl
  simp only [Act.put, List.setIfInBounds_toArray, List.set_cons_zero, List.set_cons_succ, List.getElem_toArray, List.getElem_cons_zero, List.getElem_cons_succ]
  refine s_one (i := 10) (by kernel_rfl) ?_
  obtain ⟨c_0, c_1, c_2⟩ := HR.out.c3
  obtain ⟨f_0, f_1, f_2⟩ := HR.out.f3
  refine ones_skip (i := 10) (w' := ?_) rfl (by rfl) ?_ ?_ ?_
  rotate_left 1
  · go_simp
    first | done | rfl
  · exact fun _ => (((HC.out.set (p := ⟨w.heap.size + 2, 0, none⟩) (.inl rfl) (.int .i64 t)).set (p := ⟨w.heap.size + 2, 1, none⟩) (.inl rfl) (.int .i64 vo)).set (p := ⟨w.heap.size + 2, 2, none⟩) (.inl rfl) (.slice A5 kn c5))
  simp only [Act.put, List.getElem_toArray, List.getElem_cons_zero, List.getElem_cons_succ]
  clear c_0 f_0 c_1 f_1 c_2 f_2
  replace HR := Lib.hid (show Whole _ _ _ #[.int .i64 t, .int .i64 vo, .slice A5 kn c5] from (((HR.out.set 0 (.int .i64 t)).set 1 (.int .i64 vo)).set 2 (.slice A5 kn c5)))
  replace HC := Lib.hid (((HC.out.set (p := ⟨w.heap.size + 2, 0, none⟩) (.inl rfl) (.int .i64 t)).set (p := ⟨w.heap.size + 2, 1, none⟩) (.inl rfl) (.int .i64 vo)).set (p := ⟨w.heap.size + 2, 2, none⟩) (.inl rfl) (.slice A5 kn c5))
  replace HO := Lib.hid (HO.out.set (p := ⟨w.heap.size + 2, 0, none⟩) (by simp) (.int .i64 t))
  replace HO := Lib.hid (HO.out.set (p := ⟨w.heap.size + 2, 1, none⟩) (by simp) (.int .i64 vo))
  replace HO := Lib.hid (HO.out.set (p := ⟨w.heap.size + 2, 2, none⟩) (by simp) (.slice A5 kn c5))
  generalize hw6 : (World.setCell (World.setCell (World.setCell z2 ⟨w.heap.size + 2, 0, none⟩ (.int .i64 t)) ⟨w.heap.size + 2, 1, none⟩ (.int .i64 vo)) ⟨w.heap.size + 2, 2, none⟩ (.slice A5 kn c5)) = z3 at *
  clear hw6
  refine s_take (i := 11) (v := ?_) rfl (by kernel_rfl) (by kernel_rfl) (by kernel_rfl) (k0 := 11) (by kernel_rfl) (by kernel_rfl) (.inl rfl) (fun _ _ _ h => h) (by rfl) HC.out ?_ ?_
  rotate_left
  · intro W hW
    go_simp
    first | done | rfl
  simp only [Act.put, List.setIfInBounds_toArray, List.set_cons_zero, List.set_cons_succ, List.getElem_toArray, List.getElem_cons_zero, List.getElem_cons_succ]
  refine s_done (by kernel_rfl) ?_
  have HBB := Lib.hid (HB.out.trans (HC.out.below (B := w.heap.size) (fun b hb => by omega) (by omega)))
  go_simp
  go_wp2_with fail
  refine bodyPost_ret (results_rstate2 rfl rfl HR.out) rfl ?_
  refine ⟨.slice A5 kn c5, rfl, ?_, HBB.out⟩
  exact HO.out.slS.wide (fun b hb _ => .inr (by omega))
set_option maxRecDepth 100000 in
set_option maxHeartbeats 2000000 in
theorem rstep_over (S : Nat → Prop) (t vo : Int) (l : List E) (_hl64 : l.length ≤ 64) (vl : Value) (k : Int) (sB : Value) (b : List UInt8) (hbl : b.length ≤ 4096) (w : World) (hL : SlS w S vl l) (hb : Sl w w.heap.size sB b) (kn : Nat) (r : List UInt8) (hu : Fm.unpack b = .ok ([(kn : Int)], []) r) (hk : k = 3) (hkn : ¬ kn ≤ l.length) :
    Calls Tryd.prog 35 #[.agg #[.int .i64 t, .int .i64 vo, vl], .agg #[.int .i64 k, sB]] w (RStepOut w S ((t, vo), l) false) := by
  have hu2 := hu
  obtain ⟨A, c, rfl, hc, hm⟩ := hL.form
  obtain ⟨Ab, cb, rfl, hcb, hmb⟩ := hb.form
  have HSL := Lib.hid (fun W (h : Below w.heap.size w W) => (hL.wide (T := fun b => S b ∧ b < w.heap.size) (fun b h1 h2 => ⟨h1, h2⟩)).stay (fun b _ hlt => h.block b hlt))
  have h1 : Below w.heap.size w (w.alloc (.cells #[.int .i64 t, .int .i64 vo, .slice A l.length c] 33)) := (Below.refl _ _).alloc (Nat.le_refl _) _
  have h2 := h1.alloc h1.size (.cells #[.int .i64 k, .slice Ab b.length cb] 75)
  have HB := Lib.hid (h2.alloc h2.size (.cells #[.int .i64 0, .int .i64 0, .slice none 0 0] 33))
  have HS := Lib.hid (((Whole.new w 33 #[.int .i64 t, .int .i64 vo, .slice A l.length c]).alloc (.cells #[.int .i64 k, .slice Ab b.length cb] 75)).alloc (.cells #[.int .i64 0, .int .i64 0, .slice none 0 0] 33))
  have HF := Lib.hid ((Whole.new1 w (.cells #[.int .i64 t, .int .i64 vo, .slice A l.length c] 33) 75 #[.int .i64 k, .slice Ab b.length cb]).alloc (.cells #[.int .i64 0, .int .i64 0, .slice none 0 0] 33))
  have hR := Whole.new ((w.alloc (.cells #[.int .i64 t, .int .i64 vo, .slice A l.length c] 33)).alloc (.cells #[.int .i64 k, .slice Ab b.length cb] 75)) 33 #[.int .i64 0, .int .i64 0, .slice none 0 0]
  simp only [World.size_alloc, Nat.add_assoc, Nat.reduceAdd] at hR
  have HR := Lib.hid hR
  have hsz : w.heap.size + 3 ≤ (((w.alloc (.cells #[.int .i64 t, .int .i64 vo, .slice A l.length c] 33)).alloc (.cells #[.int .i64 k, .slice Ab b.length cb] 75)).alloc (.cells #[.int .i64 0, .int .i64 0, .slice none 0 0] 33)).heap.size := by simp
  have HU := Lib.hid (refUnpack_any _ b (by omega) (((w.alloc (.cells #[.int .i64 t, .int .i64 vo, .slice A l.length c] 33)).alloc (.cells #[.int .i64 k, .slice Ab b.length cb] 75)).alloc (.cells #[.int .i64 0, .int .i64 0, .slice none 0 0] 33)) w.heap.size HB.out.size (hb.below HB.out))
  clear hL hb h1 h2 hR
  generalize hln : l.length = n at *
  have HLN := Lib.hid hln
  generalize hbn : b.length = bn at *
  clear hln hbn
  rw [hu2] at HU
  clear hu hu2
  subst hk
  unfold maxLen at hm
  go_enter Tryd.func35, Tryd.ntmps35
  go_wp2_with fail
  with_reducible refine HU.out.mono ?_
  rintro e w1 ⟨sN, sD, rfl, h1, h2, hb2⟩
  obtain ⟨A1, c1, rfl, hcn, hm1⟩ := h1.sl.form
  obtain ⟨A2, c2, rfl, _, hm2⟩ := h2.sl.form
  simp only [List.length_nil] at *
  have hsl := h1.sl.below ((Below.refl w1.heap.size w1).alloc (Nat.le_refl _) (.cells #[.slice A1 1 c1, .slice A2 0 c2] 88))
  simp only [List.length_cons, List.length_nil, Nat.zero_add] at *
  obtain ⟨b1, o1, rfl, hb1, m0, -, -⟩ := hsl.int 0 (by simp)
  simp only [List.getElem_cons_zero, Nat.add_zero] at m0
  clear h1 h2 hsl
  replace HS := Lib.hid ((HS.out.below hb2 (by omega)).alloc (.cells #[.slice (some ⟨b1, o1, none⟩) 1 c1, .slice A2 0 c2] 88))
  replace HF := Lib.hid ((HF.out.below hb2 (by omega)).alloc (.cells #[.slice (some ⟨b1, o1, none⟩) 1 c1, .slice A2 0 c2] 88))
  replace HR := Lib.hid ((HR.out.below hb2 (by omega)).alloc (.cells #[.slice (some ⟨b1, o1, none⟩) 1 c1, .slice A2 0 c2] 88))
  have HX := Lib.hid (Whole.new w1 88 #[.slice (some ⟨b1, o1, none⟩) 1 c1, .slice A2 0 c2])
  replace HB := Lib.hid ((HB.out.trans (hb2.mono HB.out.size)).alloc (HB.out.trans (hb2.mono HB.out.size)).size (.cells #[.slice (some ⟨b1, o1, none⟩) 1 c1, .slice A2 0 c2] 88))
  have hsz1 : w.heap.size + 3 ≤ w1.heap.size := Nat.le_trans hsz hb2.size
  have hsz2 : w.heap.size + 3 ≤ (w1.alloc (.cells #[.slice (some ⟨b1, o1, none⟩) 1 c1, .slice A2 0 c2] 88)).heap.size := by simp; omega
  clear hb2 HU
  obtain ⟨k0, k1, k2⟩ := HS.out.c3
  obtain ⟨j0, j1, j2⟩ := HR.out.c3
  obtain ⟨f0, f1, f2⟩ := HR.out.f3
  obtain ⟨q0, q1⟩ := HF.out.c2
  obtain ⟨x0, x1⟩ := HX.out.c2
  have d2 : ((1 : Int) == 1) = true := by simp
  have d3 : decide (kn ≤ n) = false := by simpa using hkn
  have d4 : (0 : Int) < 1 := by omega
  go_wp2_with fail
  go_quiet (fail)
  replace HS := Lib.hid (HS.out.drewN nq)
  replace HF := Lib.hid (HF.out.drewN nq)
  replace HR := Lib.hid (HR.out.drewN nq)
  replace HX := Lib.hid (HX.out.drewN nq)
  replace HB := Lib.hid (below_drewN HB.out nq)
  clear k0 k1 k2 j0 j1 j2 f0 f1 f2 q0 q1 x0 x1
  obtain ⟨k0, k1, k2⟩ := HS.out.c3
  obtain ⟨j0, j1, j2⟩ := HR.out.c3
  obtain ⟨f0, f1, f2⟩ := HR.out.f3
  obtain ⟨q0, q1⟩ := HF.out.c2
  obtain ⟨x0, x1⟩ := HX.out.c2
  have HRES := Lib.hid (HR.out.set3 (.int .i64 t) (.int .i64 vo) (.slice A n c))
  have HBS := Lib.hid (below_set3 HB.out (g := w.heap.size + 2) (by omega) (.int .i64 t) (.int .i64 vo) (.slice A n c))
  go_wp2_with fail
  refine bodyPost_ret (results_rstate2 rfl rfl HRES.out) rfl ?_
  exact ⟨_, rfl, (HSL.out _ HBS.out).wide (fun b hb _ => .inl hb.1), HBS.out⟩
set_option maxRecDepth 100000 in
set_option maxHeartbeats 2000000 in
theorem rstep_ent (S : Nat → Prop) (t vo : Int) (l : List E) (hl64 : l.length ≤ 64) (vl : Value) (k : Int) (sB : Value) (b : List UInt8) (hbl : b.length ≤ 4096) (w : World) (hL : SlS w S vl l) (hb : Sl w w.heap.size sB b) (n0 n1 n2 n3 n4 n5 n6 n7 : Int) (r : List UInt8) (hu : Fm.unpack b = .ok ([n0, n1, n2, n3, n4, n5, n6, n7], []) r) (hk : k = 2) (hmay : ∀ n ∈ [n0, n1, n2, n3, n4, n5, n6, n7], Fm.may n) :
    Calls Tryd.prog 35 #[.agg #[.int .i64 t, .int .i64 vo, vl], .agg #[.int .i64 k, sB]] w (RStepOut w S ((Vl.addE ((t, vo), l) [n0, n1, n2, n3, n4, n5, n6, n7]).getD ((t, vo), l)) (Vl.addE ((t, vo), l) [n0, n1, n2, n3, n4, n5, n6, n7]).isSome) := by
  have hwf : Flat.wf (α := E) (n1, n2, n3, n4, n5, n6, n7) := ⟨may_fit (hmay n1 (by simp)), may_fit (hmay n2 (by simp)), may_fit (hmay n3 (by simp)), may_fit (hmay n4 (by simp)), may_fit (hmay n5 (by simp)), may_fit (hmay n6 (by simp)), may_fit (hmay n7 (by simp))⟩
  have hP0 : Vl.addE ((t, vo), l) [n0, n1, n2, n3, n4, n5, n6, n7] = if Lg.may (0, 0, l ++ [(n1, n2, n3, n4, n5, n6, n7)]) = true then (if n0 = (l.length : Int) + 1 then some ((t, vo), l ++ [(n1, n2, n3, n4, n5, n6, n7)]) else none) else none := by
    by_cases hat : n0 = (l.length : Int) + 1
    · rw [addE_eight (s := ((t, vo), l)) hat, if_pos hat]
    · rw [addE_at (s := ((t, vo), l)) hat, if_neg hat]; simp
  rw [hP0]
  have HMY := Lib.hid (fun W v (hv : Sl W W.heap.size v (l ++ [(n1, n2, n3, n4, n5, n6, n7)])) => rmay_any 0 0 v _ W W.heap.size (Nat.le_refl _) hv)
  have HL0 := Lib.hid (show (l ++ [(n1, n2, n3, n4, n5, n6, n7)]).length = l.length + 1 by simp)
  clear hP0
  generalize Lg.may (0, 0, l ++ [(n1, n2, n3, n4, n5, n6, n7)]) = q at *
  generalize hP : (if q = true then (if n0 = (l.length : Int) + 1 then some ((t, vo), l ++ [(n1, n2, n3, n4, n5, n6, n7)]) else none) else none : Option Vl.S) = P at *
  have HP := Lib.hid hP
  clear hP
  have hu2 := hu
  obtain ⟨A, c, rfl, hc, hm⟩ := hL.form
  obtain ⟨Ab, cb, rfl, hcb, hmb⟩ := hb.form
  have HSL := Lib.hid (fun W (h : Below w.heap.size w W) => (hL.wide (T := fun b => S b ∧ b < w.heap.size) (fun b h1 h2 => ⟨h1, h2⟩)).stay (fun b _ hlt => h.block b hlt))
  have h1 : Below w.heap.size w (w.alloc (.cells #[.int .i64 t, .int .i64 vo, .slice A l.length c] 33)) := (Below.refl _ _).alloc (Nat.le_refl _) _
  have h2 := h1.alloc h1.size (.cells #[.int .i64 k, .slice Ab b.length cb] 75)
  have HB := Lib.hid (h2.alloc h2.size (.cells #[.int .i64 0, .int .i64 0, .slice none 0 0] 33))
  have HS := Lib.hid (((Whole.new w 33 #[.int .i64 t, .int .i64 vo, .slice A l.length c]).alloc (.cells #[.int .i64 k, .slice Ab b.length cb] 75)).alloc (.cells #[.int .i64 0, .int .i64 0, .slice none 0 0] 33))
  have HF := Lib.hid ((Whole.new1 w (.cells #[.int .i64 t, .int .i64 vo, .slice A l.length c] 33) 75 #[.int .i64 k, .slice Ab b.length cb]).alloc (.cells #[.int .i64 0, .int .i64 0, .slice none 0 0] 33))
  have hR := Whole.new ((w.alloc (.cells #[.int .i64 t, .int .i64 vo, .slice A l.length c] 33)).alloc (.cells #[.int .i64 k, .slice Ab b.length cb] 75)) 33 #[.int .i64 0, .int .i64 0, .slice none 0 0]
  simp only [World.size_alloc, Nat.add_assoc, Nat.reduceAdd] at hR
  have HR := Lib.hid hR
  have hsz : w.heap.size + 3 ≤ (((w.alloc (.cells #[.int .i64 t, .int .i64 vo, .slice A l.length c] 33)).alloc (.cells #[.int .i64 k, .slice Ab b.length cb] 75)).alloc (.cells #[.int .i64 0, .int .i64 0, .slice none 0 0] 33)).heap.size := by simp
  have HU := Lib.hid (refUnpack_any _ b (by omega) (((w.alloc (.cells #[.int .i64 t, .int .i64 vo, .slice A l.length c] 33)).alloc (.cells #[.int .i64 k, .slice Ab b.length cb] 75)).alloc (.cells #[.int .i64 0, .int .i64 0, .slice none 0 0] 33)) w.heap.size HB.out.size (hb.below HB.out))
  clear hL hb h1 h2 hR
  generalize hln : l.length = n at *
  have HLN := Lib.hid hln
  generalize hbn : b.length = bn at *
  clear hln hbn
  rw [hu2] at HU
  clear hu hu2
  subst hk
  unfold maxLen at hm
  go_enter Tryd.func35, Tryd.ntmps35
  go_wp2_with fail
  with_reducible refine HU.out.mono ?_
  rintro e w1 ⟨sN, sD, rfl, h1, h2, hb2⟩
  obtain ⟨A1, c1, rfl, hcn, hm1⟩ := h1.sl.form
  obtain ⟨A2, c2, rfl, _, hm2⟩ := h2.sl.form
  simp only [List.length_nil] at *
  have hsl := h1.sl.below ((Below.refl w1.heap.size w1).alloc (Nat.le_refl _) (.cells #[.slice A1 8 c1, .slice A2 0 c2] 88))
  simp only [List.length_cons, List.length_nil, Nat.zero_add, Nat.reduceAdd] at *
  obtain ⟨b1, o1, rfl, hb1, m0, m1, m2, m3, m4, m5, m6, m7⟩ := ints_eight hsl
  clear h1 h2 hsl
  replace HS := Lib.hid ((HS.out.below hb2 (by omega)).alloc (.cells #[.slice (some ⟨b1, o1, none⟩) 8 c1, .slice A2 0 c2] 88))
  replace HF := Lib.hid ((HF.out.below hb2 (by omega)).alloc (.cells #[.slice (some ⟨b1, o1, none⟩) 8 c1, .slice A2 0 c2] 88))
  replace HR := Lib.hid ((HR.out.below hb2 (by omega)).alloc (.cells #[.slice (some ⟨b1, o1, none⟩) 8 c1, .slice A2 0 c2] 88))
  have HX := Lib.hid (Whole.new w1 88 #[.slice (some ⟨b1, o1, none⟩) 8 c1, .slice A2 0 c2])
  replace HB := Lib.hid ((HB.out.trans (hb2.mono HB.out.size)).alloc (HB.out.trans (hb2.mono HB.out.size)).size (.cells #[.slice (some ⟨b1, o1, none⟩) 8 c1, .slice A2 0 c2] 88))
  have hsz1 : w.heap.size + 3 ≤ w1.heap.size := Nat.le_trans hsz hb2.size
  have hsz2 : w.heap.size + 3 ≤ (w1.alloc (.cells #[.slice (some ⟨b1, o1, none⟩) 8 c1, .slice A2 0 c2] 88)).heap.size := by simp; omega
  clear hb2 HU
  obtain ⟨k0, k1, k2⟩ := HS.out.c3
  obtain ⟨j0, j1, j2⟩ := HR.out.c3
  obtain ⟨f0, f1, f2⟩ := HR.out.f3
  obtain ⟨q0, q1⟩ := HF.out.c2
  obtain ⟨x0, x1⟩ := HX.out.c2
  replace hb1 : b1 < (w1.alloc (.cells #[.slice (some ⟨b1, o1, none⟩) 8 c1, .slice A2 0 c2] 88)).heap.size := by simp; omega
  have d2 : ((8 : Int) == 8) = true := by simp
  have HN8 := Lib.hid (fun W (h : Below (w1.alloc (.cells #[.slice (some ⟨b1, o1, none⟩) 8 c1, .slice A2 0 c2] 88)).heap.size (w1.alloc (.cells #[.slice (some ⟨b1, o1, none⟩) 8 c1, .slice A2 0 c2] 88)) W) => (⟨⟨(h.cell (p := ⟨b1, o1, none⟩) hb1).trans m0, (h.cell (p := ⟨b1, o1 + 1, none⟩) hb1).trans m1, (h.cell (p := ⟨b1, o1 + 2, none⟩) hb1).trans m2, (h.cell (p := ⟨b1, o1 + 3, none⟩) hb1).trans m3, (h.cell (p := ⟨b1, o1 + 4, none⟩) hb1).trans m4, (h.cell (p := ⟨b1, o1 + 5, none⟩) hb1).trans m5, (h.cell (p := ⟨b1, o1 + 6, none⟩) hb1).trans m6, (h.cell (p := ⟨b1, o1 + 7, none⟩) hb1).trans m7⟩, Nat.lt_of_lt_of_le hb1 h.size⟩ : (_ ∧ _ ∧ _ ∧ _ ∧ _ ∧ _ ∧ _ ∧ _) ∧ b1 < W.heap.size))
  clear m0 m1 m2 m3 m4 m5 m6 m7
  have HLS := Lib.hid (HSL.out _ HB.out)
  go_wp2_with (at_builtin; refine wpList_append_sl rfl _ (.tmp 63) rfl rowE (w1.alloc (.cells #[.slice (some ⟨b1, o1, none⟩) 8 c1, .slice A2 0 c2] 88)).heap.size (.slice none 0 0) [] rfl (Own.nil _ _ _) (w1.alloc (.cells #[.slice (some ⟨b1, o1, none⟩) 8 c1, .slice A2 0 c2] 88)).heap.size _ l rfl HLS.out.here (by rw [HLN.out]; unfold maxLen; simp; omega) (by rw [HLN.out]; simp; omega) (Nat.le_refl _) ?_; intro v4 w3 hown4 hg4 hat4; rw [List.nil_append] at hown4; have hb4 := (Below.refl (w1.alloc (.cells #[.slice (some ⟨b1, o1, none⟩) 8 c1, .slice A2 0 c2] 88)).heap.size (w1.alloc (.cells #[.slice (some ⟨b1, o1, none⟩) 8 c1, .slice A2 0 c2] 88))).grown hg4 (Nat.le_refl _) (fun k hk => by cases hk); obtain ⟨A4, c4, rfl, -, -⟩ := hown4.sl.form; rw [HLN.out] at hown4 ⊢; have HO := Lib.hid hown4; have HD3 := Lib.hid hb4; have hz32 := hb4.size; have HAL := Lib.hid (fun b (hb : lbk A4 = some b) => (hown4.lt b (by rw [own_lbk]; exact hb)).1); clear hown4 hg4 hat4 hb4)
  clear k0 k1 k2 j0 j1 j2 f0 f1 f2 q0 q1 x0 x1
  generalize hw2 : World.alloc w1 _ = w2 at *
  clear hw2
  refine s_start (fun W => Kept (fun b => lbk A4 = some b) (w3).drew W) [] (by kernel_rfl) ?_
  have HC := Lib.hid (Kept.refl (fun b => lbk A4 = some b) (w3).drew)
  have HK := Lib.hid (fun W (hW : Kept (fun b => lbk A4 = some b) w3.drew W) => (HN8.out W (HD3.out.trans ((Below.refl _ _).drew.trans (hW.below (B := w2.heap.size) (fun b hb => HAL.out b hb) hz32)) )).1)
  replace HO := Lib.hid HO.out.drew
  replace HD3 := Lib.hid HD3.out.drew
  have HZD := Lib.hid (show w2.heap.size ≤ w3.drew.heap.size from hz32)
  generalize (w3).drew = z1 at *
  refine s_take (i := 0) (v := ?_) rfl (by kernel_rfl) (by kernel_rfl) (by kernel_rfl) (k0 := 0) (by kernel_rfl) (by kernel_rfl) (.inl rfl) (fun _ _ _ h => h) (by rfl) HC.out ?_ ?_
  rotate_left
  · intro W hW
    go_simp
    first | done | rfl
  simp only [Act.put, List.setIfInBounds_toArray, List.set_cons_zero, List.set_cons_succ, List.getElem_toArray, List.getElem_cons_zero]
  refine s_take (i := 1) (v := ?_) rfl (by kernel_rfl) (by kernel_rfl) (by kernel_rfl) (k0 := 1) (by kernel_rfl) (by kernel_rfl) (.inl rfl) (fun _ _ _ h => h) (by rfl) HC.out ?_ ?_
  rotate_left
  · intro W hW
    go_simp
    first | done | rfl
  simp only [Act.put, List.setIfInBounds_toArray, List.set_cons_zero, List.set_cons_succ, List.getElem_toArray, List.getElem_cons_zero, List.getElem_cons_succ]
  refine s_take (i := 2) (v := ?_) rfl (by kernel_rfl) (by kernel_rfl) (by kernel_rfl) (k0 := 2) (by kernel_rfl) (by kernel_rfl) (.inl rfl) (fun _ _ _ h => h) (by rfl) HC.out ?_ ?_
  rotate_left
  · intro W hW
    go_simp
    first | done | rfl
  simp only [Act.put, List.setIfInBounds_toArray, List.set_cons_zero, List.set_cons_succ, List.getElem_toArray, List.getElem_cons_zero, List.getElem_cons_succ]
  refine s_take (i := 3) (v := ?_) rfl (by kernel_rfl) (by kernel_rfl) (by kernel_rfl) (k0 := 3) (by kernel_rfl) (by kernel_rfl) (.inl rfl) (fun _ _ _ h => h) (by rfl) HC.out ?_ ?_
  rotate_left
  · intro W hW
    obtain ⟨m0, m1, m2, m3, m4, m5, m6, m7⟩ := HK.out _ hW
    go_simp
    first | done | rfl
  simp only [Act.put, List.setIfInBounds_toArray, List.set_cons_zero, List.set_cons_succ, List.getElem_toArray, List.getElem_cons_zero, List.getElem_cons_succ]
  refine s_take (i := 4) (v := ?_) rfl (by kernel_rfl) (by kernel_rfl) (by kernel_rfl) (k0 := 4) (by kernel_rfl) (by kernel_rfl) (.inl rfl) (fun _ _ _ h => h) (by rfl) HC.out ?_ ?_
  rotate_left
  · intro W hW
    go_simp
    first | done | rfl
  simp only [Act.put, List.setIfInBounds_toArray, List.set_cons_zero, List.set_cons_succ, List.getElem_toArray, List.getElem_cons_zero, List.getElem_cons_succ]
  refine s_take (i := 5) (v := ?_) rfl (by kernel_rfl) (by kernel_rfl) (by kernel_rfl) (k0 := 5) (by kernel_rfl) (by kernel_rfl) (.inl rfl) (fun _ _ _ h => h) (by rfl) HC.out ?_ ?_
  rotate_left
  · intro W hW
    go_simp
    first | done | rfl
  simp only [Act.put, List.setIfInBounds_toArray, List.set_cons_zero, List.set_cons_succ, List.getElem_toArray, List.getElem_cons_zero, List.getElem_cons_succ]
  refine s_take (i := 6) (v := ?_) rfl (by kernel_rfl) (by kernel_rfl) (by kernel_rfl) (k0 := 6) (by kernel_rfl) (by kernel_rfl) (.inl rfl) (fun _ _ _ h => h) (by rfl) HC.out ?_ ?_
  rotate_left
  · intro W hW
    obtain ⟨m0, m1, m2, m3, m4, m5, m6, m7⟩ := HK.out _ hW
    go_simp
    first | done | rfl
  simp only [Act.put, List.setIfInBounds_toArray, List.set_cons_zero, List.set_cons_succ, List.getElem_toArray, List.getElem_cons_zero, List.getElem_cons_succ]
  refine s_take (i := 7) (v := ?_) rfl (by kernel_rfl) (by kernel_rfl) (by kernel_rfl) (k0 := 7) (by kernel_rfl) (by kernel_rfl) (.inl rfl) (fun _ _ _ h => h) (by rfl) HC.out ?_ ?_
  rotate_left
  · intro W hW
    go_simp
    first | done | rfl
  simp only [Act.put, List.setIfInBounds_toArray, List.set_cons_zero, List.set_cons_succ, List.getElem_toArray, List.getElem_cons_zero, List.getElem_cons_succ]
  refine s_take (i := 8) (v := ?_) rfl (by kernel_rfl) (by kernel_rfl) (by kernel_rfl) (k0 := 8) (by kernel_rfl) (by kernel_rfl) (.inl rfl) (fun _ _ _ h => h) (by rfl) HC.out ?_ ?_
  rotate_left
  · intro W hW
    go_simp
    first | done | rfl
  simp only [Act.put, List.setIfInBounds_toArray, List.set_cons_zero, List.set_cons_succ, List.getElem_toArray, List.getElem_cons_zero, List.getElem_cons_succ]
  refine s_take (i := 9) (v := ?_) rfl (by kernel_rfl) (by kernel_rfl) (by kernel_rfl) (k0 := 9) (by kernel_rfl) (by kernel_rfl) (.inl rfl) (fun _ _ _ h => h) (by rfl) HC.out ?_ ?_
  rotate_left
  · intro W hW
    obtain ⟨m0, m1, m2, m3, m4, m5, m6, m7⟩ := HK.out _ hW
    go_simp
    first | done | rfl
  simp only [Act.put, List.setIfInBounds_toArray, List.set_cons_zero, List.set_cons_succ, List.getElem_toArray, List.getElem_cons_zero, List.getElem_cons_succ]
  refine s_take (i := 10) (v := ?_) rfl (by kernel_rfl) (by kernel_rfl) (by kernel_rfl) (k0 := 10) (by kernel_rfl) (by kernel_rfl) (.inl rfl) (fun _ _ _ h => h) (by rfl) HC.out ?_ ?_
  rotate_left
  · intro W hW
    go_simp
    first | done | rfl
  simp only [Act.put, List.setIfInBounds_toArray, List.set_cons_zero, List.set_cons_succ, List.getElem_toArray, List.getElem_cons_zero, List.getElem_cons_succ]
  refine s_take (i := 11) (v := ?_) rfl (by kernel_rfl) (by kernel_rfl) (by kernel_rfl) (k0 := 11) (by kernel_rfl) (by kernel_rfl) (.inl rfl) (fun _ _ _ h => h) (by rfl) HC.out ?_ ?_
  rotate_left
  · intro W hW
    go_simp
    first | done | rfl
  simp only [Act.put, List.setIfInBounds_toArray, List.set_cons_zero, List.set_cons_succ, List.getElem_toArray, List.getElem_cons_zero, List.getElem_cons_succ]
  refine s_take (i := 12) (v := ?_) rfl (by kernel_rfl) (by kernel_rfl) (by kernel_rfl) (k0 := 12) (by kernel_rfl) (by kernel_rfl) (.inl rfl) (fun _ _ _ h => h) (by rfl) HC.out ?_ ?_
  rotate_left
  · intro W hW
    obtain ⟨m0, m1, m2, m3, m4, m5, m6, m7⟩ := HK.out _ hW
    go_simp
    first | done | rfl
  simp only [Act.put, List.setIfInBounds_toArray, List.set_cons_zero, List.set_cons_succ, List.getElem_toArray, List.getElem_cons_zero, List.getElem_cons_succ]
  refine s_take (i := 13) (v := ?_) rfl (by kernel_rfl) (by kernel_rfl) (by kernel_rfl) (k0 := 13) (by kernel_rfl) (by kernel_rfl) (.inl rfl) (fun _ _ _ h => h) (by rfl) HC.out ?_ ?_
  rotate_left
  · intro W hW
    go_simp
    first | done | rfl
  simp only [Act.put, List.setIfInBounds_toArray, List.set_cons_zero, List.set_cons_succ, List.getElem_toArray, List.getElem_cons_zero, List.getElem_cons_succ]
  refine s_take (i := 14) (v := ?_) rfl (by kernel_rfl) (by kernel_rfl) (by kernel_rfl) (k0 := 14) (by kernel_rfl) (by kernel_rfl) (.inl rfl) (fun _ _ _ h => h) (by rfl) HC.out ?_ ?_
  rotate_left
  · intro W hW
    go_simp
    first | done | rfl
  simp only [Act.put, List.setIfInBounds_toArray, List.set_cons_zero, List.set_cons_succ, List.getElem_toArray, List.getElem_cons_zero, List.getElem_cons_succ]
  refine s_take (i := 15) (v := ?_) rfl (by kernel_rfl) (by kernel_rfl) (by kernel_rfl) (k0 := 15) (by kernel_rfl) (by kernel_rfl) (.inl rfl) (fun _ _ _ h => h) (by rfl) HC.out ?_ ?_
  rotate_left
  · intro W hW
    obtain ⟨m0, m1, m2, m3, m4, m5, m6, m7⟩ := HK.out _ hW
    go_simp
    first | done | rfl
  simp only [Act.put, List.setIfInBounds_toArray, List.set_cons_zero, List.set_cons_succ, List.getElem_toArray, List.getElem_cons_zero, List.getElem_cons_succ]
  refine s_take (i := 16) (v := ?_) rfl (by kernel_rfl) (by kernel_rfl) (by kernel_rfl) (k0 := 16) (by kernel_rfl) (by kernel_rfl) (.inl rfl) (fun _ _ _ h => h) (by rfl) HC.out ?_ ?_
  rotate_left
  · intro W hW
    go_simp
    first | done | rfl
  simp only [Act.put, List.setIfInBounds_toArray, List.set_cons_zero, List.set_cons_succ, List.getElem_toArray, List.getElem_cons_zero, List.getElem_cons_succ]
  refine s_take (i := 17) (v := ?_) rfl (by kernel_rfl) (by kernel_rfl) (by kernel_rfl) (k0 := 17) (by kernel_rfl) (by kernel_rfl) (.inl rfl) (fun _ _ _ h => h) (by rfl) HC.out ?_ ?_
  rotate_left
  · intro W hW
    go_simp
    first | done | rfl
  simp only [Act.put, List.setIfInBounds_toArray, List.set_cons_zero, List.set_cons_succ, List.getElem_toArray, List.getElem_cons_zero, List.getElem_cons_succ]
  refine s_take (i := 18) (v := ?_) rfl (by kernel_rfl) (by kernel_rfl) (by kernel_rfl) (k0 := 18) (by kernel_rfl) (by kernel_rfl) (.inl rfl) (fun _ _ _ h => h) (by rfl) HC.out ?_ ?_
  rotate_left
  · intro W hW
    obtain ⟨m0, m1, m2, m3, m4, m5, m6, m7⟩ := HK.out _ hW
    go_simp
    first | done | rfl
  simp only [Act.put, List.setIfInBounds_toArray, List.set_cons_zero, List.set_cons_succ, List.getElem_toArray, List.getElem_cons_zero, List.getElem_cons_succ]
  refine s_take (i := 19) (v := ?_) rfl (by kernel_rfl) (by kernel_rfl) (by kernel_rfl) (k0 := 19) (by kernel_rfl) (by kernel_rfl) (.inl rfl) (fun _ _ _ h => h) (by rfl) HC.out ?_ ?_
  rotate_left
  · intro W hW
    go_simp
    first | done | rfl
  simp only [Act.put, List.setIfInBounds_toArray, List.set_cons_zero, List.set_cons_succ, List.getElem_toArray, List.getElem_cons_zero, List.getElem_cons_succ]
  refine s_take (i := 20) (v := ?_) rfl (by kernel_rfl) (by kernel_rfl) (by kernel_rfl) (k0 := 20) (by kernel_rfl) (by kernel_rfl) (.inl rfl) (fun _ _ _ h => h) (by rfl) HC.out ?_ ?_
  rotate_left
  · intro W hW
    go_simp
    first | done | rfl
  simp only [Act.put, List.setIfInBounds_toArray, List.set_cons_zero, List.set_cons_succ, List.getElem_toArray, List.getElem_cons_zero, List.getElem_cons_succ]
  refine s_take (i := 21) (v := ?_) rfl (by kernel_rfl) (by kernel_rfl) (by kernel_rfl) (k0 := 21) (by kernel_rfl) (by kernel_rfl) (.inl rfl) (fun _ _ _ h => h) (by rfl) HC.out ?_ ?_
  rotate_left
  · intro W hW
    obtain ⟨m0, m1, m2, m3, m4, m5, m6, m7⟩ := HK.out _ hW
    go_simp
    first | done | rfl
  simp only [Act.put, List.setIfInBounds_toArray, List.set_cons_zero, List.set_cons_succ, List.getElem_toArray, List.getElem_cons_zero, List.getElem_cons_succ]
  refine s_take (i := 22) (v := ?_) rfl (by kernel_rfl) (by kernel_rfl) (by kernel_rfl) (k0 := 22) (by kernel_rfl) (by kernel_rfl) (.inl rfl) (fun _ _ _ h => h) (by rfl) HC.out ?_ ?_
  rotate_left
  · intro W hW
    go_simp
    first | done | rfl
  simp only [Act.put, List.setIfInBounds_toArray, List.set_cons_zero, List.set_cons_succ, List.getElem_toArray, List.getElem_cons_zero, List.getElem_cons_succ]
  refine s_take (i := 23) (v := ?_) rfl (by kernel_rfl) (by kernel_rfl) (by kernel_rfl) (k0 := 23) (by kernel_rfl) (by kernel_rfl) (.inl rfl) (fun _ _ _ h => h) (by rfl) HC.out ?_ ?_
  rotate_left
  · intro W hW
    go_simp
    first | done | rfl
  simp only [Act.put, List.setIfInBounds_toArray, List.set_cons_zero, List.set_cons_succ, List.getElem_toArray, List.getElem_cons_zero, List.getElem_cons_succ]
  refine s_one (i := 24) (by kernel_rfl) ?_
  refine ones_run (i := 24) (v := ?_) (w' := ?_) rfl (by rfl) ?_ ?_ ?_
  rotate_left 2
  · go_simp
    first | done | (constructor <;> rfl)
  · exact fun _ => HC.out.trans (Below.kept ((Below.refl _ _).alloc (Nat.le_refl _) _))
  simp only [Act.put, List.setIfInBounds_toArray, List.set_cons_zero, List.set_cons_succ, List.getElem_toArray, List.getElem_cons_zero, List.getElem_cons_succ]
  have HN := Lib.hid (Sl.new1 (z1) 57 (α := E) (n1, n2, n3, n4, n5, n6, n7) #[.int .i64 n1, .int .i64 n2, .int .i64 n3, .int .i64 n4, .int .i64 n5, .int .i64 n6, .int .i64 n7] hwf rfl)
  replace HO := Lib.hid (HO.out.alloc (.cells #[.int .i64 n1, .int .i64 n2, .int .i64 n3, .int .i64 n4, .int .i64 n5, .int .i64 n6, .int .i64 n7] 57))
  replace HC := Lib.hid (HC.out.trans (Below.kept ((Below.refl _ _).alloc (Nat.le_refl _) (.cells #[.int .i64 n1, .int .i64 n2, .int .i64 n3, .int .i64 n4, .int .i64 n5, .int .i64 n6, .int .i64 n7] 57))))
  generalize hgN : z1.heap.size = gN at *
  have HGN := Lib.hid hgN
  clear hgN
  generalize (z1).alloc (.cells #[.int .i64 n1, .int .i64 n2, .int .i64 n3, .int .i64 n4, .int .i64 n5, .int .i64 n6, .int .i64 n7] 57) = z2 at *
  refine s_one (i := 25) (by kernel_rfl) ?_
  have hb0 : w2.heap.size ≤ z2.heap.size := by have := HC.out.size; have := HGN.out; have := HZD.out; omega
  refine ones_append_sl (i := 25) rfl (by rfl) _ _ rfl rowE w2.heap.size (.slice A4 n c4) l rfl HO.out (gN + 1) _ [(n1, n2, n3, n4, n5, n6, n7)] rfl HN.out (by rw [HLN.out]; simp; unfold maxLen; omega) (by rw [HLN.out]; simp; omega) hb0 (fun W hg => HC.out.trans (by have := grown_kept hg; rw [own_lbk] at this; exact this)) ?_
  intro v4 z3 hown4 hgr4 hat4
  rw [own_lbk] at hgr4
  replace HC := Lib.hid (HC.out.trans (grown_kept hgr4))
  have HO4 := Lib.hid hown4
  clear hown4 hgr4 hat4 HN HO
  obtain ⟨A5, c5, rfl, -, -⟩ := HO4.out.sl.form
  rw [HL0.out] at HO4 ⊢
  simp only [Act.put, List.setIfInBounds_toArray, List.set_cons_zero, List.set_cons_succ, List.getElem_toArray, List.getElem_cons_zero, List.getElem_cons_succ]
  refine s_take (i := 26) (v := ?_) rfl (by kernel_rfl) (by kernel_rfl) (by kernel_rfl) (k0 := 26) (by kernel_rfl) (by kernel_rfl) (.inl rfl) (fun _ _ _ h => h) (by rfl) HC.out ?_ ?_
  rotate_left
  · intro W hW
    go_simp
    first | done | rfl
  simp only [Act.put, List.setIfInBounds_toArray, List.set_cons_zero, List.set_cons_succ, List.getElem_toArray, List.getElem_cons_zero, List.getElem_cons_succ]
  refine s_done (by kernel_rfl) ?_
  have hbw : Below w2.heap.size w2 z3 := HD3.out.trans (HC.out.below (B := w2.heap.size) (fun b hb => HAL.out b hb) (by have := HZD.out; have := HGN.out; omega))
  replace HS := Lib.hid (HS.out.below hbw HS.out.lt)
  replace HF := Lib.hid (HF.out.below hbw HF.out.lt)
  replace HR := Lib.hid (HR.out.below hbw HR.out.lt)
  replace HX := Lib.hid (HX.out.below hbw HX.out.lt)
  replace HB := Lib.hid (HB.out.trans (hbw.mono HB.out.size))
  have HM := Lib.hid (HN8.out _ hbw)
  clear hbw HC HK HD3
  generalize hw5 : z3 = w5 at *
  clear hw5
  go_simp
  go_wp2_with fail
  with_reducible refine (HMY.out _ _ HO4.out.sl).mono ?_
  rintro e w6 ⟨rfl, hb⟩
  replace HS := Lib.hid (HS.out.below hb HS.out.lt)
  replace HF := Lib.hid (HF.out.below hb HF.out.lt)
  replace HR := Lib.hid (HR.out.below hb HR.out.lt)
  replace HX := Lib.hid (HX.out.below hb HX.out.lt)
  replace HB := Lib.hid (HB.out.trans (hb.mono HB.out.size))
  have hm0 := (hb.cell (p := ⟨b1, o1, none⟩) HM.out.2).trans HM.out.1.1
  replace HO4 := Lib.hid ((HO4.out.below hb).down (base' := w.heap.size + 3) (by omega))
  clear hb HM
  obtain ⟨k0, k1, k2⟩ := HS.out.c3
  obtain ⟨j0, j1, j2⟩ := HR.out.c3
  obtain ⟨f0, f1, f2⟩ := HR.out.f3
  obtain ⟨q0, q1⟩ := HF.out.c2
  obtain ⟨x0, x1⟩ := HX.out.c2
  have d0 : (0 : Int) < 8 := by omega
  rcases q with _ | _
  · obtain rfl : P = none := by have := HP.out; simpa using this.symm
    have HRES := Lib.hid (HR.out.set3 (.int .i64 t) (.int .i64 vo) (.slice A n c))
    have HBS := Lib.hid (below_set3 HB.out (g := w.heap.size + 2) (by omega) (.int .i64 t) (.int .i64 vo) (.slice A n c))
    go_wp2_with fail
    refine bodyPost_ret (results_rstate2 rfl rfl HRES.out) rfl ?_
    exact ⟨_, rfl, (HSL.out _ HBS.out).wide (fun b hb _ => .inl hb.1), HBS.out⟩
  · by_cases hat : n0 = (n : Int) + 1
    · obtain rfl : P = some ((t, vo), l ++ [(n1, n2, n3, n4, n5, n6, n7)]) := by have := HP.out; simpa [hat] using this.symm
      subst hat
      have d9 : (((n : Int) + 1) != ((n : Int) + 1)) = false := by simp
      have HRES := Lib.hid (HR.out.set3 (.int .i64 t) (.int .i64 vo) (.slice A5 (n + 1) c5))
      have HBS := Lib.hid (below_set3 HB.out (g := w.heap.size + 2) (by omega) (.int .i64 t) (.int .i64 vo) (.slice A5 (n + 1) c5))
      have HOS := Lib.hid (((HO4.out.set (p := ⟨w.heap.size + 2, 0, none⟩) (by simp) (.int .i64 t)).set (p := ⟨w.heap.size + 2, 1, none⟩) (by simp) (.int .i64 vo)).set (p := ⟨w.heap.size + 2, 2, none⟩) (by simp) (.slice A5 (n + 1) c5))
      go_wp2_with fail
      refine bodyPost_ret (results_rstate2 rfl rfl HRES.out) rfl ?_
      refine ⟨.slice A5 (n + 1) c5, rfl, ?_, HBS.out⟩
      exact HOS.out.slS.wide (fun b hb _ => .inr (by omega))
    · obtain rfl : P = none := by have := HP.out; simpa [hat] using this.symm
      have d9 : (n0 != ((n : Int) + 1)) = true := by simpa using hat
      have HRES := Lib.hid (HR.out.set3 (.int .i64 t) (.int .i64 vo) (.slice A n c))
      have HBS := Lib.hid (below_set3 HB.out (g := w.heap.size + 2) (by omega) (.int .i64 t) (.int .i64 vo) (.slice A n c))
      go_wp2_with fail
      refine bodyPost_ret (results_rstate2 rfl rfl HRES.out) rfl ?_
      exact ⟨_, rfl, (HSL.out _ HBS.out).wide (fun b hb _ => .inl hb.1), HBS.out⟩
theorem step_short {s : Vl.S} {k : Int} : Vl.step s k [] = none := by
  unfold Vl.step
  split
  · exact setB_no (by simp)
  · split
    · exact addE_no (by simp)
    · split
      · exact cutE_no (by simp)
      · rfl
theorem rstep_any (S : Nat → Prop) (s : Vl.S) (hl64 : s.2.length ≤ 64) (vl : Value) (k : Int) (sB : Value) (b : List UInt8) (hbl : b.length ≤ 4096) (w : World) (hL : SlS w S vl s.2) (hb : Sl w w.heap.size sB b) :
    Calls Tryd.prog 35 #[.agg (stc s.1.1 s.1.2 vl), .agg #[.int .i64 k, sB]] w (RStepOut w S ((Vl.step s k (Vl.nums b)).getD s) (Vl.step s k (Vl.nums b)).isSome) := by
  obtain ⟨⟨t, vo⟩, l⟩ := s
  cases hu : Fm.unpack b with
  | err er =>
    rw [nums_err hu, step_short]
    exact rstep_err S t vo l hl64 vl k sB b hbl w hL hb er hu
  | ok f r =>
    obtain ⟨N, D⟩ := f
    rw [nums_ok hu]
    by_cases hD : D = []
    · subst hD
      rw [if_pos rfl]
      have hmay := (unpack_nums hu).2.2
      have hno : ∀ h, Vl.step ((t, vo), l) k N = none → Calls _ _ _ w (RStepOut w S ((Vl.step ((t, vo), l) k N).getD ((t, vo), l)) (Vl.step ((t, vo), l) k N).isSome) := fun h e => by
        rw [e]
        exact rstep_no S t vo l hl64 vl k sB b hbl w hL hb N r hu h
      by_cases e1 : k = 1
      · by_cases h2 : N.length = 2
        · obtain ⟨x, y, rfl⟩ := list_two h2
          have e : Vl.step ((t, vo), l) k [x, y] = Vl.setB ((t, vo), l) [x, y] := by unfold Vl.step; rw [if_pos e1]
          rw [e]
          exact rstep_bal S t vo l hl64 vl k sB b hbl w hL hb x y r hu e1
        · exact hno (.inl ⟨e1, h2⟩) (by unfold Vl.step; rw [if_pos e1]; exact setB_no h2)
      · by_cases e2 : k = 2
        · have e : ∀ N, Vl.step ((t, vo), l) k N = Vl.addE ((t, vo), l) N := fun N => by unfold Vl.step; rw [if_neg e1, if_pos e2]
          by_cases h8 : N.length = 8
          · obtain ⟨n0, n1, n2, n3, n4, n5, n6, n7, rfl⟩ := list_eight h8
            rw [e]
            exact rstep_ent S t vo l hl64 vl k sB b hbl w hL hb n0 n1 n2 n3 n4 n5 n6 n7 r hu e2 hmay
          · exact hno (.inr (.inl ⟨e2, h8⟩)) ((e N).trans (addE_no h8))
        · by_cases e3 : k = 3
          · have e : ∀ N, Vl.step ((t, vo), l) k N = Vl.cutE ((t, vo), l) N := fun N => by unfold Vl.step; rw [if_neg e1, if_neg e2, if_pos e3]
            by_cases h1 : N.length = 1
            · obtain ⟨x, rfl⟩ := list_one h1
              obtain ⟨kn, rfl⟩ := Int.eq_ofNat_of_zero_le (hmay x (by simp)).1
              rw [e, cutE_one]
              by_cases hk : kn ≤ l.length
              · rw [if_pos hk]
                exact rstep_cut S t vo l hl64 vl k sB b hbl w hL hb kn r hu e3 hk
              · rw [if_neg hk]
                exact rstep_over S t vo l hl64 vl k sB b hbl w hL hb kn r hu e3 hk
            · exact hno (.inr (.inr (.inl ⟨e3, h1⟩))) ((e N).trans (cutE_no h1))
          · exact hno (.inr (.inr (.inr ⟨e1, e2, e3⟩))) (by unfold Vl.step; rw [if_neg e1, if_neg e2, if_neg e3])
    · rw [if_neg hD, step_short]
      exact rstep_data S t vo l hl64 vl k sB b hbl w hL hb N D r hu hD
end Go.Proofs.YtcacebkbfnnjbaaDoor
