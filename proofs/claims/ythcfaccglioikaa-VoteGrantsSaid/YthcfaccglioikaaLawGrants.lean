/-
  VoteGrants: a vote is given, and a ballot is, as the reference says.
-/
import Derived.Test.YthcfaccglioikaaAwk
import Derived.Test.YthcfaccglioikaaRgrant
import Derived.Test.YthcfaccglioikaaFew
import Derived.Test.YthcfaccglioikaaOrd
namespace Go.Proofs.Ythcfaccglioikaa
open Go.RowKit

set_option maxRecDepth 100000 in
set_option maxHeartbeats 1600000 in
theorem grants_law (w : World) (T V b t : Int) (v : Value) (l : List E) (hv : Sl w w.heap.size v l) (k f o m i u c : Int) (y : Bool) (A2 : Option Addr) (n2 c2 : Nat) :
    Calls Try.prog 3 #[bv T V, lv b t v, .agg (mc k f o m i u c y (.slice A2 n2 c2))] w fun e w' => e = .returned (.bool true) ∧ Below w.heap.size w w' := by
  obtain ⟨A, d, rfl, hc, hm⟩ := hv.form
  have hb0 : Below w.heap.size w (((w.alloc (.cells #[.int .i64 T, .int .i64 V] 23)).alloc (.cells #[.int .i64 b, .int .i64 t, .slice A l.length d] 26)).alloc (.cells (mc k f o m i u c y (.slice A2 n2 c2)) 28)) :=
    (((Below.refl _ _).alloc (Nat.le_refl _) _).alloc (by simp) _).alloc (by simp only [World.size_alloc]; omega) _
  have HB := Lib.hid hb0
  have HW1 := Lib.hid (((Whole.new w 23 #[.int .i64 T, .int .i64 V]).alloc (.cells #[.int .i64 b, .int .i64 t, .slice A l.length d] 26)).alloc (.cells (mc k f o m i u c y (.slice A2 n2 c2)) 28))
  have HW2 := Lib.hid ((Whole.new1 w (.cells #[.int .i64 T, .int .i64 V] 23) 26 #[.int .i64 b, .int .i64 t, .slice A l.length d]).alloc (.cells (mc k f o m i u c y (.slice A2 n2 c2)) 28))
  have HW3 := Lib.hid (Whole.new1 (w.alloc (.cells #[.int .i64 T, .int .i64 V] 23)) (.cells #[.int .i64 b, .int .i64 t, .slice A l.length d] 26) 28 (mc k f o m i u c y (.slice A2 n2 c2)))
  simp only [World.size_alloc] at HW3
  have HK := Lib.hid (fun W => awake_any W)
  have HF := Lib.hid (fun W => few_any b t A l.length d W)
  have HGA := Lib.hid (fun W (h : Below w.heap.size w W) => grant_any T V b t _ l k f o m i u c y A2 n2 c2 W w.heap.size h.size (hv.below h))
  have HGR := Lib.hid (fun W (h : Below w.heap.size w W) => rgrant_any T V b t _ l k f o m i u c y A2 n2 c2 W w.heap.size h.size (hv.below h))
  have HSA := Lib.hid (fun W => see_any T V m W)
  have HSR := Lib.hid (fun W => rsee_any T V m W)
  have HMA := Lib.hid (fun W => bmay_any T V W)
  have HMR := Lib.hid (fun W => rbmay_any T V W)
  clear hv hb0
  generalize Vt.grant (T, V) (Lg.last (b, t, l)) f m i u = r at *
  obtain ⟨⟨x1, x2⟩, x3⟩ := r
  generalize Vt.see (T, V) m = s at *
  obtain ⟨s1, s2⟩ := s
  generalize Vt.may (T, V) = my at *
  generalize l.length = n at *
  simp only at HSA HSR
  go_enter Try.func3, Try.ntmps3
  go_wp2_with fail
  with_reducible refine (HK.out _).mono ?_
  rintro e w1 ⟨rfl, hb⟩
  replace HB := Lib.hid (HB.out.trans (hb.mono HB.out.size))
  replace HW1 := Lib.hid (HW1.out.below hb HW1.out.lt)
  replace HW2 := Lib.hid (HW2.out.below hb HW2.out.lt)
  replace HW3 := Lib.hid (HW3.out.below hb HW3.out.lt)
  clear hb HK
  obtain ⟨k0, k1, k2⟩ := HW2.out.c3
  go_wp2_with fail
  with_reducible refine (HF.out _).mono ?_
  rintro e w2 ⟨rfl, hb⟩
  replace HB := Lib.hid (HB.out.trans (hb.mono HB.out.size))
  replace HW1 := Lib.hid (HW1.out.below hb HW1.out.lt)
  replace HW2 := Lib.hid (HW2.out.below hb HW2.out.lt)
  replace HW3 := Lib.hid (HW3.out.below hb HW3.out.lt)
  clear hb HF k0 k1 k2
  by_cases c1 : n ≤ 100
  rotate_left
  · have d1 : decide (n ≤ 100) = false := by simpa using c1
    rw [d1]
    go_wp2_with fail
    go_ret
    exact ⟨rfl, HB.out⟩
  have d1 : decide (n ≤ 100) = true := by simpa using c1
  rw [d1]
  clear d1
  obtain ⟨p0, p1⟩ := HW1.out.c2
  obtain ⟨k0, k1, k2⟩ := HW2.out.c3
  obtain ⟨q0, q1, q2, q3, q4, q5, q6, q7, q8⟩ := HW3.out.c9
  go_wp2_with fail
  with_reducible refine (HGA.out _ HB.out).mono ?_
  rintro e w3 ⟨rfl, hb⟩
  replace HB := Lib.hid (HB.out.trans (hb.mono HB.out.size))
  replace HW1 := Lib.hid (HW1.out.below hb HW1.out.lt)
  replace HW2 := Lib.hid (HW2.out.below hb HW2.out.lt)
  replace HW3 := Lib.hid (HW3.out.below hb HW3.out.lt)
  clear hb HGA
  clear p0 p1 k0 k1 k2 q0 q1 q2 q3 q4 q5 q6 q7 q8
  have HX := Lib.hid (Whole.new w3 23 #[.int .i64 x1, .int .i64 x2])
  replace HB := Lib.hid (HB.out.alloc HB.out.size (.cells #[.int .i64 x1, .int .i64 x2] 23))
  replace HW1 := Lib.hid (HW1.out.alloc (.cells #[.int .i64 x1, .int .i64 x2] 23))
  replace HW2 := Lib.hid (HW2.out.alloc (.cells #[.int .i64 x1, .int .i64 x2] 23))
  replace HW3 := Lib.hid (HW3.out.alloc (.cells #[.int .i64 x1, .int .i64 x2] 23))
  obtain ⟨p0, p1⟩ := HW1.out.c2
  obtain ⟨k0, k1, k2⟩ := HW2.out.c3
  obtain ⟨q0, q1, q2, q3, q4, q5, q6, q7, q8⟩ := HW3.out.c9
  simp only
  go_wp2_with fail
  with_reducible refine (HGR.out _ HB.out).mono ?_
  rintro e w4 ⟨rfl, hb⟩
  replace HB := Lib.hid (HB.out.trans (hb.mono HB.out.size))
  replace HW1 := Lib.hid (HW1.out.below hb HW1.out.lt)
  replace HW2 := Lib.hid (HW2.out.below hb HW2.out.lt)
  replace HW3 := Lib.hid (HW3.out.below hb HW3.out.lt)
  replace HX := Lib.hid (HX.out.below hb HX.out.lt)
  clear hb HGR
  clear p0 p1 k0 k1 k2 q0 q1 q2 q3 q4 q5 q6 q7 q8
  have HY := Lib.hid (Whole.new w4 23 #[.int .i64 x1, .int .i64 x2])
  replace HB := Lib.hid (HB.out.alloc HB.out.size (.cells #[.int .i64 x1, .int .i64 x2] 23))
  replace HW1 := Lib.hid (HW1.out.alloc (.cells #[.int .i64 x1, .int .i64 x2] 23))
  replace HW2 := Lib.hid (HW2.out.alloc (.cells #[.int .i64 x1, .int .i64 x2] 23))
  replace HW3 := Lib.hid (HW3.out.alloc (.cells #[.int .i64 x1, .int .i64 x2] 23))
  replace HX := Lib.hid (HX.out.alloc (.cells #[.int .i64 x1, .int .i64 x2] 23))
  simp only
  have e1 : (x1 == x1) = true := by simp
  have e2 : (x2 == x2) = true := by simp
  have e3 : (x3 == x3) = true := by simp
  have e4 : (s1 == s1) = true := by simp
  have e5 : (s2 == s2) = true := by simp
  have e6 : (my == my) = true := by simp
  go_wp2_with fail
  have hltX := HX.out.lt
  have hltY := HY.out.lt
  have hlt1 := HW1.out.lt
  have hlt2 := HW2.out.lt
  have hlt3 := HW3.out.lt
  refine b_start (w4.alloc (.cells #[.int .i64 x1, .int .i64 x2] 23)).heap.size (by kernel_rfl) ?_
  have hBz : (w4.alloc (.cells #[.int .i64 x1, .int .i64 x2] 23)).heap.size ≤ (w4.alloc (.cells #[.int .i64 x1, .int .i64 x2] 23)).drew.heap.size := Nat.le_refl _
  replace HW1 := Lib.hid (show Whole (w4.alloc (.cells #[.int .i64 x1, .int .i64 x2] 23)).drew _ _ _ from HW1.out)
  replace HW2 := Lib.hid (show Whole (w4.alloc (.cells #[.int .i64 x1, .int .i64 x2] 23)).drew _ _ _ from HW2.out)
  replace HW3 := Lib.hid (show Whole (w4.alloc (.cells #[.int .i64 x1, .int .i64 x2] 23)).drew _ _ _ from HW3.out)
  replace HX := Lib.hid (show Whole (w4.alloc (.cells #[.int .i64 x1, .int .i64 x2] 23)).drew _ _ _ from HX.out)
  replace HY := Lib.hid (show Whole (w4.alloc (.cells #[.int .i64 x1, .int .i64 x2] 23)).drew _ _ _ from HY.out)
  replace HB := Lib.hid (show Below w.heap.size w (w4.alloc (.cells #[.int .i64 x1, .int .i64 x2] 23)).drew from HB.out.drew)
  generalize (w4.alloc (.cells #[.int .i64 x1, .int .i64 x2] 23)).drew = w5 at *
  refine b_take (i := 0) (v := ?_) rfl (by kernel_rfl) (by kernel_rfl) (by kernel_rfl) (fun _ _ _ h => h) (by rfl) ?_ ?_
  rotate_left
  · intro W hW
    obtain ⟨p0, p1⟩ := (HW1.out.below hW hlt1).c2
    obtain ⟨q0, q1, q2, q3, q4, q5, q6, q7, q8⟩ := (HW3.out.below hW hlt3).c9
    obtain ⟨r0, r1⟩ := (HX.out.below hW hltX).c2
    obtain ⟨s0, s1⟩ := (HY.out.below hW hltY).c2
    go_simp
    first | done | rfl
  simp only [Act.put, List.setIfInBounds_toArray, List.set_cons_zero, List.set_cons_succ, List.getElem_toArray, List.getElem_cons_zero, List.getElem_cons_succ]
  refine b_take (i := 1) (v := ?_) rfl (by kernel_rfl) (by kernel_rfl) (by kernel_rfl) (fun _ _ _ h => h) (by rfl) ?_ ?_
  rotate_left
  · intro W hW
    obtain ⟨p0, p1⟩ := (HW1.out.below hW hlt1).c2
    obtain ⟨q0, q1, q2, q3, q4, q5, q6, q7, q8⟩ := (HW3.out.below hW hlt3).c9
    obtain ⟨r0, r1⟩ := (HX.out.below hW hltX).c2
    obtain ⟨s0, s1⟩ := (HY.out.below hW hltY).c2
    go_simp
    first | done | rfl
  simp only [Act.put, List.setIfInBounds_toArray, List.set_cons_zero, List.set_cons_succ, List.getElem_toArray, List.getElem_cons_zero, List.getElem_cons_succ]
  refine b_take (i := 2) (v := ?_) rfl (by kernel_rfl) (by kernel_rfl) (by kernel_rfl) (fun _ _ _ h => h) (by rfl) ?_ ?_
  rotate_left
  · intro W hW
    go_simp
    first | done | rfl
  simp only [Act.put, List.setIfInBounds_toArray, List.set_cons_zero, List.set_cons_succ, List.getElem_toArray, List.getElem_cons_zero, List.getElem_cons_succ]
  refine b_take (i := 3) (v := ?_) rfl (by kernel_rfl) (by kernel_rfl) (by kernel_rfl) (fun _ _ _ h => h) (by rfl) ?_ ?_
  rotate_left
  · intro W hW
    go_simp
    first | done | rfl
  simp only [Act.put, List.setIfInBounds_toArray, List.set_cons_zero, List.set_cons_succ, List.getElem_toArray, List.getElem_cons_zero, List.getElem_cons_succ]
  refine b_take (i := 4) (v := ?_) rfl (by kernel_rfl) (by kernel_rfl) (by kernel_rfl) (fun _ _ _ h => h) (by rfl) ?_ ?_
  rotate_left
  · intro W hW
    go_simp
    first | done | rfl
  simp only [Act.put, List.setIfInBounds_toArray, List.set_cons_zero, List.set_cons_succ, List.getElem_toArray, List.getElem_cons_zero, List.getElem_cons_succ]
  refine b_take (i := 5) (v := ?_) rfl (by kernel_rfl) (by kernel_rfl) (by kernel_rfl) (fun _ _ _ h => h) (by rfl) ?_ ?_
  rotate_left
  · intro W hW
    go_simp
    first | done | rfl
  simp only [Act.put, List.setIfInBounds_toArray, List.set_cons_zero, List.set_cons_succ, List.getElem_toArray, List.getElem_cons_zero, List.getElem_cons_succ]
  refine b_take (i := 6) (v := ?_) rfl (by kernel_rfl) (by kernel_rfl) (by kernel_rfl) (fun _ _ _ h => h) (by rfl) ?_ ?_
  rotate_left
  · intro W hW
    go_simp
    first | done | rfl
  simp only [Act.put, List.setIfInBounds_toArray, List.set_cons_zero, List.set_cons_succ, List.getElem_toArray, List.getElem_cons_zero, List.getElem_cons_succ]
  refine b_take (i := 7) (v := ?_) rfl (by kernel_rfl) (by kernel_rfl) (by kernel_rfl) (fun _ _ _ h => h) (by rfl) ?_ ?_
  rotate_left
  · intro W hW
    go_simp
    first | done | rfl
  simp only [Act.put, List.setIfInBounds_toArray, List.set_cons_zero, List.set_cons_succ, List.getElem_toArray, List.getElem_cons_zero, List.getElem_cons_succ]
  refine b_take (i := 8) (v := ?_) rfl (by kernel_rfl) (by kernel_rfl) (by kernel_rfl) (fun _ _ _ h => h) (by rfl) ?_ ?_
  rotate_left
  · intro W hW
    go_simp
    first | done | rfl
  simp only [Act.put, List.setIfInBounds_toArray, List.set_cons_zero, List.set_cons_succ, List.getElem_toArray, List.getElem_cons_zero, List.getElem_cons_succ]
  refine b_take (i := 9) (v := ?_) rfl (by kernel_rfl) (by kernel_rfl) (by kernel_rfl) (fun _ _ _ h => h) (by rfl) ?_ ?_
  rotate_left
  · intro W hW
    obtain ⟨p0, p1⟩ := (HW1.out.below hW hlt1).c2
    obtain ⟨q0, q1, q2, q3, q4, q5, q6, q7, q8⟩ := (HW3.out.below hW hlt3).c9
    obtain ⟨r0, r1⟩ := (HX.out.below hW hltX).c2
    obtain ⟨s0, s1⟩ := (HY.out.below hW hltY).c2
    go_simp
    first | done | rfl
  simp only [Act.put, List.setIfInBounds_toArray, List.set_cons_zero, List.set_cons_succ, List.getElem_toArray, List.getElem_cons_zero, List.getElem_cons_succ]
  refine b_take (i := 10) (v := ?_) rfl (by kernel_rfl) (by kernel_rfl) (by kernel_rfl) (fun _ _ _ h => h) (by rfl) ?_ ?_
  rotate_left
  · intro W hW
    go_simp
    first | done | rfl
  simp only [Act.put, List.setIfInBounds_toArray, List.set_cons_zero, List.set_cons_succ, List.getElem_toArray, List.getElem_cons_zero, List.getElem_cons_succ]
  refine b_take (i := 11) (v := ?_) rfl (by kernel_rfl) (by kernel_rfl) (by kernel_rfl) (fun _ _ _ h => h) (by rfl) ?_ ?_
  rotate_left
  · intro W hW
    obtain ⟨p0, p1⟩ := (HW1.out.below hW hlt1).c2
    obtain ⟨q0, q1, q2, q3, q4, q5, q6, q7, q8⟩ := (HW3.out.below hW hlt3).c9
    obtain ⟨r0, r1⟩ := (HX.out.below hW hltX).c2
    obtain ⟨s0, s1⟩ := (HY.out.below hW hltY).c2
    go_simp
    first | done | rfl
  simp only [Act.put, List.setIfInBounds_toArray, List.set_cons_zero, List.set_cons_succ, List.getElem_toArray, List.getElem_cons_zero, List.getElem_cons_succ]
  refine b_take (i := 13) (v := ?_) rfl (by kernel_rfl) (by kernel_rfl) (by kernel_rfl) (fun _ _ _ h => h) (by rfl) ?_ ?_
  rotate_left
  · intro W hW
    obtain ⟨p0, p1⟩ := (HW1.out.below hW hlt1).c2
    obtain ⟨q0, q1, q2, q3, q4, q5, q6, q7, q8⟩ := (HW3.out.below hW hlt3).c9
    obtain ⟨r0, r1⟩ := (HX.out.below hW hltX).c2
    obtain ⟨s0, s1⟩ := (HY.out.below hW hltY).c2
    go_simp
    first | done | rfl
  simp only [Act.put, List.setIfInBounds_toArray, List.set_cons_zero, List.set_cons_succ, List.getElem_toArray, List.getElem_cons_zero, List.getElem_cons_succ]
  refine b_take (i := 14) (v := ?_) rfl (by kernel_rfl) (by kernel_rfl) (by kernel_rfl) (fun _ _ _ h => h) (by rfl) ?_ ?_
  rotate_left
  · intro W hW
    go_simp
    first | done | rfl
  simp only [Act.put, List.setIfInBounds_toArray, List.set_cons_zero, List.set_cons_succ, List.getElem_toArray, List.getElem_cons_zero, List.getElem_cons_succ]
  refine b_take (i := 15) (v := ?_) rfl (by kernel_rfl) (by kernel_rfl) (by kernel_rfl) (fun _ _ _ h => h) (by rfl) ?_ ?_
  rotate_left
  · intro W hW
    obtain ⟨p0, p1⟩ := (HW1.out.below hW hlt1).c2
    obtain ⟨q0, q1, q2, q3, q4, q5, q6, q7, q8⟩ := (HW3.out.below hW hlt3).c9
    obtain ⟨r0, r1⟩ := (HX.out.below hW hltX).c2
    obtain ⟨s0, s1⟩ := (HY.out.below hW hltY).c2
    go_simp
    first | done | rfl
  simp only [Act.put, List.setIfInBounds_toArray, List.set_cons_zero, List.set_cons_succ, List.getElem_toArray, List.getElem_cons_zero, List.getElem_cons_succ]
  refine b_one (i := 12) (by kernel_rfl) ?_
  refine one_call (i := 12) (f := 13) (args := ?_) rfl (by rfl) ?_ ?_
  rotate_left
  · go_simp
    first | done | rfl
  with_reducible refine (HSA.out _).mono ?_
  rintro e w6 ⟨rfl, hb⟩
  refine ⟨_, rfl, hb.mono hBz, ?_⟩
  replace hBz := Nat.le_trans hBz hb.size
  replace HB := Lib.hid (HB.out.trans (hb.mono HB.out.size))
  replace HW1 := Lib.hid (HW1.out.below hb HW1.out.lt)
  replace HW2 := Lib.hid (HW2.out.below hb HW2.out.lt)
  replace HW3 := Lib.hid (HW3.out.below hb HW3.out.lt)
  replace HX := Lib.hid (HX.out.below hb HX.out.lt)
  replace HY := Lib.hid (HY.out.below hb HY.out.lt)
  clear hb
  simp only [Act.put, List.setIfInBounds_toArray, List.set_cons_zero, List.set_cons_succ, List.getElem_toArray, List.getElem_cons_zero, List.getElem_cons_succ]
  refine b_one (i := 16) (by kernel_rfl) ?_
  refine one_call (i := 16) (f := 14) (args := ?_) rfl (by rfl) ?_ ?_
  rotate_left
  · go_simp
    first | done | rfl
  with_reducible refine (HSR.out _).mono ?_
  rintro e w7 ⟨rfl, hb⟩
  refine ⟨_, rfl, hb.mono hBz, ?_⟩
  replace hBz := Nat.le_trans hBz hb.size
  replace HB := Lib.hid (HB.out.trans (hb.mono HB.out.size))
  replace HW1 := Lib.hid (HW1.out.below hb HW1.out.lt)
  replace HW2 := Lib.hid (HW2.out.below hb HW2.out.lt)
  replace HW3 := Lib.hid (HW3.out.below hb HW3.out.lt)
  replace HX := Lib.hid (HX.out.below hb HX.out.lt)
  replace HY := Lib.hid (HY.out.below hb HY.out.lt)
  clear hb
  simp only [Act.put, List.setIfInBounds_toArray, List.set_cons_zero, List.set_cons_succ, List.getElem_toArray, List.getElem_cons_zero, List.getElem_cons_succ]
  refine b_take (i := 17) (v := ?_) rfl (by kernel_rfl) (by kernel_rfl) (by kernel_rfl) (fun _ _ _ h => h) (by rfl) ?_ ?_
  rotate_left
  · intro W hW
    go_simp
    first | done | rfl
  simp only [Act.put, List.setIfInBounds_toArray, List.set_cons_zero, List.set_cons_succ, List.getElem_toArray, List.getElem_cons_zero, List.getElem_cons_succ]
  refine b_take (i := 18) (v := ?_) rfl (by kernel_rfl) (by kernel_rfl) (by kernel_rfl) (fun _ _ _ h => h) (by rfl) ?_ ?_
  rotate_left
  · intro W hW
    go_simp
    first | done | rfl
  simp only [Act.put, List.setIfInBounds_toArray, List.set_cons_zero, List.set_cons_succ, List.getElem_toArray, List.getElem_cons_zero, List.getElem_cons_succ]
  refine b_take (i := 19) (v := ?_) rfl (by kernel_rfl) (by kernel_rfl) (by kernel_rfl) (fun _ _ _ h => h) (by rfl) ?_ ?_
  rotate_left
  · intro W hW
    go_simp
    first | done | rfl
  simp only [Act.put, List.setIfInBounds_toArray, List.set_cons_zero, List.set_cons_succ, List.getElem_toArray, List.getElem_cons_zero, List.getElem_cons_succ]
  refine b_take (i := 20) (v := ?_) rfl (by kernel_rfl) (by kernel_rfl) (by kernel_rfl) (fun _ _ _ h => h) (by rfl) ?_ ?_
  rotate_left
  · intro W hW
    obtain ⟨p0, p1⟩ := (HW1.out.below hW hlt1).c2
    obtain ⟨q0, q1, q2, q3, q4, q5, q6, q7, q8⟩ := (HW3.out.below hW hlt3).c9
    obtain ⟨r0, r1⟩ := (HX.out.below hW hltX).c2
    obtain ⟨s0, s1⟩ := (HY.out.below hW hltY).c2
    go_simp
    first | done | rfl
  simp only [Act.put, List.setIfInBounds_toArray, List.set_cons_zero, List.set_cons_succ, List.getElem_toArray, List.getElem_cons_zero, List.getElem_cons_succ]
  refine b_take (i := 22) (v := ?_) rfl (by kernel_rfl) (by kernel_rfl) (by kernel_rfl) (fun _ _ _ h => h) (by rfl) ?_ ?_
  rotate_left
  · intro W hW
    obtain ⟨p0, p1⟩ := (HW1.out.below hW hlt1).c2
    obtain ⟨q0, q1, q2, q3, q4, q5, q6, q7, q8⟩ := (HW3.out.below hW hlt3).c9
    obtain ⟨r0, r1⟩ := (HX.out.below hW hltX).c2
    obtain ⟨s0, s1⟩ := (HY.out.below hW hltY).c2
    go_simp
    first | done | rfl
  simp only [Act.put, List.setIfInBounds_toArray, List.set_cons_zero, List.set_cons_succ, List.getElem_toArray, List.getElem_cons_zero, List.getElem_cons_succ]
  refine b_one (i := 21) (by kernel_rfl) ?_
  refine one_call (i := 21) (f := 15) (args := ?_) rfl (by rfl) ?_ ?_
  rotate_left
  · go_simp
    first | done | rfl
  with_reducible refine (HMA.out _).mono ?_
  rintro e w8 ⟨rfl, hb⟩
  refine ⟨_, rfl, hb.mono hBz, ?_⟩
  replace hBz := Nat.le_trans hBz hb.size
  replace HB := Lib.hid (HB.out.trans (hb.mono HB.out.size))
  replace HW1 := Lib.hid (HW1.out.below hb HW1.out.lt)
  replace HW2 := Lib.hid (HW2.out.below hb HW2.out.lt)
  replace HW3 := Lib.hid (HW3.out.below hb HW3.out.lt)
  replace HX := Lib.hid (HX.out.below hb HX.out.lt)
  replace HY := Lib.hid (HY.out.below hb HY.out.lt)
  clear hb
  simp only [Act.put, List.setIfInBounds_toArray, List.set_cons_zero, List.set_cons_succ, List.getElem_toArray, List.getElem_cons_zero, List.getElem_cons_succ]
  refine b_one (i := 23) (by kernel_rfl) ?_
  refine one_call (i := 23) (f := 16) (args := ?_) rfl (by rfl) ?_ ?_
  rotate_left
  · go_simp
    first | done | rfl
  with_reducible refine (HMR.out _).mono ?_
  rintro e w9 ⟨rfl, hb⟩
  refine ⟨_, rfl, hb.mono hBz, ?_⟩
  replace hBz := Nat.le_trans hBz hb.size
  replace HB := Lib.hid (HB.out.trans (hb.mono HB.out.size))
  replace HW1 := Lib.hid (HW1.out.below hb HW1.out.lt)
  replace HW2 := Lib.hid (HW2.out.below hb HW2.out.lt)
  replace HW3 := Lib.hid (HW3.out.below hb HW3.out.lt)
  replace HX := Lib.hid (HX.out.below hb HX.out.lt)
  replace HY := Lib.hid (HY.out.below hb HY.out.lt)
  clear hb
  simp only [Act.put, List.setIfInBounds_toArray, List.set_cons_zero, List.set_cons_succ, List.getElem_toArray, List.getElem_cons_zero, List.getElem_cons_succ]
  refine b_take (i := 24) (v := ?_) rfl (by kernel_rfl) (by kernel_rfl) (by kernel_rfl) (fun _ _ _ h => h) (by rfl) ?_ ?_
  rotate_left
  · intro W hW
    go_simp
    first | done | rfl
  simp only [Act.put, List.setIfInBounds_toArray, List.set_cons_zero, List.set_cons_succ, List.getElem_toArray, List.getElem_cons_zero, List.getElem_cons_succ]
  refine b_take (i := 25) (v := ?_) rfl (by kernel_rfl) (by kernel_rfl) (by kernel_rfl) (fun _ _ _ h => h) (by rfl) ?_ ?_
  rotate_left
  · intro W hW
    go_simp
    first | done | rfl
  simp only [Act.put, List.setIfInBounds_toArray, List.set_cons_zero, List.set_cons_succ, List.getElem_toArray, List.getElem_cons_zero, List.getElem_cons_succ]
  refine b_take (i := 26) (v := ?_) rfl (by kernel_rfl) (by kernel_rfl) (by kernel_rfl) (fun _ _ _ h => h) (by rfl) ?_ ?_
  rotate_left
  · intro W hW
    go_simp
    first | done | rfl
  simp only [Act.put, List.setIfInBounds_toArray, List.set_cons_zero, List.set_cons_succ, List.getElem_toArray, List.getElem_cons_zero, List.getElem_cons_succ]
  refine b_done (by kernel_rfl) ?_
  go_wp2_with fail
  go_ret
  exact ⟨rfl, HB.out⟩
end Go.Proofs.Ythcfaccglioikaa
