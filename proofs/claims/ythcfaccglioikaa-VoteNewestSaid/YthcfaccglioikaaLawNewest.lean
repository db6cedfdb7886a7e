/-
  VoteNewest: a vote is given to nobody whose log is older.
-/
import Derived.Test.YthcfaccglioikaaAwk
import Derived.Test.YthcfaccglioikaaFew
import Derived.Test.YthcfaccglioikaaOrd
namespace Go.Proofs.Ythcfaccglioikaa
open Go.RowKit

set_option maxRecDepth 100000 in
set_option maxHeartbeats 1600000 in
theorem newest_law (w : World) (T V b t : Int) (v : Value) (l : List E) (hv : Sl w w.heap.size v l) (k f o m i u c : Int) (y : Bool) (A2 : Option Addr) (n2 c2 : Nat) :
    Calls Try.prog 5 #[bv T V, lv b t v, .agg (mc k f o m i u c y (.slice A2 n2 c2))] w fun e w' => e = .returned (.bool true) ∧ Below w.heap.size w w' := by
  obtain ⟨A, d, rfl, hc, hm⟩ := hv.form
  have hb0 : Below w.heap.size w (((w.alloc (.cells #[.int .i64 T, .int .i64 V] 23)).alloc (.cells #[.int .i64 b, .int .i64 t, .slice A l.length d] 26)).alloc (.cells (mc k f o m i u c y (.slice A2 n2 c2)) 28)) :=
    (((Below.refl _ _).alloc (Nat.le_refl _) _).alloc (by simp) _).alloc (by simp only [World.size_alloc]; omega) _
  have HB := Lib.hid hb0
  have HW1 := Lib.hid (((Whole.new w 23 #[.int .i64 T, .int .i64 V]).alloc (.cells #[.int .i64 b, .int .i64 t, .slice A l.length d] 26)).alloc (.cells (mc k f o m i u c y (.slice A2 n2 c2)) 28))
  have HW2 := Lib.hid ((Whole.new1 w (.cells #[.int .i64 T, .int .i64 V] 23) 26 #[.int .i64 b, .int .i64 t, .slice A l.length d]).alloc (.cells (mc k f o m i u c y (.slice A2 n2 c2)) 28))
  have HW3 := Lib.hid (Whole.new1 (w.alloc (.cells #[.int .i64 T, .int .i64 V] 23)) (.cells #[.int .i64 b, .int .i64 t, .slice A l.length d] 26) 28 (mc k f o m i u c y (.slice A2 n2 c2)))
  simp only [World.size_alloc] at HW3
  have HK := Lib.hid (fun W => awake_any W)
  have HF := Lib.hid (fun W => few_any b t A l.length d W)
  have HGA := Lib.hid (fun W (h : Below w.heap.size w W) => grant_any T V b t _ l k f o m i u c y A2 n2 c2 W w.heap.size h.size (hv.below h))
  have HLA := Lib.hid (fun W (h : Below w.heap.size w W) => last_any b t _ l W w.heap.size h.size (hv.below h))
  have hnew := Lib.hid (@Vt.grant_newest (T, V) (Lg.last (b, t, l)) f m i u)
  clear hv hb0
  generalize Vt.grant (T, V) (Lg.last (b, t, l)) f m i u = r at *
  obtain ⟨⟨x1, x2⟩, x3⟩ := r
  generalize Lg.last (b, t, l) = p at *
  obtain ⟨z1, z2⟩ := p
  generalize l.length = n at *
  simp only at hnew
  go_enter Try.func5, Try.ntmps5
  go_wp2_with fail
  with_reducible refine (HK.out _).mono ?_
  rintro e w1 ⟨rfl, hb⟩
  replace HB := Lib.hid (HB.out.trans (hb.mono HB.out.size))
  replace HW1 := Lib.hid (HW1.out.below hb HW1.out.lt)
  replace HW2 := Lib.hid (HW2.out.below hb HW2.out.lt)
  replace HW3 := Lib.hid (HW3.out.below hb HW3.out.lt)
  clear hb HK
  obtain ⟨k0, k1, k2⟩ := HW2.out.c3
  go_wp2_with fail
  with_reducible refine (HF.out _).mono ?_
  rintro e w2 ⟨rfl, hb⟩
  replace HB := Lib.hid (HB.out.trans (hb.mono HB.out.size))
  replace HW1 := Lib.hid (HW1.out.below hb HW1.out.lt)
  replace HW2 := Lib.hid (HW2.out.below hb HW2.out.lt)
  replace HW3 := Lib.hid (HW3.out.below hb HW3.out.lt)
  clear hb HF k0 k1 k2
  by_cases c1 : n ≤ 100
  rotate_left
  · have d1 : decide (n ≤ 100) = false := by simpa using c1
    rw [d1]
    go_wp2_with fail
    go_ret
    exact ⟨rfl, HB.out⟩
  have d1 : decide (n ≤ 100) = true := by simpa using c1
  rw [d1]
  clear d1
  obtain ⟨p0, p1⟩ := HW1.out.c2
  obtain ⟨k0, k1, k2⟩ := HW2.out.c3
  obtain ⟨q0, q1, q2, q3, q4, q5, q6, q7, q8⟩ := HW3.out.c9
  go_wp2_with fail
  with_reducible refine (HGA.out _ HB.out).mono ?_
  rintro e w3 ⟨rfl, hb⟩
  replace HB := Lib.hid (HB.out.trans (hb.mono HB.out.size))
  replace HW1 := Lib.hid (HW1.out.below hb HW1.out.lt)
  replace HW2 := Lib.hid (HW2.out.below hb HW2.out.lt)
  replace HW3 := Lib.hid (HW3.out.below hb HW3.out.lt)
  clear hb HGA
  clear p0 p1 k0 k1 k2 q0 q1 q2 q3 q4 q5 q6 q7 q8
  have HX := Lib.hid (Whole.new w3 23 #[.int .i64 x1, .int .i64 x2])
  replace HB := Lib.hid (HB.out.alloc HB.out.size (.cells #[.int .i64 x1, .int .i64 x2] 23))
  replace HW1 := Lib.hid (HW1.out.alloc (.cells #[.int .i64 x1, .int .i64 x2] 23))
  replace HW2 := Lib.hid (HW2.out.alloc (.cells #[.int .i64 x1, .int .i64 x2] 23))
  replace HW3 := Lib.hid (HW3.out.alloc (.cells #[.int .i64 x1, .int .i64 x2] 23))
  obtain ⟨p0, p1⟩ := HW1.out.c2
  obtain ⟨k0, k1, k2⟩ := HW2.out.c3
  obtain ⟨q0, q1, q2, q3, q4, q5, q6, q7, q8⟩ := HW3.out.c9
  simp only
  go_wp2_with fail
  with_reducible refine (HLA.out _ HB.out).mono ?_
  rintro e w4 ⟨rfl, hb⟩
  replace HB := Lib.hid (HB.out.trans (hb.mono HB.out.size))
  replace HW1 := Lib.hid (HW1.out.below hb HW1.out.lt)
  replace HW2 := Lib.hid (HW2.out.below hb HW2.out.lt)
  replace HW3 := Lib.hid (HW3.out.below hb HW3.out.lt)
  clear hb HLA
  clear p0 p1 k0 k1 k2 q0 q1 q2 q3 q4 q5 q6 q7 q8
  obtain ⟨p0, p1⟩ := HW1.out.c2
  obtain ⟨k0, k1, k2⟩ := HW2.out.c3
  obtain ⟨q0, q1, q2, q3, q4, q5, q6, q7, q8⟩ := HW3.out.c9
  simp only
  rcases x3 with _ | _
  · clear hnew
    go_wp2_with fail
    go_ret
    exact ⟨rfl, HB.out⟩
  · have hn := hnew.out rfl
    clear hnew
    by_cases d1 : z2 < u
    · clear hn
      go_wp2_with fail
      go_ret
      exact ⟨rfl, HB.out⟩
    · have e1 : decide (z2 < u) = false := by simp; omega
      have e2 : (u == z2) = true := by simp; omega
      have d3 : z1 ≤ i := by omega
      clear hn d1
      go_wp2_with fail
      go_ret
      exact ⟨rfl, HB.out⟩
end Go.Proofs.Ythcfaccglioikaa
