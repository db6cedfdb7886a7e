/-
  Why nothing is added: what mayAdd answers.
-/
import Derived.Test.YtckcfmkpchoaeaaTerm
namespace Go.Proofs.Ytckcfmkpchoaeaa
open Go.RowKit

set_option maxRecDepth 100000 in
theorem why_any (b t i u : Int) (hi : -9223372036854775808 ≤ i ∧ i ≤ 9223372036854775807) (v v2 : Value) (l m : List E) (w : World) (B : Nat) (hB : B ≤ w.heap.size) (hv : Sl w B v l) (hv2 : Sl w B v2 m) :
    Calls Try.prog 33 #[lv b t v, .int .i64 i, .int .i64 u, v2] w fun e w' => e = .returned (.int .i64 (Lg.why (b, t, l) i u m)) ∧ Below w.heap.size w w' := by
  obtain ⟨A, c, rfl, hc, hm⟩ := hv.form
  obtain ⟨A2, c2, rfl, hc2, hm2⟩ := hv2.form
  have hb0 : Below w.heap.size w (w.alloc (.cells #[.int .i64 b, .int .i64 t, .slice A l.length c] 24)) := (Below.refl _ _).alloc (Nat.le_refl _) _
  have HM := Lib.hid (may_any b t _ l _ B (Nat.le_trans hB hb0.size) (hv.below (hb0.mono hB)))
  have HF := Lib.hid (fun W (h : Below w.heap.size w W) => follow_any _ m u W B (Nat.le_trans hB h.size) (hv2.below (h.mono hB)))
  have HT := Lib.hid (fun W (h : Below w.heap.size w W) => term_any b t i hi _ l W B (Nat.le_trans hB h.size) (hv.below (h.mono hB)))
  have HW := Lib.hid (Whole.new w 24 #[.int .i64 b, .int .i64 t, .slice A l.length c])
  have HB := Lib.hid hb0
  have HR : Hid (Lg.why (b, t, l) i u m = if Lg.may (b, t, l) = false then 1 else if Lg.rise u m = false then 1 else if i < b then 9 else if (Lg.term (b, t, l) i).2 = false then 10 else if (Lg.term (b, t, l) i).1 ≠ u then 8 else 0) := rfl
  clear hv hv2 hb0
  generalize Lg.why (b, t, l) i u m = R at *
  generalize Lg.may (b, t, l) = r1 at *
  generalize Lg.rise u m = r2 at *
  generalize Lg.term (b, t, l) i = T at *
  obtain ⟨t1, t2⟩ := T
  simp only at HR HT
  generalize l.length = n at *
  generalize m.length = n2 at *
  go_enter Try.func33, Try.ntmps33
  go_wp2_with fail
  with_reducible refine HM.out.mono ?_
  rintro e w2 ⟨rfl, hb2⟩
  have hbb := HB.out.trans (hb2.mono HB.out.size)
  have hw2 := HW.out.below hb2 HW.out.lt
  have HB2 := Lib.hid hbb
  have HW2 := Lib.hid hw2
  obtain ⟨k0, k1, k2⟩ := hw2.c3
  clear hbb hb2 hw2 HW HB HM
  rcases r1 with _ | _
  · obtain rfl : R = 1 := HR.out
    go_wp2_with fail
    go_ret
    exact ⟨rfl, HB2.out⟩
  go_wp2_with fail
  with_reducible refine (HF.out _ HB2.out).mono ?_
  rintro e w3 ⟨rfl, hb3⟩
  have hbb := HB2.out.trans (hb3.mono HB2.out.size)
  have hw3 := HW2.out.below hb3 HW2.out.lt
  have HB3 := Lib.hid hbb
  obtain ⟨k0, k1, k2⟩ := hw3.c3
  clear hbb hb3 hw3 HW2 HB2 HF
  rcases r2 with _ | _
  · obtain rfl : R = 1 := HR.out
    go_wp2_with fail
    go_ret
    exact ⟨rfl, HB3.out⟩
  have HR2 : Hid (R = if i < b then 9 else if t2 = false then 10 else if t1 ≠ u then 8 else 0) := HR.out
  clear HR
  by_cases c1 : i < b
  · obtain rfl : R = 9 := by rw [HR2.out, if_pos c1]
    go_wp2_with fail
    go_ret
    exact ⟨rfl, HB3.out⟩
  have HR3 : Hid (R = if t2 = false then 10 else if t1 ≠ u then 8 else 0) := by show _ = _; rw [HR2.out, if_neg c1]
  clear HR2
  go_wp2_with fail
  with_reducible refine (HT.out _ HB3.out).mono ?_
  rintro e w4 ⟨rfl, hb4⟩
  have HB4 := Lib.hid (HB3.out.trans (hb4.mono HB3.out.size))
  clear hb4 HB3 HT
  rcases t2 with _ | _
  · obtain rfl : R = 10 := HR3.out
    go_wp2_with fail
    go_ret
    exact ⟨rfl, HB4.out⟩
  have HR4 : Hid (R = if t1 ≠ u then 8 else 0) := HR3.out
  clear HR3
  by_cases c2 : t1 = u
  · subst c2
    obtain rfl : R = 0 := by rw [HR4.out, if_neg (by simp)]
    have e1 : (t1 != t1) = false := by simp
    go_wp2_with fail
    go_ret
    exact ⟨rfl, HB4.out⟩
  · obtain rfl : R = 8 := by rw [HR4.out, if_pos c2]
    have e1 : (t1 != u) = true := by simpa using c2
    go_wp2_with fail
    go_ret
    exact ⟨rfl, HB4.out⟩
end Go.Proofs.Ytckcfmkpchoaeaa
