/-
  EntriesAdd: what is added is what the reference adds, or refused as it refuses.
-/
import Derived.Test.YtckcfmkpchoaeaaAwk
import Derived.Test.YtckcfmkpchoaeaaNewer
import Derived.Test.YtckcfmkpchoaeaaRadd
import Derived.Test.YtckcfmkpchoaeaaSame
import Derived.Test.YtckcfmkpchoaeaaAddMay
namespace Go.Proofs.Ytckcfmkpchoaeaa
open Go.RowKit

set_option maxRecDepth 100000 in
set_option maxHeartbeats 800000 in
theorem add_law (w : World) (b t : Int) (v : Value) (l : List E) (hv : Sl w w.heap.size v l) (i u : Int) (hi : -9223372036854775808 ≤ i ∧ i ≤ 9223372036854775807) (v2 : Value) (m : List E) (hv2 : Sl w w.heap.size v2 m) :
    Calls Try.prog 4 #[lv b t v, .int .i64 i, .int .i64 u, v2] w fun e w' => e = .returned (.bool true) ∧ Below w.heap.size w w' := by
  obtain ⟨A, c, rfl, hc, hm⟩ := hv.form
  obtain ⟨A2, c2, rfl, hc2, hm2⟩ := hv2.form
  have hb0 : Below w.heap.size w (w.alloc (.cells #[.int .i64 b, .int .i64 t, .slice A l.length c] 24)) := (Below.refl _ _).alloc (Nat.le_refl _) _
  have HB := Lib.hid hb0
  have hW := Lib.hid (Whole.new w 24 #[.int .i64 b, .int .i64 t, .slice A l.length c])
  have HK := Lib.hid (awake_any (w.alloc (.cells #[.int .i64 b, .int .i64 t, .slice A l.length c] 24)))
  have HF := Lib.hid (fun W => few_any b t A l.length c W)
  have HA := Lib.hid (fun W (h : Below w.heap.size w W) (h2 : m.length ≤ 100) => add_any b t i u hi _ _ l m (by omega) W w.heap.size h.size (hv.below h) (hv2.below h))
  have HR := Lib.hid (fun W (h : Below w.heap.size w W) (h2 : m.length ≤ 100) => radd_any b t i u hi _ _ l m (by omega) W w.heap.size h.size (hv.below h) (hv2.below h))
  have HM := Lib.hid (@Lg.add_may b t i u l m)
  clear hv hv2 hb0
  generalize Lg.add (b, t, l) i u m = X at *
  obtain ⟨⟨xb, xt, xl⟩, xe⟩ := X
  generalize l.length = n at *
  generalize m.length = n2 at *
  go_enter Try.func4, Try.ntmps4
  go_wp2_with fail
  with_reducible refine HK.out.mono ?_
  rintro e w1 ⟨rfl, hb1⟩
  have HB1 := Lib.hid (HB.out.trans (hb1.mono HB.out.size))
  have HW1 := Lib.hid (hW.out.below hb1 hW.out.lt)
  clear hb1 HK hW HB
  obtain ⟨k0, k1, k2⟩ := HW1.out.c3
  go_wp2_with fail
  with_reducible refine (HF.out _).mono ?_
  rintro e w2 ⟨rfl, hb2⟩
  have HB2 := Lib.hid (HB1.out.trans (hb2.mono HB1.out.size))
  have HW2 := Lib.hid (HW1.out.below hb2 HW1.out.lt)
  clear hb2 HB1 HW1 HF k0 k1 k2
  obtain ⟨k0, k1, k2⟩ := HW2.out.c3
  by_cases c1 : n ≤ 100
  · have d1 : decide (n ≤ 100) = true := by simpa using c1
    rw [d1]
    by_cases c2 : 100 < n2
    · go_wp2_with fail
      go_ret
      exact ⟨rfl, HB2.out⟩
    have d2 : n2 ≤ 100 := by omega
    go_wp2_with fail
    with_reducible refine (HA.out _ HB2.out d2).mono ?_
    rintro e w3 ⟨v3, rfl, hs3, hb3⟩
    obtain ⟨A3, c3, rfl, -, -⟩ := hs3.form
    have hbb := HB2.out.trans (hb3.mono HB2.out.size)
    have HB3 := Lib.hid (hbb.alloc hbb.size (.cells #[.int .i64 xb, .int .i64 xt, .slice A3 xl.length c3] 24))
    have HWa := Lib.hid ((HW2.out.below hb3 HW2.out.lt).alloc (.cells #[.int .i64 xb, .int .i64 xt, .slice A3 xl.length c3] 24))
    have HWb := Lib.hid (Whole.new w3 24 #[.int .i64 xb, .int .i64 xt, .slice A3 xl.length c3])
    have HS3 := Lib.hid (hs3.here.below ((Below.refl _ _).alloc (Nat.le_refl _) (.cells #[.int .i64 xb, .int .i64 xt, .slice A3 xl.length c3] 24))).here
    clear hs3 hb3 hbb HB2 HW2 HA k0 k1 k2
    obtain ⟨k0, k1, k2⟩ := HWa.out.c3
    simp only at HM ⊢
    go_wp2_with fail
    with_reducible refine (HR.out _ HB3.out d2).mono ?_
    rintro e w4 ⟨v4, rfl, hs4, hb4⟩
    obtain ⟨A4, c4, rfl, -, -⟩ := hs4.form
    have hbb := HB3.out.trans (hb4.mono HB3.out.size)
    have HB4 := Lib.hid (hbb.alloc hbb.size (.cells #[.int .i64 xb, .int .i64 xt, .slice A4 xl.length c4] 24))
    have HWb4 := Lib.hid ((HWb.out.below hb4 HWb.out.lt).alloc (.cells #[.int .i64 xb, .int .i64 xt, .slice A4 xl.length c4] 24))
    have HWc4 := Lib.hid (Whole.new w4 24 #[.int .i64 xb, .int .i64 xt, .slice A4 xl.length c4])
    have HS34 := Lib.hid ((HS3.out.below hb4).mono hb4.size |>.below ((Below.refl _ _).alloc (Nat.le_refl _) (.cells #[.int .i64 xb, .int .i64 xt, .slice A4 xl.length c4] 24))).here
    have HS4 := Lib.hid (hs4.here.below ((Below.refl _ _).alloc (Nat.le_refl _) (.cells #[.int .i64 xb, .int .i64 xt, .slice A4 xl.length c4] 24))).here
    have HG := Lib.hid (logs_any xb xt _ _ xl _ _ (Nat.le_refl _) HS34.out HS4.out)
    clear hs4 hb4 hbb HB3 HWa HWb HS3 HS4 HR k0 k1 k2
    obtain ⟨k0, k1, k2⟩ := HWb4.out.c3
    obtain ⟨j0, j1, j2⟩ := HWc4.out.c3
    generalize hxl : xl.length = p at *
    have e1 : (xe == xe) = true := by simp
    simp only at ⊢
    go_wp2_with fail
    with_reducible refine HG.out.mono ?_
    rintro e w5 ⟨rfl, hb5⟩
    have HB5 := Lib.hid (HB4.out.trans (hb5.mono HB4.out.size))
    have HW5 := Lib.hid (HWb4.out.below hb5 HWb4.out.lt)
    have HS5 := Lib.hid ((HS34.out.below hb5).mono hb5.size)
    clear hb5 HB4 HWb4 HWc4 HS34 HG k0 k1 k2 j0 j1 j2
    obtain ⟨k0, k1, k2⟩ := HW5.out.c3
    by_cases h0 : xe = 0
    · subst h0
      have hmay : Lg.may (xb, xt, xl) = true := HM.out rfl
      have HMY := Lib.hid (may_any xb xt _ xl _ _ (Nat.le_refl _) HS5.out)
      rw [hmay] at HMY
      clear hmay HM HS5
      go_wp2_with fail
      with_reducible refine HMY.out.mono ?_
      rintro e w6 ⟨rfl, hb6⟩
      have hb7 := HB5.out.trans (hb6.mono HB5.out.size)
      go_wp2_with fail
      go_ret
      exact ⟨rfl, hb7⟩
    · have e2 : (xe != 0) = true := by simpa using h0
      go_wp2_with fail
      go_ret
      exact ⟨rfl, HB5.out⟩
  · have d1 : decide (n ≤ 100) = false := by simpa using c1
    rw [d1]
    go_wp2_with fail
    go_ret
    exact ⟨rfl, HB2.out⟩
end Go.Proofs.Ytckcfmkpchoaeaa
