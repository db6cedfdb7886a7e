/-
  EntriesTell: what is told of a log is what the reference tells.
-/
import Derived.Test.YtckcfmkpchoaeaaAwk
import Derived.Test.YtckcfmkpchoaeaaNewer
import Derived.Test.YtckcfmkpchoaeaaRfrom
import Derived.Test.YtckcfmkpchoaeaaRpack
import Derived.Test.YtckcfmkpchoaeaaSame
namespace Go.Proofs.Ytckcfmkpchoaeaa
open Go.RowKit

set_option maxRecDepth 100000 in
set_option maxHeartbeats 1600000 in
theorem tell_law (w : World) (b t : Int) (v : Value) (l : List E) (hv : Sl w w.heap.size v l) (i m u : Int) (hi : -9223372036854775808 ≤ i ∧ i ≤ 9223372036854775807) :
    Calls Try.prog 3 #[lv b t v, .int .i64 i, .int .i64 m, .int .i64 u] w fun e w' => e = .returned (.bool true) ∧ Below w.heap.size w w' := by
  obtain ⟨A, c, rfl, hc, hm⟩ := hv.form
  have hb0 : Below w.heap.size w (w.alloc (.cells #[.int .i64 b, .int .i64 t, .slice A l.length c] 24)) := (Below.refl _ _).alloc (Nat.le_refl _) _
  have HB := Lib.hid hb0
  have hW := Lib.hid (Whole.new w 24 #[.int .i64 b, .int .i64 t, .slice A l.length c])
  have HK := Lib.hid (awake_any (w.alloc (.cells #[.int .i64 b, .int .i64 t, .slice A l.length c] 24)))
  have HF := Lib.hid (fun W => few_any b t A l.length c W)
  have HLA := Lib.hid (fun W (h : Below w.heap.size w W) => last_any b t _ l W w.heap.size h.size (hv.below h))
  have HLR := Lib.hid (fun W (h : Below w.heap.size w W) => rlast_any b t _ l W w.heap.size h.size (hv.below h))
  have HTA := Lib.hid (fun W (h : Below w.heap.size w W) => term_any b t i hi _ l W w.heap.size h.size (hv.below h))
  have HTR := Lib.hid (fun W (h : Below w.heap.size w W) => rterm_any b t i hi _ l W w.heap.size h.size (hv.below h))
  have HFR := Lib.hid (fun W (h : Below w.heap.size w W) => from_any b t i m hi _ l W w.heap.size h.size (hv.below h))
  have HRF := Lib.hid (fun W (h : Below w.heap.size w W) => rfrom_any b t i m hi _ l W w.heap.size h.size (hv.below h))
  have HPA := Lib.hid (fun W (h : Below w.heap.size w W) => pack_any b t i hi _ l W w.heap.size h.size (hv.below h))
  have HPR := Lib.hid (fun W (h : Below w.heap.size w W) => rpack_any b t i hi _ l W w.heap.size h.size (hv.below h))
  have HMA := Lib.hid (fun W (h : Below w.heap.size w W) => may_any b t _ l W w.heap.size h.size (hv.below h))
  have HRM := Lib.hid (fun W (h : Below w.heap.size w W) => rmay_any b t _ l W w.heap.size h.size (hv.below h))
  have HNA := Lib.hid (fun W => newer_any i u (Lg.last (b, t, l)).1 (Lg.last (b, t, l)).2 W)
  have HNR := Lib.hid (fun W => rnewer_any i u (Lg.last (b, t, l)).1 (Lg.last (b, t, l)).2 W)
  clear hv hb0
  generalize Lg.last (b, t, l) = X at *
  obtain ⟨a1, a2⟩ := X
  generalize Lg.term (b, t, l) i = X at *
  obtain ⟨t1, t2⟩ := X
  generalize Lg.from_ (b, t, l) i m = fl at *
  generalize Lg.pack (b, t, l) i = X at *
  obtain ⟨⟨xb, xt, xl⟩, xe⟩ := X
  generalize Lg.may (b, t, l) = my at *
  generalize Lg.newer i u (a1, a2).1 (a1, a2).2 = nw at *
  generalize l.length = n at *
  go_enter Try.func3, Try.ntmps3
  go_wp2_with fail
  with_reducible refine HK.out.mono ?_
  rintro e w1 ⟨rfl, hb1⟩
  have HB1 := Lib.hid (HB.out.trans (hb1.mono HB.out.size))
  have HW1 := Lib.hid (hW.out.below hb1 hW.out.lt)
  clear hb1 HK hW HB
  obtain ⟨k0, k1, k2⟩ := HW1.out.c3
  go_wp2_with fail
  with_reducible refine (HF.out _).mono ?_
  rintro e w2 ⟨rfl, hb2⟩
  have HB2 := Lib.hid (HB1.out.trans (hb2.mono HB1.out.size))
  have HW2 := Lib.hid (HW1.out.below hb2 HW1.out.lt)
  clear hb2 HB1 HW1 HF k0 k1 k2
  obtain ⟨k0, k1, k2⟩ := HW2.out.c3
  by_cases c1 : n ≤ 100
  · have d1 : decide (n ≤ 100) = true := by simpa using c1
    rw [d1]
    go_wp2_with fail
    with_reducible refine (HLA.out _ HB2.out).mono ?_
    rintro e w3 ⟨rfl, hb3⟩
    have HB3 := Lib.hid (HB2.out.trans (hb3.mono HB2.out.size))
    have HW3 := Lib.hid (HW2.out.below hb3 HW2.out.lt)
    clear hb3 HB2 HW2 HLA k0 k1 k2
    obtain ⟨k0, k1, k2⟩ := HW3.out.c3
    simp only
    go_wp2_with fail
    with_reducible refine (HLR.out _ HB3.out).mono ?_
    rintro e w4 ⟨rfl, hb4⟩
    have HB4 := Lib.hid (HB3.out.trans (hb4.mono HB3.out.size))
    have HW4 := Lib.hid (HW3.out.below hb4 HW3.out.lt)
    clear hb4 HB3 HW3 HLR k0 k1 k2
    obtain ⟨k0, k1, k2⟩ := HW4.out.c3
    simp only
    go_wp2_with fail
    with_reducible refine (HTA.out _ HB4.out).mono ?_
    rintro e w5 ⟨rfl, hb5⟩
    have HB5 := Lib.hid (HB4.out.trans (hb5.mono HB4.out.size))
    have HW5 := Lib.hid (HW4.out.below hb5 HW4.out.lt)
    clear hb5 HB4 HW4 HTA k0 k1 k2
    obtain ⟨k0, k1, k2⟩ := HW5.out.c3
    simp only
    go_wp2_with fail
    with_reducible refine (HTR.out _ HB5.out).mono ?_
    rintro e w6 ⟨rfl, hb6⟩
    have HB6 := Lib.hid (HB5.out.trans (hb6.mono HB5.out.size))
    have HW6 := Lib.hid (HW5.out.below hb6 HW5.out.lt)
    clear hb6 HB5 HW5 HTR k0 k1 k2
    simp only
    go_wp2_with fail
    refine b_start w6.heap.size (by kernel_rfl) ?_
    refine b_take (i := 0) (v := ?_) rfl (by kernel_rfl) (by kernel_rfl) (by kernel_rfl) (fun _ _ _ h => h) (by rfl) ?_ ?_
    rotate_left
    · intro W hW
      obtain ⟨k0, k1, k2⟩ := ((show Whole w6.drew _ _ _ from HW6.out).below hW HW6.out.lt).c3
      go_simp
      first | done | rfl
    simp only [Act.put, List.setIfInBounds_toArray, List.set_cons_zero, List.set_cons_succ, List.getElem_toArray, List.getElem_cons_zero]
    refine b_take (i := 1) (v := ?_) rfl (by kernel_rfl) (by kernel_rfl) (by kernel_rfl) (fun _ _ _ h => h) (by rfl) ?_ ?_
    rotate_left
    · intro W hW
      go_simp
      first | done | rfl
    simp only [Act.put, List.setIfInBounds_toArray, List.set_cons_zero, List.set_cons_succ, List.getElem_toArray, List.getElem_cons_zero, List.getElem_cons_succ]
    refine b_take (i := 2) (v := ?_) rfl (by kernel_rfl) (by kernel_rfl) (by kernel_rfl) (fun _ _ _ h => h) (by rfl) ?_ ?_
    rotate_left
    · intro W hW
      go_simp
      first | done | rfl
    simp only [Act.put, List.setIfInBounds_toArray, List.set_cons_zero, List.set_cons_succ, List.getElem_toArray, List.getElem_cons_zero, List.getElem_cons_succ]
    refine b_take (i := 4) (v := ?_) rfl (by kernel_rfl) (by kernel_rfl) (by kernel_rfl) (fun _ _ _ h => h) (by rfl) ?_ ?_
    rotate_left
    · intro W hW
      obtain ⟨k0, k1, k2⟩ := ((show Whole w6.drew _ _ _ from HW6.out).below hW HW6.out.lt).c3
      go_simp
      first | done | rfl
    simp only [Act.put, List.setIfInBounds_toArray, List.set_cons_zero, List.set_cons_succ, List.getElem_toArray, List.getElem_cons_zero, List.getElem_cons_succ]
    refine b_take (i := 5) (v := ?_) rfl (by kernel_rfl) (by kernel_rfl) (by kernel_rfl) (fun _ _ _ h => h) (by rfl) ?_ ?_
    rotate_left
    · intro W hW
      go_simp
      first | done | rfl
    simp only [Act.put, List.setIfInBounds_toArray, List.set_cons_zero, List.set_cons_succ, List.getElem_toArray, List.getElem_cons_zero, List.getElem_cons_succ]
    refine b_take (i := 6) (v := ?_) rfl (by kernel_rfl) (by kernel_rfl) (by kernel_rfl) (fun _ _ _ h => h) (by rfl) ?_ ?_
    rotate_left
    · intro W hW
      go_simp
      first | done | rfl
    simp only [Act.put, List.setIfInBounds_toArray, List.set_cons_zero, List.set_cons_succ, List.getElem_toArray, List.getElem_cons_zero, List.getElem_cons_succ]
    refine b_one (i := 3) (by kernel_rfl) ?_
    refine one_call (i := 3) (f := 16) (args := ?_) rfl (by rfl) ?_ ?_
    rotate_left
    · go_simp
      first | done | rfl
    refine (HFR.out _ HB6.out.drew).mono ?_
    rintro e w7 ⟨A7, c7, rfl, ho7, hb7⟩
    refine ⟨_, rfl, hb7, ?_⟩
    have HB7 := Lib.hid (HB6.out.drew.trans (hb7.mono HB6.out.size))
    have HS7 := Lib.hid ho7.sl
    have HW7 := Lib.hid ((show Whole w6.drew _ _ _ from HW6.out).below hb7 HW6.out.lt)
    clear ho7
    simp only [Act.put, List.setIfInBounds_toArray, List.set_cons_zero, List.set_cons_succ, List.getElem_toArray, List.getElem_cons_zero, List.getElem_cons_succ]
    refine b_one (i := 7) (by kernel_rfl) ?_
    refine one_call (i := 7) (f := 17) (args := ?_) rfl (by rfl) ?_ ?_
    rotate_left
    · go_simp
      first | done | rfl
    refine (HRF.out _ HB7.out).mono ?_
    rintro e w8 ⟨A8, c8, rfl, ho8, hb8⟩
    refine ⟨_, rfl, hb8.mono hb7.size, ?_⟩
    have HB8 := Lib.hid (HB7.out.trans (hb8.mono HB7.out.size))
    have HS8 := Lib.hid ho8.sl
    have HS78 := Lib.hid ((HS7.out.below hb8).mono hb8.size)
    have HW8 := Lib.hid (HW7.out.below hb8 HW7.out.lt)
    have hz8 := Nat.le_trans hb7.size hb8.size
    clear ho8 hb7 hb8 HS7 HW7 HB7
    simp only [Act.put, List.setIfInBounds_toArray, List.set_cons_zero, List.set_cons_succ, List.getElem_toArray, List.getElem_cons_zero, List.getElem_cons_succ]
    refine b_one (i := 8) (by kernel_rfl) ?_
    refine one_call (i := 8) (f := 15) (args := ?_) rfl (by rfl) ?_ ?_
    rotate_left
    · go_simp
      first | done | rfl
    refine (same_any _ _ _ _ _ (Nat.le_refl _) HS78.out HS8.out).mono ?_
    rintro e w9 ⟨rfl, hb9⟩
    refine ⟨_, rfl, hb9.mono hz8, ?_⟩
    have HB9 := Lib.hid (HB8.out.trans (hb9.mono HB8.out.size))
    have HW9 := Lib.hid (HW8.out.below hb9 HW8.out.lt)
    clear hb9 HB8 HW8 HS78 HS8 hz8
    simp only [Act.put, List.setIfInBounds_toArray, List.set_cons_zero, List.set_cons_succ, List.getElem_toArray, List.getElem_cons_zero, List.getElem_cons_succ]
    refine b_take (i := 9) (v := ?_) rfl (by kernel_rfl) (by kernel_rfl) (by kernel_rfl) (fun _ _ _ h => h) (by rfl) ?_ ?_
    rotate_left
    · intro W hW
      go_simp
      first | done | rfl
    simp only [Act.put, List.setIfInBounds_toArray, List.set_cons_zero, List.set_cons_succ, List.getElem_toArray, List.getElem_cons_zero, List.getElem_cons_succ]
    refine b_done (by kernel_rfl) ?_
    obtain ⟨k0, k1, k2⟩ := HW9.out.c3
    clear HW6 HB6
    go_wp2_with fail
    with_reducible refine (HPA.out _ HB9.out).mono ?_
    rintro e w10 ⟨v3, rfl, hs3, hb3⟩
    obtain ⟨A3, c3, rfl, -, -⟩ := hs3.form
    have hbb := HB9.out.trans (hb3.mono HB9.out.size)
    have HB10 := Lib.hid (hbb.alloc hbb.size (.cells #[.int .i64 xb, .int .i64 xt, .slice A3 xl.length c3] 24))
    have HWa := Lib.hid ((HW9.out.below hb3 HW9.out.lt).alloc (.cells #[.int .i64 xb, .int .i64 xt, .slice A3 xl.length c3] 24))
    have HWb := Lib.hid (Whole.new w10 24 #[.int .i64 xb, .int .i64 xt, .slice A3 xl.length c3])
    have HS3 := Lib.hid (hs3.here.below ((Below.refl _ _).alloc (Nat.le_refl _) (.cells #[.int .i64 xb, .int .i64 xt, .slice A3 xl.length c3] 24))).here
    clear hs3 hb3 hbb HB9 HW9 HPA k0 k1 k2
    obtain ⟨k0, k1, k2⟩ := HWa.out.c3
    simp only
    go_wp2_with fail
    with_reducible refine (HPR.out _ HB10.out).mono ?_
    rintro e w11 ⟨v4, rfl, hs4, hb4⟩
    obtain ⟨A4, c4, rfl, -, -⟩ := hs4.form
    have hbb := HB10.out.trans (hb4.mono HB10.out.size)
    have HB11 := Lib.hid (hbb.alloc hbb.size (.cells #[.int .i64 xb, .int .i64 xt, .slice A4 xl.length c4] 24))
    have HWa4 := Lib.hid ((HWa.out.below hb4 HWa.out.lt).alloc (.cells #[.int .i64 xb, .int .i64 xt, .slice A4 xl.length c4] 24))
    have HWb4 := Lib.hid ((HWb.out.below hb4 HWb.out.lt).alloc (.cells #[.int .i64 xb, .int .i64 xt, .slice A4 xl.length c4] 24))
    have HWc4 := Lib.hid (Whole.new w11 24 #[.int .i64 xb, .int .i64 xt, .slice A4 xl.length c4])
    have HS34 := Lib.hid ((HS3.out.below hb4).mono hb4.size |>.below ((Below.refl _ _).alloc (Nat.le_refl _) (.cells #[.int .i64 xb, .int .i64 xt, .slice A4 xl.length c4] 24))).here
    have HS4 := Lib.hid (hs4.here.below ((Below.refl _ _).alloc (Nat.le_refl _) (.cells #[.int .i64 xb, .int .i64 xt, .slice A4 xl.length c4] 24))).here
    have HG := Lib.hid (logs_any xb xt _ _ xl _ _ (Nat.le_refl _) HS34.out HS4.out)
    clear hs4 hb4 hbb HB10 HWa HWb HS3 HS4 HS34 HPR k0 k1 k2
    obtain ⟨k0, k1, k2⟩ := HWb4.out.c3
    obtain ⟨j0, j1, j2⟩ := HWc4.out.c3
    generalize hxl : xl.length = p at *
    simp only
    go_wp2_with fail
    with_reducible refine HG.out.mono ?_
    rintro e w12 ⟨rfl, hb5⟩
    have HB12 := Lib.hid (HB11.out.trans (hb5.mono HB11.out.size))
    have HW12 := Lib.hid (HWa4.out.below hb5 HWa4.out.lt)
    clear hb5 HB11 HWa4 HWb4 HWc4 HG k0 k1 k2 j0 j1 j2
    go_wp2_with fail
    have e1 : (xe == xe) = true := by simp
    have e2 : (a1 == a1) = true := by simp
    have e3 : (a2 == a2) = true := by simp
    have e4 : (t1 == t1) = true := by simp
    have e5 : (t2 == t2) = true := by simp
    have e6 : (my == my) = true := by simp
    have e7 : (nw == nw) = true := by simp
    refine b_start w12.heap.size (by kernel_rfl) ?_
    refine b_take (i := 0) (v := ?_) rfl (by kernel_rfl) (by kernel_rfl) (by kernel_rfl) (fun _ _ _ h => h) (by rfl) ?_ ?_
    rotate_left
    · intro W hW
      go_simp
      first | done | rfl
    simp only [Act.put, List.setIfInBounds_toArray, List.set_cons_zero, List.set_cons_succ, List.getElem_toArray, List.getElem_cons_zero]
    refine b_take (i := 1) (v := ?_) rfl (by kernel_rfl) (by kernel_rfl) (by kernel_rfl) (fun _ _ _ h => h) (by rfl) ?_ ?_
    rotate_left
    · intro W hW
      go_simp
      first | done | rfl
    simp only [Act.put, List.setIfInBounds_toArray, List.set_cons_zero, List.set_cons_succ, List.getElem_toArray, List.getElem_cons_zero, List.getElem_cons_succ]
    refine b_take (i := 2) (v := ?_) rfl (by kernel_rfl) (by kernel_rfl) (by kernel_rfl) (fun _ _ _ h => h) (by rfl) ?_ ?_
    rotate_left
    · intro W hW
      go_simp
      first | done | rfl
    simp only [Act.put, List.setIfInBounds_toArray, List.set_cons_zero, List.set_cons_succ, List.getElem_toArray, List.getElem_cons_zero, List.getElem_cons_succ]
    refine b_take (i := 3) (v := ?_) rfl (by kernel_rfl) (by kernel_rfl) (by kernel_rfl) (fun _ _ _ h => h) (by rfl) ?_ ?_
    rotate_left
    · intro W hW
      go_simp
      first | done | rfl
    simp only [Act.put, List.setIfInBounds_toArray, List.set_cons_zero, List.set_cons_succ, List.getElem_toArray, List.getElem_cons_zero, List.getElem_cons_succ]
    refine b_take (i := 4) (v := ?_) rfl (by kernel_rfl) (by kernel_rfl) (by kernel_rfl) (fun _ _ _ h => h) (by rfl) ?_ ?_
    rotate_left
    · intro W hW
      go_simp
      first | done | rfl
    simp only [Act.put, List.setIfInBounds_toArray, List.set_cons_zero, List.set_cons_succ, List.getElem_toArray, List.getElem_cons_zero, List.getElem_cons_succ]
    refine b_take (i := 5) (v := ?_) rfl (by kernel_rfl) (by kernel_rfl) (by kernel_rfl) (fun _ _ _ h => h) (by rfl) ?_ ?_
    rotate_left
    · intro W hW
      go_simp
      first | done | rfl
    simp only [Act.put, List.setIfInBounds_toArray, List.set_cons_zero, List.set_cons_succ, List.getElem_toArray, List.getElem_cons_zero, List.getElem_cons_succ]
    refine b_take (i := 6) (v := ?_) rfl (by kernel_rfl) (by kernel_rfl) (by kernel_rfl) (fun _ _ _ h => h) (by rfl) ?_ ?_
    rotate_left
    · intro W hW
      go_simp
      first | done | rfl
    simp only [Act.put, List.setIfInBounds_toArray, List.set_cons_zero, List.set_cons_succ, List.getElem_toArray, List.getElem_cons_zero, List.getElem_cons_succ]
    refine b_take (i := 7) (v := ?_) rfl (by kernel_rfl) (by kernel_rfl) (by kernel_rfl) (fun _ _ _ h => h) (by rfl) ?_ ?_
    rotate_left
    · intro W hW
      go_simp
      first | done | rfl
    simp only [Act.put, List.setIfInBounds_toArray, List.set_cons_zero, List.set_cons_succ, List.getElem_toArray, List.getElem_cons_zero, List.getElem_cons_succ]
    refine b_take (i := 8) (v := ?_) rfl (by kernel_rfl) (by kernel_rfl) (by kernel_rfl) (fun _ _ _ h => h) (by rfl) ?_ ?_
    rotate_left
    · intro W hW
      go_simp
      first | done | rfl
    simp only [Act.put, List.setIfInBounds_toArray, List.set_cons_zero, List.set_cons_succ, List.getElem_toArray, List.getElem_cons_zero, List.getElem_cons_succ]
    refine b_take (i := 9) (v := ?_) rfl (by kernel_rfl) (by kernel_rfl) (by kernel_rfl) (fun _ _ _ h => h) (by rfl) ?_ ?_
    rotate_left
    · intro W hW
      go_simp
      first | done | rfl
    simp only [Act.put, List.setIfInBounds_toArray, List.set_cons_zero, List.set_cons_succ, List.getElem_toArray, List.getElem_cons_zero, List.getElem_cons_succ]
    refine b_take (i := 10) (v := ?_) rfl (by kernel_rfl) (by kernel_rfl) (by kernel_rfl) (fun _ _ _ h => h) (by rfl) ?_ ?_
    rotate_left
    · intro W hW
      go_simp
      first | done | rfl
    simp only [Act.put, List.setIfInBounds_toArray, List.set_cons_zero, List.set_cons_succ, List.getElem_toArray, List.getElem_cons_zero, List.getElem_cons_succ]
    refine b_take (i := 11) (v := ?_) rfl (by kernel_rfl) (by kernel_rfl) (by kernel_rfl) (fun _ _ _ h => h) (by rfl) ?_ ?_
    rotate_left
    · intro W hW
      go_simp
      first | done | rfl
    simp only [Act.put, List.setIfInBounds_toArray, List.set_cons_zero, List.set_cons_succ, List.getElem_toArray, List.getElem_cons_zero, List.getElem_cons_succ]
    refine b_take (i := 12) (v := ?_) rfl (by kernel_rfl) (by kernel_rfl) (by kernel_rfl) (fun _ _ _ h => h) (by rfl) ?_ ?_
    rotate_left
    · intro W hW
      go_simp
      first | done | rfl
    simp only [Act.put, List.setIfInBounds_toArray, List.set_cons_zero, List.set_cons_succ, List.getElem_toArray, List.getElem_cons_zero, List.getElem_cons_succ]
    refine b_take (i := 13) (v := ?_) rfl (by kernel_rfl) (by kernel_rfl) (by kernel_rfl) (fun _ _ _ h => h) (by rfl) ?_ ?_
    rotate_left
    · intro W hW
      go_simp
      first | done | rfl
    simp only [Act.put, List.setIfInBounds_toArray, List.set_cons_zero, List.set_cons_succ, List.getElem_toArray, List.getElem_cons_zero, List.getElem_cons_succ]
    refine b_take (i := 14) (v := ?_) rfl (by kernel_rfl) (by kernel_rfl) (by kernel_rfl) (fun _ _ _ h => h) (by rfl) ?_ ?_
    rotate_left
    · intro W hW
      go_simp
      first | done | rfl
    simp only [Act.put, List.setIfInBounds_toArray, List.set_cons_zero, List.set_cons_succ, List.getElem_toArray, List.getElem_cons_zero, List.getElem_cons_succ]
    refine b_take (i := 15) (v := ?_) rfl (by kernel_rfl) (by kernel_rfl) (by kernel_rfl) (fun _ _ _ h => h) (by rfl) ?_ ?_
    rotate_left
    · intro W hW
      go_simp
      first | done | rfl
    simp only [Act.put, List.setIfInBounds_toArray, List.set_cons_zero, List.set_cons_succ, List.getElem_toArray, List.getElem_cons_zero, List.getElem_cons_succ]
    refine b_take (i := 16) (v := ?_) rfl (by kernel_rfl) (by kernel_rfl) (by kernel_rfl) (fun _ _ _ h => h) (by rfl) ?_ ?_
    rotate_left
    · intro W hW
      go_simp
      first | done | rfl
    simp only [Act.put, List.setIfInBounds_toArray, List.set_cons_zero, List.set_cons_succ, List.getElem_toArray, List.getElem_cons_zero, List.getElem_cons_succ]
    refine b_take (i := 17) (v := ?_) rfl (by kernel_rfl) (by kernel_rfl) (by kernel_rfl) (fun _ _ _ h => h) (by rfl) ?_ ?_
    rotate_left
    · intro W hW
      go_simp
      first | done | rfl
    simp only [Act.put, List.setIfInBounds_toArray, List.set_cons_zero, List.set_cons_succ, List.getElem_toArray, List.getElem_cons_zero, List.getElem_cons_succ]
    refine b_take (i := 18) (v := ?_) rfl (by kernel_rfl) (by kernel_rfl) (by kernel_rfl) (fun _ _ _ h => h) (by rfl) ?_ ?_
    rotate_left
    · intro W hW
      go_simp
      first | done | rfl
    simp only [Act.put, List.setIfInBounds_toArray, List.set_cons_zero, List.set_cons_succ, List.getElem_toArray, List.getElem_cons_zero, List.getElem_cons_succ]
    refine b_take (i := 19) (v := ?_) rfl (by kernel_rfl) (by kernel_rfl) (by kernel_rfl) (fun _ _ _ h => h) (by rfl) ?_ ?_
    rotate_left
    · intro W hW
      go_simp
      first | done | rfl
    simp only [Act.put, List.setIfInBounds_toArray, List.set_cons_zero, List.set_cons_succ, List.getElem_toArray, List.getElem_cons_zero, List.getElem_cons_succ]
    refine b_take (i := 20) (v := ?_) rfl (by kernel_rfl) (by kernel_rfl) (by kernel_rfl) (fun _ _ _ h => h) (by rfl) ?_ ?_
    rotate_left
    · intro W hW
      go_simp
      first | done | rfl
    simp only [Act.put, List.setIfInBounds_toArray, List.set_cons_zero, List.set_cons_succ, List.getElem_toArray, List.getElem_cons_zero, List.getElem_cons_succ]
    refine b_take (i := 21) (v := ?_) rfl (by kernel_rfl) (by kernel_rfl) (by kernel_rfl) (fun _ _ _ h => h) (by rfl) ?_ ?_
    rotate_left
    · intro W hW
      go_simp
      first | done | rfl
    simp only [Act.put, List.setIfInBounds_toArray, List.set_cons_zero, List.set_cons_succ, List.getElem_toArray, List.getElem_cons_zero, List.getElem_cons_succ]
    refine b_take (i := 22) (v := ?_) rfl (by kernel_rfl) (by kernel_rfl) (by kernel_rfl) (fun _ _ _ h => h) (by rfl) ?_ ?_
    rotate_left
    · intro W hW
      go_simp
      first | done | rfl
    simp only [Act.put, List.setIfInBounds_toArray, List.set_cons_zero, List.set_cons_succ, List.getElem_toArray, List.getElem_cons_zero, List.getElem_cons_succ]
    refine b_take (i := 23) (v := ?_) rfl (by kernel_rfl) (by kernel_rfl) (by kernel_rfl) (fun _ _ _ h => h) (by rfl) ?_ ?_
    rotate_left
    · intro W hW
      go_simp
      first | done | rfl
    simp only [Act.put, List.setIfInBounds_toArray, List.set_cons_zero, List.set_cons_succ, List.getElem_toArray, List.getElem_cons_zero, List.getElem_cons_succ]
    refine b_take (i := 24) (v := ?_) rfl (by kernel_rfl) (by kernel_rfl) (by kernel_rfl) (fun _ _ _ h => h) (by rfl) ?_ ?_
    rotate_left
    · intro W hW
      go_simp
      first | done | rfl
    simp only [Act.put, List.setIfInBounds_toArray, List.set_cons_zero, List.set_cons_succ, List.getElem_toArray, List.getElem_cons_zero, List.getElem_cons_succ]
    refine b_take (i := 25) (v := ?_) rfl (by kernel_rfl) (by kernel_rfl) (by kernel_rfl) (fun _ _ _ h => h) (by rfl) ?_ ?_
    rotate_left
    · intro W hW
      go_simp
      first | done | rfl
    simp only [Act.put, List.setIfInBounds_toArray, List.set_cons_zero, List.set_cons_succ, List.getElem_toArray, List.getElem_cons_zero, List.getElem_cons_succ]
    refine b_take (i := 26) (v := ?_) rfl (by kernel_rfl) (by kernel_rfl) (by kernel_rfl) (fun _ _ _ h => h) (by rfl) ?_ ?_
    rotate_left
    · intro W hW
      go_simp
      first | done | rfl
    simp only [Act.put, List.setIfInBounds_toArray, List.set_cons_zero, List.set_cons_succ, List.getElem_toArray, List.getElem_cons_zero, List.getElem_cons_succ]
    refine b_take (i := 27) (v := ?_) rfl (by kernel_rfl) (by kernel_rfl) (by kernel_rfl) (fun _ _ _ h => h) (by rfl) ?_ ?_
    rotate_left
    · intro W hW
      go_simp
      first | done | rfl
    simp only [Act.put, List.setIfInBounds_toArray, List.set_cons_zero, List.set_cons_succ, List.getElem_toArray, List.getElem_cons_zero, List.getElem_cons_succ]
    refine b_take (i := 28) (v := ?_) rfl (by kernel_rfl) (by kernel_rfl) (by kernel_rfl) (fun _ _ _ h => h) (by rfl) ?_ ?_
    rotate_left
    · intro W hW
      go_simp
      first | done | rfl
    simp only [Act.put, List.setIfInBounds_toArray, List.set_cons_zero, List.set_cons_succ, List.getElem_toArray, List.getElem_cons_zero, List.getElem_cons_succ]
    refine b_take (i := 29) (v := ?_) rfl (by kernel_rfl) (by kernel_rfl) (by kernel_rfl) (fun _ _ _ h => h) (by rfl) ?_ ?_
    rotate_left
    · intro W hW
      go_simp
      first | done | rfl
    simp only [Act.put, List.setIfInBounds_toArray, List.set_cons_zero, List.set_cons_succ, List.getElem_toArray, List.getElem_cons_zero, List.getElem_cons_succ]
    refine b_take (i := 30) (v := ?_) rfl (by kernel_rfl) (by kernel_rfl) (by kernel_rfl) (fun _ _ _ h => h) (by rfl) ?_ ?_
    rotate_left
    · intro W hW
      obtain ⟨k0, k1, k2⟩ := ((show Whole w12.drew _ _ _ from HW12.out).below hW HW12.out.lt).c3
      go_simp
      first | done | rfl
    simp only [Act.put, List.setIfInBounds_toArray, List.set_cons_zero, List.set_cons_succ, List.getElem_toArray, List.getElem_cons_zero, List.getElem_cons_succ]
    refine b_take (i := 32) (v := ?_) rfl (by kernel_rfl) (by kernel_rfl) (by kernel_rfl) (fun _ _ _ h => h) (by rfl) ?_ ?_
    rotate_left
    · intro W hW
      obtain ⟨k0, k1, k2⟩ := ((show Whole w12.drew _ _ _ from HW12.out).below hW HW12.out.lt).c3
      go_simp
      first | done | rfl
    simp only [Act.put, List.setIfInBounds_toArray, List.set_cons_zero, List.set_cons_succ, List.getElem_toArray, List.getElem_cons_zero, List.getElem_cons_succ]
    refine b_one (i := 31) (by kernel_rfl) ?_
    refine one_call (i := 31) (f := 21) (args := ?_) rfl (by rfl) ?_ ?_
    rotate_left
    · go_simp
      first | done | rfl
    refine (HMA.out _ HB12.out.drew).mono ?_
    rintro e w13 ⟨rfl, hb13⟩
    refine ⟨_, rfl, hb13, ?_⟩
    have HB13 := Lib.hid (HB12.out.drew.trans (hb13.mono HB12.out.size))
    have hz13 : w12.heap.size ≤ w13.heap.size := hb13.size
    clear hb13
    simp only [Act.put, List.setIfInBounds_toArray, List.set_cons_zero, List.set_cons_succ, List.getElem_toArray, List.getElem_cons_zero, List.getElem_cons_succ]
    refine b_one (i := 33) (by kernel_rfl) ?_
    refine one_call (i := 33) (f := 22) (args := ?_) rfl (by rfl) ?_ ?_
    rotate_left
    · go_simp
      first | done | rfl
    refine (HRM.out _ HB13.out).mono ?_
    rintro e w14 ⟨rfl, hb14⟩
    refine ⟨_, rfl, hb14.mono hz13, ?_⟩
    have HB14 := Lib.hid (HB13.out.trans (hb14.mono HB13.out.size))
    have hz14 := Nat.le_trans hz13 hb14.size
    clear hb14
    simp only [Act.put, List.setIfInBounds_toArray, List.set_cons_zero, List.set_cons_succ, List.getElem_toArray, List.getElem_cons_zero, List.getElem_cons_succ]
    refine b_take (i := 34) (v := ?_) rfl (by kernel_rfl) (by kernel_rfl) (by kernel_rfl) (fun _ _ _ h => h) (by rfl) ?_ ?_
    rotate_left
    · intro W hW
      go_simp
      first | done | rfl
    simp only [Act.put, List.setIfInBounds_toArray, List.set_cons_zero, List.set_cons_succ, List.getElem_toArray, List.getElem_cons_zero, List.getElem_cons_succ]
    refine b_take (i := 35) (v := ?_) rfl (by kernel_rfl) (by kernel_rfl) (by kernel_rfl) (fun _ _ _ h => h) (by rfl) ?_ ?_
    rotate_left
    · intro W hW
      go_simp
      first | done | rfl
    simp only [Act.put, List.setIfInBounds_toArray, List.set_cons_zero, List.set_cons_succ, List.getElem_toArray, List.getElem_cons_zero, List.getElem_cons_succ]
    refine b_take (i := 36) (v := ?_) rfl (by kernel_rfl) (by kernel_rfl) (by kernel_rfl) (fun _ _ _ h => h) (by rfl) ?_ ?_
    rotate_left
    · intro W hW
      go_simp
      first | done | rfl
    simp only [Act.put, List.setIfInBounds_toArray, List.set_cons_zero, List.set_cons_succ, List.getElem_toArray, List.getElem_cons_zero, List.getElem_cons_succ]
    refine b_take (i := 37) (v := ?_) rfl (by kernel_rfl) (by kernel_rfl) (by kernel_rfl) (fun _ _ _ h => h) (by rfl) ?_ ?_
    rotate_left
    · intro W hW
      go_simp
      first | done | rfl
    simp only [Act.put, List.setIfInBounds_toArray, List.set_cons_zero, List.set_cons_succ, List.getElem_toArray, List.getElem_cons_zero, List.getElem_cons_succ]
    refine b_take (i := 38) (v := ?_) rfl (by kernel_rfl) (by kernel_rfl) (by kernel_rfl) (fun _ _ _ h => h) (by rfl) ?_ ?_
    rotate_left
    · intro W hW
      go_simp
      first | done | rfl
    simp only [Act.put, List.setIfInBounds_toArray, List.set_cons_zero, List.set_cons_succ, List.getElem_toArray, List.getElem_cons_zero, List.getElem_cons_succ]
    refine b_take (i := 39) (v := ?_) rfl (by kernel_rfl) (by kernel_rfl) (by kernel_rfl) (fun _ _ _ h => h) (by rfl) ?_ ?_
    rotate_left
    · intro W hW
      go_simp
      first | done | rfl
    simp only [Act.put, List.setIfInBounds_toArray, List.set_cons_zero, List.set_cons_succ, List.getElem_toArray, List.getElem_cons_zero, List.getElem_cons_succ]
    refine b_take (i := 40) (v := ?_) rfl (by kernel_rfl) (by kernel_rfl) (by kernel_rfl) (fun _ _ _ h => h) (by rfl) ?_ ?_
    rotate_left
    · intro W hW
      go_simp
      first | done | rfl
    simp only [Act.put, List.setIfInBounds_toArray, List.set_cons_zero, List.set_cons_succ, List.getElem_toArray, List.getElem_cons_zero, List.getElem_cons_succ]
    refine b_take (i := 42) (v := ?_) rfl (by kernel_rfl) (by kernel_rfl) (by kernel_rfl) (fun _ _ _ h => h) (by rfl) ?_ ?_
    rotate_left
    · intro W hW
      go_simp
      first | done | rfl
    simp only [Act.put, List.setIfInBounds_toArray, List.set_cons_zero, List.set_cons_succ, List.getElem_toArray, List.getElem_cons_zero, List.getElem_cons_succ]
    refine b_take (i := 43) (v := ?_) rfl (by kernel_rfl) (by kernel_rfl) (by kernel_rfl) (fun _ _ _ h => h) (by rfl) ?_ ?_
    rotate_left
    · intro W hW
      go_simp
      first | done | rfl
    simp only [Act.put, List.setIfInBounds_toArray, List.set_cons_zero, List.set_cons_succ, List.getElem_toArray, List.getElem_cons_zero, List.getElem_cons_succ]
    refine b_take (i := 44) (v := ?_) rfl (by kernel_rfl) (by kernel_rfl) (by kernel_rfl) (fun _ _ _ h => h) (by rfl) ?_ ?_
    rotate_left
    · intro W hW
      go_simp
      first | done | rfl
    simp only [Act.put, List.setIfInBounds_toArray, List.set_cons_zero, List.set_cons_succ, List.getElem_toArray, List.getElem_cons_zero, List.getElem_cons_succ]
    refine b_take (i := 45) (v := ?_) rfl (by kernel_rfl) (by kernel_rfl) (by kernel_rfl) (fun _ _ _ h => h) (by rfl) ?_ ?_
    rotate_left
    · intro W hW
      go_simp
      first | done | rfl
    simp only [Act.put, List.setIfInBounds_toArray, List.set_cons_zero, List.set_cons_succ, List.getElem_toArray, List.getElem_cons_zero, List.getElem_cons_succ]
    refine b_one (i := 41) (by kernel_rfl) ?_
    refine one_call (i := 41) (f := 23) (args := ?_) rfl (by rfl) ?_ ?_
    rotate_left
    · go_simp
      first | done | rfl
    refine (HNA.out _).mono ?_
    rintro e w15 ⟨rfl, hw⟩
    subst hw
    refine ⟨_, rfl, Below.refl _ _, ?_⟩
    simp only [Act.put, List.setIfInBounds_toArray, List.set_cons_zero, List.set_cons_succ, List.getElem_toArray, List.getElem_cons_zero, List.getElem_cons_succ]
    refine b_one (i := 46) (by kernel_rfl) ?_
    refine one_call (i := 46) (f := 24) (args := ?_) rfl (by rfl) ?_ ?_
    rotate_left
    · go_simp
      first | done | rfl
    refine (HNR.out _).mono ?_
    rintro e w15 ⟨rfl, hw⟩
    subst hw
    refine ⟨_, rfl, Below.refl _ _, ?_⟩
    simp only [Act.put, List.setIfInBounds_toArray, List.set_cons_zero, List.set_cons_succ, List.getElem_toArray, List.getElem_cons_zero, List.getElem_cons_succ]
    refine b_take (i := 47) (v := ?_) rfl (by kernel_rfl) (by kernel_rfl) (by kernel_rfl) (fun _ _ _ h => h) (by rfl) ?_ ?_
    rotate_left
    · intro W hW
      go_simp
      first | done | rfl
    simp only [Act.put, List.setIfInBounds_toArray, List.set_cons_zero, List.set_cons_succ, List.getElem_toArray, List.getElem_cons_zero, List.getElem_cons_succ]
    refine b_take (i := 48) (v := ?_) rfl (by kernel_rfl) (by kernel_rfl) (by kernel_rfl) (fun _ _ _ h => h) (by rfl) ?_ ?_
    rotate_left
    · intro W hW
      go_simp
      first | done | rfl
    simp only [Act.put, List.setIfInBounds_toArray, List.set_cons_zero, List.set_cons_succ, List.getElem_toArray, List.getElem_cons_zero, List.getElem_cons_succ]
    refine b_take (i := 49) (v := ?_) rfl (by kernel_rfl) (by kernel_rfl) (by kernel_rfl) (fun _ _ _ h => h) (by rfl) ?_ ?_
    rotate_left
    · intro W hW
      go_simp
      first | done | rfl
    simp only [Act.put, List.setIfInBounds_toArray, List.set_cons_zero, List.set_cons_succ, List.getElem_toArray, List.getElem_cons_zero, List.getElem_cons_succ]
    refine b_done (by kernel_rfl) ?_
    go_wp2_with fail
    go_ret
    exact ⟨rfl, HB14.out⟩
  · have d1 : decide (n ≤ 100) = false := by simpa using c1
    rw [d1]
    go_wp2_with fail
    go_ret
    exact ⟨rfl, HB2.out⟩
end Go.Proofs.Ytckcfmkpchoaeaa
