/-
  EntriesThere: what was added is there; to add it once more changes nothing; what was ahead of it stays.
-/
import Derived.Test.YtckcfmkpchoaeaaLawKeeps
import Derived.LoopTactic
namespace Go.Proofs.Ytckcfmkpchoaeaa
open Go.RowKit

theorem add_fall {b t i u : Int} {l m : List E} (h : (Lg.add (b, t, l) i u m).2 ≠ 0) : (Lg.add (b, t, l) i u m).1 = Lg.zero := by
  by_cases hw : Lg.why (b, t, l) i u m = 0
  · rw [add_yes hw] at h ⊢
    unfold Lg.put at h ⊢
    split
    · rename_i h1; rw [if_pos h1] at h; exact absurd rfl h
    · split
      · rfl
      · rename_i h1 h2; rw [if_neg h1, if_neg h2] at h; exact absurd rfl h
  · rw [add_no hw]

set_option maxRecDepth 100000 in
set_option maxHeartbeats 1600000 in
theorem there_law (w : World) (b t : Int) (v : Value) (l : List E) (hv : Sl w w.heap.size v l) (i u : Int) (hi : -9223372036854775808 ≤ i ∧ i ≤ 9223372036854775807) (v2 : Value) (m : List E) (hv2 : Sl w w.heap.size v2 m) :
    Calls Try.prog 5 #[lv b t v, .int .i64 i, .int .i64 u, v2] w fun e w' => e = .returned (.bool true) ∧ Below w.heap.size w w' := by
  obtain ⟨A, c, rfl, hc, hm⟩ := hv.form
  obtain ⟨A2, c2, rfl, hc2, hm2⟩ := hv2.form
  unfold maxLen at hm2
  have hb0 : Below w.heap.size w (w.alloc (.cells #[.int .i64 b, .int .i64 t, .slice A l.length c] 24)) := (Below.refl _ _).alloc (Nat.le_refl _) _
  have HB := Lib.hid hb0
  have hW := Lib.hid (Whole.new w 24 #[.int .i64 b, .int .i64 t, .slice A l.length c])
  have HK := Lib.hid (awake_any (w.alloc (.cells #[.int .i64 b, .int .i64 t, .slice A l.length c] 24)))
  have HF := Lib.hid (fun W => few_any b t A l.length c W)
  have HV := Lib.hid (fun W (h : Below w.heap.size w W) => (hv.below h))
  have HV2 := Lib.hid (fun W (h : Below w.heap.size w W) => (hv2.below h))
  have HFL0 := Lib.hid (fun (h : 0 ≤ b ∧ b ≤ 1099511627776) W (hW : Below w.heap.size w W) => from_any b t (b + 1) (i - b) (by omega) _ l W w.heap.size hW.size (hv.below hW))
  clear hv hv2 hb0
  by_cases c1 : l.length ≤ 100
  case neg =>
    have d1 : decide (l.length ≤ 100) = false := by simpa using c1
    generalize l.length = n at *
    go_enter Try.func5, Try.ntmps5
    go_wp2_with fail
    with_reducible refine HK.out.mono ?_
    rintro e w1 ⟨rfl, hb1⟩
    have HB1 := Lib.hid (HB.out.trans (hb1.mono HB.out.size))
    obtain ⟨k0, k1, k2⟩ := (hW.out.below hb1 hW.out.lt).c3
    clear hb1 HK hW HB
    go_wp2_with fail
    with_reducible refine (HF.out _).mono ?_
    rintro e w2 ⟨rfl, hb2⟩
    have HB2 := Lib.hid (HB1.out.trans (hb2.mono HB1.out.size))
    rw [d1]
    clear hb2
    go_wp2_with fail
    go_ret
    exact ⟨rfl, HB2.out⟩
  have d1 : decide (l.length ≤ 100) = true := by simpa using c1
  by_cases c3 : 100 < m.length
  · generalize l.length = n at *
    generalize m.length = n2 at *
    go_enter Try.func5, Try.ntmps5
    go_wp2_with fail
    with_reducible refine HK.out.mono ?_
    rintro e w1 ⟨rfl, hb1⟩
    have HB1 := Lib.hid (HB.out.trans (hb1.mono HB.out.size))
    obtain ⟨k0, k1, k2⟩ := (hW.out.below hb1 hW.out.lt).c3
    clear hb1 HK hW HB
    go_wp2_with fail
    with_reducible refine (HF.out _).mono ?_
    rintro e w2 ⟨rfl, hb2⟩
    have HB2 := Lib.hid (HB1.out.trans (hb2.mono HB1.out.size))
    rw [d1]
    clear hb2
    go_wp2_with fail
    go_ret
    exact ⟨rfl, HB2.out⟩
  have c4 : m.length ≤ 100 := by omega
  have HA := Lib.hid (fun W (h : Below w.heap.size w W) => add_any b t i u hi _ _ l m (by omega) W w.heap.size h.size (HV.out W h) (HV2.out W h))
  have HA2 := Lib.hid (fun L W (h : Below w.heap.size w W) v3 (hs : Sl W W.heap.size v3 L) => add_any b t i u hi v3 _ L m (by omega) W W.heap.size (Nat.le_refl _) hs (HV2.out W h).here)
  have HAD := Lib.hid (@Lg.added b t i u l m)
  have HFA := Lib.hid (@add_fall b t i u l m)
  generalize hX : Lg.add (b, t, l) i u m = X at *
  have HX := Lib.hid hX
  obtain ⟨⟨xb, xt, xl⟩, xe⟩ := X
  have HN2 := Lib.hid (show m.length = m.length from rfl)
  have HM : Hid (∀ W, Below w.heap.size w W → Sl W w.heap.size (.slice A2 m.length c2) m) := HV2.out
  clear HV2 HN2 hX
  generalize l.length = n at *
  generalize hn2 : m.length = n2 at *
  have HN2 := Lib.hid hn2
  clear hn2
  go_enter Try.func5, Try.ntmps5
  go_wp2_with fail
  with_reducible refine HK.out.mono ?_
  rintro e w1 ⟨rfl, hb1⟩
  have HB1 := Lib.hid (HB.out.trans (hb1.mono HB.out.size))
  have HW1 := Lib.hid (hW.out.below hb1 hW.out.lt)
  clear hb1 HK hW HB
  obtain ⟨k0, k1, k2⟩ := HW1.out.c3
  go_wp2_with fail
  with_reducible refine (HF.out _).mono ?_
  rintro e w2 ⟨rfl, hb2⟩
  have HB2 := Lib.hid (HB1.out.trans (hb2.mono HB1.out.size))
  have HW2 := Lib.hid (HW1.out.below hb2 HW1.out.lt)
  rw [d1]
  clear hb2 HB1 HW1 HF k0 k1 k2
  obtain ⟨k0, k1, k2⟩ := HW2.out.c3
  go_wp2_with fail
  with_reducible refine (HA.out _ HB2.out).mono ?_
  rintro e w3 ⟨v3, rfl, hs3, hb3⟩
  obtain ⟨A3, c5, rfl, -, -⟩ := hs3.form
  have hbb := HB2.out.trans (hb3.mono HB2.out.size)
  have HB3 := Lib.hid (hbb.alloc hbb.size (.cells #[.int .i64 xb, .int .i64 xt, .slice A3 xl.length c5] 24))
  have HWa := Lib.hid ((HW2.out.below hb3 HW2.out.lt).alloc (.cells #[.int .i64 xb, .int .i64 xt, .slice A3 xl.length c5] 24))
  have HWb := Lib.hid (Whole.new w3 24 #[.int .i64 xb, .int .i64 xt, .slice A3 xl.length c5])
  have HS3 := Lib.hid (hs3.here.below ((Below.refl _ _).alloc (Nat.le_refl _) (.cells #[.int .i64 xb, .int .i64 xt, .slice A3 xl.length c5] 24))).here
  clear hs3 hb3 hbb HB2 HW2 HA k0 k1 k2
  simp only
  by_cases h0 : xe = 0
  case neg =>
    have hz := HFA.out h0
    injection hz with z1 z2
    injection z2 with z2 z3
    subst z1 z2 z3
    have e1 : (xe != 0) = true := by simpa using h0
    clear HFA HAD HA2 HX
    simp only [List.length_nil] at *
    obtain ⟨j0, j1, j2⟩ := HWb.out.c3
    go_wp2_with fail
    go_ret
    exact ⟨rfl, HB3.out⟩
  subst h0
  obtain ⟨L, a, hAdd⟩ := HAD.out rfl
  have he := hAdd.eq
  rw [HX.out] at he
  injection he with e1 e2
  injection e1 with e1 e3
  injection e3 with e3 e4
  subst e1 e3 e4
  have hm1 := (Lg.may_iff _).1 hAdd.may1
  simp only at hm1
  obtain ⟨q1, q2, -, -, -, q6, -⟩ := hm1
  have hat := hAdd.at_
  have hle := hAdd.le
  have i1 : 0 ≤ i := by omega
  have i2 : i ≤ 1099511628000 := by omega
  have HA3 := Lib.hid (HA2.out xl)
  have hag := hAdd.again
  rw [hag] at HA3
  have HFL := Lib.hid (HFL0.out ⟨q1, q2⟩)
  have hfr := hAdd.front
  rw [← hfr] at HFL
  have HFA2 := Lib.hid (fun W (h : Sl W W.heap.size (.slice A3 xl.length c5) xl) => from_any xb xt (xb + 1) (i - xb) (by omega) _ xl W W.heap.size (Nat.le_refl _) h)
  have HHAS := Lib.hid (fun (x : Nat) => @Lg.Added.has xb xt i u l m xl a hAdd x)
  have HT := Lib.hid (fun (x : Nat) (hx : x < 100) W (h : Sl W W.heap.size (.slice A3 xl.length c5) xl) => term_any xb xt (i + 1 + (x : Int)) (by omega) _ xl W W.heap.size (Nat.le_refl _) h)
  clear HA2 HFL0 HFA HAD HX hAdd hag hfr hat hle e2
  generalize Lg.from_ (xb, xt, xl) (xb + 1) (i - xb) = FL at *
  have HFA := HFA2
  clear HFA2
  obtain ⟨j0, j1, j2⟩ := HWb.out.c3
  generalize hxl : xl.length = p at *
  have HXL := Lib.hid hxl
  clear hxl
  go_wp2_with fail
  with_reducible refine (HA3.out _ HB3.out _ HS3.out).mono ?_
  rintro e w4 ⟨v4, rfl, hs4, hb4⟩
  obtain ⟨A4, c6, rfl, -, -⟩ := hs4.form
  simp only at hs4 ⊢
  have hbb := HB3.out.trans (hb4.mono HB3.out.size)
  have HB4 := Lib.hid (hbb.alloc hbb.size (.cells #[.int .i64 xb, .int .i64 xt, .slice A4 xl.length c6] 24))
  have HWa4 := Lib.hid ((HWa.out.below hb4 HWa.out.lt).alloc (.cells #[.int .i64 xb, .int .i64 xt, .slice A4 xl.length c6] 24))
  have HWb4 := Lib.hid ((HWb.out.below hb4 HWb.out.lt).alloc (.cells #[.int .i64 xb, .int .i64 xt, .slice A4 xl.length c6] 24))
  have HWc4 := Lib.hid (Whole.new w4 24 #[.int .i64 xb, .int .i64 xt, .slice A4 xl.length c6])
  have HS34 := Lib.hid ((HS3.out.below hb4).mono hb4.size |>.below ((Below.refl _ _).alloc (Nat.le_refl _) (.cells #[.int .i64 xb, .int .i64 xt, .slice A4 xl.length c6] 24))).here
  have HS4 := Lib.hid (hs4.here.below ((Below.refl _ _).alloc (Nat.le_refl _) (.cells #[.int .i64 xb, .int .i64 xt, .slice A4 xl.length c6] 24))).here
  have HG := Lib.hid (logs_any xb xt _ _ xl _ _ (Nat.le_refl _) HS34.out HS4.out)
  clear hs4 hb4 hbb HB3 HWa HWb HS3 HS4 HA3 j0 j1 j2
  obtain ⟨k0, k1, k2⟩ := HWb4.out.c3
  obtain ⟨j0, j1, j2⟩ := HWc4.out.c3
  rw [HXL.out] at HB4 HWa4 HWb4 HWc4 HS34 HG k0 k1 k2 j0 j1 j2 ⊢
  go_wp2_with fail
  with_reducible refine HG.out.mono ?_
  rintro e w5 ⟨rfl, hb5⟩
  have HB5 := Lib.hid (HB4.out.trans (hb5.mono HB4.out.size))
  have HW5 := Lib.hid (HWa4.out.below hb5 HWa4.out.lt)
  have HG5 := Lib.hid (HWb4.out.below hb5 HWb4.out.lt)
  have HS5 := Lib.hid ((HS34.out.below hb5).mono hb5.size)
  clear hb5 HB4 HWa4 HWb4 HWc4 HS34 HG k0 k1 k2 j0 j1 j2
  generalize w3.heap.size = g at *
  go_wp2_with fail
  go_loopw [16] (fun x wr => ∃ k : Nat, k ≤ n2 ∧ x = .int .i64 (k : Int) ∧ Below w5.heap.size w5 wr) (fun x _ => n2 - (intOf x).toNat)
  case atStart => exact ⟨0, Nat.zero_le _, rfl, Below.refl _ _⟩
  case round =>
    obtain ⟨k, hk, rfl, hb⟩ := hrel
    have HBw := Lib.hid hb
    have HBr := Lib.hid (HB5.out.trans (hb.mono HB5.out.size))
    have HWr := Lib.hid (HW5.out.below hb HW5.out.lt)
    have HGr := Lib.hid (HG5.out.below hb HG5.out.lt)
    have HSr := Lib.hid ((HS5.out.below hb).mono hb.size)
    clear hb
    by_cases hlt : k < n2
    · have hxm : k < m.length := by rw [HN2.out]; exact hlt
      have hh := HHAS.out k hxm
      have ht := HT.out k (by omega) wr HSr.out
      rw [hh, Lg.tm_eq _ _ hxm] at ht
      obtain ⟨b2, o2, rfl, -⟩ := (HM.out wr HBr.out).term k hxm
      have hme := Lib.hid (fun W (h : Below w.heap.size w W) => (HM.out W h).term k hxm)
      have HT2 := Lib.hid ht
      clear hh ht
      generalize (m[k]'hxm).1 = y at *
      clear hxm
      obtain ⟨j0, j1, j2⟩ := HGr.out.c3
      have x1 : (0 : Int) ≤ (k : Int) := by omega
      go_wp2_with fail
      with_reducible refine HT2.out.mono ?_
      rintro e w6 ⟨rfl, hb6⟩
      obtain ⟨b3, o3, e3, g0⟩ := hme.out w6 (HBr.out.trans (hb6.mono HBr.out.size))
      injection e3 with e3
      injection e3 with e3 e4
      subst e3 e4
      have HB6 := Lib.hid (HBw.out.trans (hb6.mono HBw.out.size))
      have ey : (y != y) = false := by simp
      clear hb6 hme HT2 j0 j1 j2
      simp only
      go_wp2_with fail
      go_roundw
      case rel => exact ⟨k + 1, by omega, by go_num, HB6.out⟩
      case measure => simp [intOf]; omega
    · clear HHAS HT HM
      have hwr1 : IntKind.i64.wrap (xb + 1) = xb + 1 := by rw [IntKind.wrap_i64]; omega
      have hwr2 : IntKind.i64.wrap (i - xb) = i - xb := by rw [IntKind.wrap_i64]; omega
      go_wp2_with fail
      have HSd := Lib.hid (show Sl wr.drew wr.drew.heap.size (.slice A3 p c5) xl from HSr.out.drew)
      refine b_start wr.heap.size (by kernel_rfl) ?_
      refine b_take (i := 0) (v := ?_) rfl (by kernel_rfl) (by kernel_rfl) (by kernel_rfl) (fun _ _ _ h => h) (by rfl) ?_ ?_
      rotate_left
      · intro W hW
        obtain ⟨j0, j1, j2⟩ := ((show Whole wr.drew _ _ _ from HGr.out).below hW HGr.out.lt).c3
        go_simp
        first | done | rfl
      simp only [Act.put, List.setIfInBounds_toArray, List.set_cons_zero, List.set_cons_succ, List.getElem_toArray, List.getElem_cons_zero]
      refine b_take (i := 1) (v := ?_) rfl (by kernel_rfl) (by kernel_rfl) (by kernel_rfl) (fun _ _ _ h => h) (by rfl) ?_ ?_
      rotate_left
      · intro W hW
        go_simp
        first | done | rfl
      simp only [Act.put, List.setIfInBounds_toArray, List.set_cons_zero, List.set_cons_succ, List.getElem_toArray, List.getElem_cons_zero, List.getElem_cons_succ]
      refine b_take (i := 2) (v := ?_) rfl (by kernel_rfl) (by kernel_rfl) (by kernel_rfl) (fun _ _ _ h => h) (by rfl) ?_ ?_
      rotate_left
      · intro W hW
        obtain ⟨k0, k1, k2⟩ := ((show Whole wr.drew _ _ _ from HWr.out).below hW HWr.out.lt).c3
        go_simp
        first | done | rfl
      simp only [Act.put, List.setIfInBounds_toArray, List.set_cons_zero, List.set_cons_succ, List.getElem_toArray, List.getElem_cons_zero, List.getElem_cons_succ]
      refine b_take (i := 3) (v := ?_) rfl (by kernel_rfl) (by kernel_rfl) (by kernel_rfl) (fun _ _ _ h => h) (by rfl) ?_ ?_
      rotate_left
      · intro W hW
        go_simp
        first | done | rfl
      simp only [Act.put, List.setIfInBounds_toArray, List.set_cons_zero, List.set_cons_succ, List.getElem_toArray, List.getElem_cons_zero, List.getElem_cons_succ]
      refine b_take (i := 4) (v := ?_) rfl (by kernel_rfl) (by kernel_rfl) (by kernel_rfl) (fun _ _ _ h => h) (by rfl) ?_ ?_
      rotate_left
      · intro W hW
        go_simp
        first | done | rfl
      simp only [Act.put, List.setIfInBounds_toArray, List.set_cons_zero, List.set_cons_succ, List.getElem_toArray, List.getElem_cons_zero, List.getElem_cons_succ]
      refine b_take (i := 5) (v := ?_) rfl (by kernel_rfl) (by kernel_rfl) (by kernel_rfl) (fun _ _ _ h => h) (by rfl) ?_ ?_
      rotate_left
      · intro W hW
        go_simp
        first | done | rfl
      simp only [Act.put, List.setIfInBounds_toArray, List.set_cons_zero, List.set_cons_succ, List.getElem_toArray, List.getElem_cons_zero, List.getElem_cons_succ]
      refine b_take (i := 6) (v := ?_) rfl (by kernel_rfl) (by kernel_rfl) (by kernel_rfl) (fun _ _ _ h => h) (by rfl) ?_ ?_
      rotate_left
      · intro W hW
        obtain ⟨k0, k1, k2⟩ := ((show Whole wr.drew _ _ _ from HWr.out).below hW HWr.out.lt).c3
        go_simp
        first | done | rfl
      simp only [Act.put, List.setIfInBounds_toArray, List.set_cons_zero, List.set_cons_succ, List.getElem_toArray, List.getElem_cons_zero, List.getElem_cons_succ]
      refine b_take (i := 7) (v := ?_) rfl (by kernel_rfl) (by kernel_rfl) (by kernel_rfl) (fun _ _ _ h => h) (by rfl) ?_ ?_
      rotate_left
      · intro W hW
        go_simp
        first | done | rfl
      simp only [Act.put, List.setIfInBounds_toArray, List.set_cons_zero, List.set_cons_succ, List.getElem_toArray, List.getElem_cons_zero, List.getElem_cons_succ]
      refine b_take (i := 9) (v := ?_) rfl (by kernel_rfl) (by kernel_rfl) (by kernel_rfl) (fun _ _ _ h => h) (by rfl) ?_ ?_
      rotate_left
      · intro W hW
        obtain ⟨k0, k1, k2⟩ := ((show Whole wr.drew _ _ _ from HWr.out).below hW HWr.out.lt).c3
        go_simp
        first | done | rfl
      simp only [Act.put, List.setIfInBounds_toArray, List.set_cons_zero, List.set_cons_succ, List.getElem_toArray, List.getElem_cons_zero, List.getElem_cons_succ]
      refine b_take (i := 10) (v := ?_) rfl (by kernel_rfl) (by kernel_rfl) (by kernel_rfl) (fun _ _ _ h => h) (by rfl) ?_ ?_
      rotate_left
      · intro W hW
        go_simp
        first | done | rfl
      simp only [Act.put, List.setIfInBounds_toArray, List.set_cons_zero, List.set_cons_succ, List.getElem_toArray, List.getElem_cons_zero, List.getElem_cons_succ]
      refine b_take (i := 11) (v := ?_) rfl (by kernel_rfl) (by kernel_rfl) (by kernel_rfl) (fun _ _ _ h => h) (by rfl) ?_ ?_
      rotate_left
      · intro W hW
        obtain ⟨k0, k1, k2⟩ := ((show Whole wr.drew _ _ _ from HWr.out).below hW HWr.out.lt).c3
        go_simp
        first | done | rfl
      simp only [Act.put, List.setIfInBounds_toArray, List.set_cons_zero, List.set_cons_succ, List.getElem_toArray, List.getElem_cons_zero, List.getElem_cons_succ]
      refine b_take (i := 12) (v := ?_) rfl (by kernel_rfl) (by kernel_rfl) (by kernel_rfl) (fun _ _ _ h => h) (by rfl) ?_ ?_
      rotate_left
      · intro W hW
        go_simp
        first | done | rfl
      simp only [Act.put, List.setIfInBounds_toArray, List.set_cons_zero, List.set_cons_succ, List.getElem_toArray, List.getElem_cons_zero, List.getElem_cons_succ]
      refine b_take (i := 13) (v := ?_) rfl (by kernel_rfl) (by kernel_rfl) (by kernel_rfl) (fun _ _ _ h => h) (by rfl) ?_ ?_
      rotate_left
      · intro W hW
        go_simp
        first | done | rfl
      simp only [Act.put, List.setIfInBounds_toArray, List.set_cons_zero, List.set_cons_succ, List.getElem_toArray, List.getElem_cons_zero, List.getElem_cons_succ]
      refine b_take (i := 14) (v := ?_) rfl (by kernel_rfl) (by kernel_rfl) (by kernel_rfl) (fun _ _ _ h => h) (by rfl) ?_ ?_
      rotate_left
      · intro W hW
        go_simp
        first | done | rfl
      simp only [Act.put, List.setIfInBounds_toArray, List.set_cons_zero, List.set_cons_succ, List.getElem_toArray, List.getElem_cons_zero, List.getElem_cons_succ]
      refine b_take (i := 15) (v := ?_) rfl (by kernel_rfl) (by kernel_rfl) (by kernel_rfl) (fun _ _ _ h => h) (by rfl) ?_ ?_
      rotate_left
      · intro W hW
        obtain ⟨k0, k1, k2⟩ := ((show Whole wr.drew _ _ _ from HWr.out).below hW HWr.out.lt).c3
        go_simp
        first | done | rfl
      simp only [Act.put, List.setIfInBounds_toArray, List.set_cons_zero, List.set_cons_succ, List.getElem_toArray, List.getElem_cons_zero, List.getElem_cons_succ]
      refine b_take (i := 16) (v := ?_) rfl (by kernel_rfl) (by kernel_rfl) (by kernel_rfl) (fun _ _ _ h => h) (by rfl) ?_ ?_
      rotate_left
      · intro W hW
        go_simp
        first | done | rfl
      simp only [Act.put, List.setIfInBounds_toArray, List.set_cons_zero, List.set_cons_succ, List.getElem_toArray, List.getElem_cons_zero, List.getElem_cons_succ]
      refine b_one (i := 8) (by kernel_rfl) ?_
      refine one_call (i := 8) (f := 16) (args := ?_) rfl (by rfl) ?_ ?_
      rotate_left
      · go_simp
        first | done | rfl
      with_reducible refine (HFA.out wr.drew HSd.out).mono ?_
      rintro e w7 ⟨A7, c7, rfl, ho7, hb7⟩
      refine ⟨_, rfl, hb7, ?_⟩
      have HB7 := Lib.hid (HBr.out.drew.trans (hb7.mono HBr.out.size))
      have HS7 := Lib.hid ho7.sl
      clear ho7
      simp only [Act.put, List.setIfInBounds_toArray, List.set_cons_zero, List.set_cons_succ, List.getElem_toArray, List.getElem_cons_zero, List.getElem_cons_succ]
      refine b_one (i := 17) (by kernel_rfl) ?_
      refine one_call (i := 17) (f := 16) (args := ?_) rfl (by rfl) ?_ ?_
      rotate_left
      · go_simp
        first | done | rfl
      with_reducible refine (HFL.out _ HB7.out).mono ?_
      rintro e w8 ⟨A8, c8, rfl, ho8, hb8⟩
      refine ⟨_, rfl, hb8.mono hb7.size, ?_⟩
      have HB8 := Lib.hid (HB7.out.trans (hb8.mono HB7.out.size))
      have HS8 := Lib.hid ho8.sl
      have HS78 := Lib.hid ((HS7.out.below hb8).mono hb8.size)
      have hz8 := Nat.le_trans hb7.size hb8.size
      clear ho8 hb7 hb8 HS7 HB7
      simp only [Act.put, List.setIfInBounds_toArray, List.set_cons_zero, List.set_cons_succ, List.getElem_toArray, List.getElem_cons_zero, List.getElem_cons_succ]
      refine b_one (i := 18) (by kernel_rfl) ?_
      refine one_call (i := 18) (f := 15) (args := ?_) rfl (by rfl) ?_ ?_
      rotate_left
      · go_simp
        first | done | rfl
      with_reducible refine (same_any _ _ _ _ _ (Nat.le_refl _) HS78.out HS8.out).mono ?_
      rintro e w9 ⟨rfl, hb9⟩
      refine ⟨_, rfl, hb9.mono hz8, ?_⟩
      have HB9 := Lib.hid (HB8.out.trans (hb9.mono HB8.out.size))
      clear hb9 HB8 HS78 HS8 hz8
      simp only [Act.put, List.setIfInBounds_toArray, List.set_cons_zero, List.set_cons_succ, List.getElem_toArray, List.getElem_cons_zero, List.getElem_cons_succ]
      refine b_take (i := 19) (v := ?_) rfl (by kernel_rfl) (by kernel_rfl) (by kernel_rfl) (fun _ _ _ h => h) (by rfl) ?_ ?_
      rotate_left
      · intro W hW
        go_simp
        first | done | rfl
      simp only [Act.put, List.setIfInBounds_toArray, List.set_cons_zero, List.set_cons_succ, List.getElem_toArray, List.getElem_cons_zero, List.getElem_cons_succ]
      refine b_done (by kernel_rfl) ?_
      go_wp2_with fail
      go_ret
      exact ⟨rfl, HB9.out⟩
end Go.Proofs.Ytckcfmkpchoaeaa
