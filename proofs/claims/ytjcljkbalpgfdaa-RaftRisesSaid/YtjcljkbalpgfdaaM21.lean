/-
  Parts that the statement rests on, joined: Addo.
-/
import Derived.Test.YtjcljkbalpgfdaaM2
import Derived.Test.YtjcljkbalpgfdaaM6
import Derived.Test.YtjcljkbalpgfdaaM8
import Derived.Test.YtjcljkbalpgfdaaM9
/-
  What Add answers: a log of its own.
-/





namespace Go.Proofs.Ytjcljkbalpgfdaa
open Go.RowKit

def AddOwn (w : World) (x : Lg.L × Int) (e : Ending) (w' : World) : Prop :=
  ∃ v', e = .returned (.tuple #[lv x.1.1 x.1.2.1 v', .int .i64 x.2]) ∧ Own w' w.heap.size 55 v' x.1.2.2 ∧ Below w.heap.size w w'

set_option maxRecDepth 100000 in
theorem addo_any (b t i u : Int) (hi : -9223372036854775808 ≤ i ∧ i ≤ 9223372036854775807) (v v2 : Value) (l m : List E) (hml : m.length ≤ 100000) (w : World) (B : Nat) (hB : B ≤ w.heap.size) (hv : Sl w B v l) (hv2 : Sl w B v2 m) :
    Calls Try.prog 49 #[lv b t v, .int .i64 i, .int .i64 u, v2] w (AddOwn w (Lg.add (b, t, l) i u m)) := by
  obtain ⟨A, c, rfl, hc, hm⟩ := hv.form
  obtain ⟨A2, c2, rfl, hc2, hm2⟩ := hv2.form
  have hm' := hm
  have hm2' := hm2
  unfold maxLen at hm' hm2'
  have hb0 : Below w.heap.size w (w.alloc (.cells #[.int .i64 b, .int .i64 t, .slice A l.length c] 26)) := (Below.refl _ _).alloc (Nat.le_refl _) _
  have hb1 : Below w.heap.size w ((w.alloc (.cells #[.int .i64 b, .int .i64 t, .slice A l.length c] 26)).alloc (.cells #[.int .i64 0, .int .i64 0, .slice none 0 0] 26)) := hb0.alloc hb0.size _
  have HV := Lib.hid (fun W (h : Below w.heap.size w W) => hv.below (h.mono hB))
  have HV2 := Lib.hid (fun W (h : Below w.heap.size w W) => hv2.below (h.mono hB))
  have HY := Lib.hid (why_any b t i u hi _ _ l m _ B (Nat.le_trans hB hb1.size) (HV.out _ hb1) (HV2.out _ hb1))
  have hW := Lib.hid ((Whole.new w 26 #[.int .i64 b, .int .i64 t, .slice A l.length c]).alloc (.cells #[.int .i64 0, .int .i64 0, .slice none 0 0] 26))
  have hW2 := Lib.hid (Whole.new (w.alloc (.cells #[.int .i64 b, .int .i64 t, .slice A l.length c] 26)) 26 #[.int .i64 0, .int .i64 0, .slice none 0 0])
  have HB := Lib.hid hb1
  have hno := Lib.hid (@add_no (b, t, l) i u m)
  have hyes := Lib.hid (@add_yes (b, t, l) i u m)
  have hzero := Lib.hid (@why_zero (b, t, l) i u m)
  clear hv hv2 hb0 hb1
  generalize Lg.add (b, t, l) i u m = X at *
  generalize Lg.why (b, t, l) i u m = R at *
  go_enter Try.func49, Try.ntmps49
  go_wp2_with fail
  with_reducible refine HY.out.mono ?_
  rintro e w2 ⟨rfl, hb2⟩
  have hbb := HB.out.trans (hb2.mono HB.out.size)
  have HW1 := Lib.hid (hW.out.below hb2 hW.out.lt)
  have hw2 := hW2.out.below hb2 hW2.out.lt
  rw [World.size_alloc] at hw2
  have HW2 := Lib.hid hw2
  have HB2 := Lib.hid hbb
  clear hw2 hbb hb2 HY hW hW2 HB
  by_cases hr : R = 0
  · have hX := hyes.out hr
    have hz := hzero.out hr
    subst hr
    obtain ⟨hmay, -, z1, z2, -⟩ := hz
    rw [Lg.may_iff] at hmay
    obtain ⟨q1, q2, -, -, -, q6, -⟩ := hmay
    obtain ⟨k, rfl⟩ := Int.eq_ofNat_of_zero_le q1
    obtain ⟨j, rfl⟩ := Int.eq_ofNat_of_zero_le (show 0 ≤ i by omega)
    rw [show ((j : Int) - (k : Int)).toNat = j - k by omega] at hX
    clear hno hyes hzero
    have hs1 := fun W => run_from A l.length c (j - k) ((j : Int) - (k : Int)) (by omega) (by omega) W
    have hd1 := fun W (h : Below w.heap.size w W) => (HV.out W h).drop (j - k) (by omega)
    have hlen : (l.drop (j - k)).length = l.length - (j - k) := List.length_drop
    rw [show Rep.sz E = 7 from rfl] at hd1
    have hK := fun W (h : Below w.heap.size w W) => known_any _ _ (l.drop (j - k)) m W B (Nat.le_trans hB h.size) (hd1 W h) (HV2.out W h)
    generalize (if c = j - k then A else A.map (·.add ((j - k) * 7))) = A3 at *
    have HK := Lib.hid hK
    clear hd1 hK
    have hkl := Lg.known_le (l.drop (j - k)) m
    generalize Lg.known (l.drop (j - k)) m = q at *
    obtain ⟨k0, k1, k2⟩ := HW1.out.c3
    obtain ⟨f0, f1, f2⟩ := HW2.out.f3
    rw [hlen] at hkl
    obtain ⟨hkl1, hkl2⟩ := hkl
    have HX := Lib.hid hX
    clear hX hlen
    have HLL := Lib.hid (show l.length = l.length from rfl)
    generalize hn : l.length = n at *
    generalize hn2 : m.length = n2 at *
    have HN := Lib.hid hn
    have HN2 := Lib.hid hn2
    clear hn hn2 HLL
    go_wp2_with fail
    with_reducible refine (HK.out _ HB2.out).mono ?_
    rintro e w3 ⟨rfl, hb3⟩
    have HW13 := Lib.hid (HW1.out.below hb3 HW1.out.lt)
    have HW23 := Lib.hid (HW2.out.below hb3 HW2.out.lt)
    have HB3 := Lib.hid (HB2.out.trans (hb3.mono HB2.out.size))
    have hz3 := HB3.out.size
    have hz4 := HW23.out.lt
    clear hb3 HW1 HW2 HB2 k0 k1 k2 f0 f1 f2 hs1
    obtain ⟨k0, k1, k2⟩ := HW13.out.c3
    by_cases hq : q = n2
    · subst hq
      obtain rfl : X = (((k : Int), t, l), 0) := by rw [HX.out, put_all HN2.out.symm]
      have e1 : ((q : Int) == (q : Int)) = true := by simp
      have HC := Lib.hid (clone_any _ l (by rw [HN.out]; omega) w3 B (Nat.le_trans hB hz3) (HV.out w3 HB3.out))
      clear HK HX HV HV2
      go_wp2_with fail
      with_reducible refine HC.out.mono ?_
      rintro e w4 ⟨A4, c4, rfl, ho4, hb4⟩
      rw [HN.out] at ho4 ⊢
      have hw1 := HW13.out.below hb4 HW13.out.lt
      have hw2 := HW23.out.below hb4 HW23.out.lt
      have HB4 := Lib.hid (HB3.out.trans (hb4.mono hz3))
      have HO4 := Lib.hid ho4
      have HW2 := Lib.hid hw2
      obtain ⟨k0, k1, k2⟩ := hw1.c3
      obtain ⟨-, -, f2⟩ := hw1.f3
      obtain ⟨f3, f4, f5⟩ := hw2.f3
      obtain ⟨k3, k4, k5⟩ := hw2.c3
      clear ho4 hb4 hw1 hw2 HC HW13 HW23 HB3
      go_wp2_with fail
      refine bodyPost_ret (results_log2 rfl rfl ((HW2.out.far (p := ⟨w.heap.size, 2, none⟩) (by simp) _).set3 _ _ _)) rfl ?_
      exact ⟨_, rfl, Own.down ((((HO4.out.set (p := ⟨w.heap.size, 2, none⟩) (by simp; omega) _).set (p := ⟨w.heap.size + 1, 0, none⟩) (by simp; omega) _).set (p := ⟨w.heap.size + 1, 1, none⟩) (by simp; omega) _).set (p := ⟨w.heap.size + 1, 2, none⟩) (by simp; omega) _)  (by first | exact hz3 | exact hz), below_set3 (HB4.out.setCell (Nat.le_refl _) _) (by omega) _ _ _⟩
    · have e1 : ((q : Int) == (n2 : Int)) = false := by simp; omega
      have hs2 := fun W => run_upto A n c (j - k + q) ((j : Int) - (k : Int) + (q : Int)) (by omega) (by omega) W
      have hs3 := fun W => run_from A2 n2 c2 q (q : Int) rfl (by omega) W
      have hd2 := Lib.hid (fun W (h : Below w.heap.size w W) => (HV.out W h).upto (j - k + q) (by omega))
      have hd3 := Lib.hid (fun W (h : Below w.heap.size w W) => (HV2.out W h).drop q hkl2)
      rw [show Rep.sz E = 7 from rfl] at hd3
      have hl2 : (l.take (j - k + q)).length = j - k + q := by rw [List.length_take, HN.out]; omega
      have hl3 : (m.drop q).length = n2 - q := by rw [List.length_drop, HN2.out]
      have HL2 := Lib.hid hl2
      have HL3 := Lib.hid hl3
      clear hl2 hl3 HK
      generalize (if c = 0 then A else A.map (·.add (0 * 7))) = A4 at *
      generalize (if c2 = q then A2 else A2.map (·.add (q * 7))) = A5 at *
      by_cases h64 : 64 < j - k + n2
      · obtain rfl : X = (Lg.zero, 7) := by rw [HX.out, put_full (by rw [HN2.out]; exact hq) (by rw [HN2.out]; exact h64)]
        obtain ⟨f3, f4, f5⟩ := HW23.out.f3
        obtain ⟨k3, k4, k5⟩ := HW23.out.c3
        go_wp2_with fail
        go_quiet (fail)
        go_wp2_with fail
        have hW := HW23.out.drewN nq
        refine bodyPost_ret (results_log2 rfl rfl (hW.set3 _ _ _)) rfl ?_
        exact ⟨_, rfl, Own.nil _ _ _, below_set3 (below_drewN HB3.out nq) (by omega) _ _ _⟩
      · obtain rfl : X = (((k : Int), t, l.take (j - k + q) ++ m.drop q), 0) := by rw [HX.out, put_some (by rw [HN2.out]; exact hq) (by rw [HN2.out]; exact h64)]
        have HC := Lib.hid (fun x => clone_any _ (l.take (j - k + q)) (by rw [HL2.out]; omega) (w3.drewN x) B (Nat.le_trans hB hz3) (hd2.out _ (below_drewN HB3.out x)))
        have HD3 := Lib.hid (fun W h => hd3.out W h)
        clear hd2 hd3 HX HV HV2
        generalize l.take (j - k + q) = L1 at *
        generalize m.drop q = L2 at *
        go_wp2_with fail
        go_quiet (fail)
        go_wp2_with fail
        with_reducible refine (HC.out _).mono ?_
        rintro e w4 ⟨A6, c6, rfl, ho4, hb4⟩
        rw [HL2.out] at ho4 ⊢
        have hbb := below_drewN HB3.out nq
        have hw1 := (HW13.out.drewN nq).below hb4 HW13.out.lt
        have hw2 := (HW23.out.drewN nq).below hb4 HW23.out.lt
        have HB4 := Lib.hid (hbb.trans (hb4.mono hz3))
        have HO4 := Lib.hid ho4
        have HS5 := Lib.hid (HD3.out w4 HB4.out)
        have HW1 := Lib.hid hw1
        have HW2 := Lib.hid hw2
        have hz5 : w3.heap.size ≤ w4.heap.size := hb4.size
        obtain ⟨k0, k1, k2⟩ := hw1.c3
        obtain ⟨-, -, f2⟩ := hw1.f3
        obtain ⟨f3, f4, f5⟩ := hw2.f3
        obtain ⟨k3, k4, k5⟩ := hw2.c3
        clear ho4 hb4 hw1 hw2 hbb HC HW13 HW23 HB3 HD3
        go_wp2_with (at_builtin; refine wpList_append_sl rfl (.tmp 60) (.tmp 61) rfl rowE w3.heap.size _ L1 rfl HO4.out B _ L2 rfl HS5.out (by rw [HL2.out, HL3.out]; unfold maxLen; omega) (by rw [HL2.out, HL3.out]; omega) hz5 ?_; intro v7 w7 hown7 hg7 hat7; have hb7 := below_of_own (Below.refl w3.heap.size w4) HO4.out hg7 hz5; have hw1 := HW1.out.below hb7 (Nat.lt_of_succ_lt hz4); have hw2 := HW2.out.below hb7 hz4; obtain ⟨k0, k1, k2⟩ := hw1.c3; obtain ⟨-, -, f2⟩ := hw1.f3; obtain ⟨f3, f4, f5⟩ := hw2.f3; obtain ⟨k3, k4, k5⟩ := hw2.c3; have HB7 := Lib.hid (HB4.out.trans (hb7.mono hz3)); have HW7 := Lib.hid hw2; obtain ⟨A7, c7, hv7, -, -⟩ := hown7.sl.form; subst hv7; rw [List.length_append] at hown7; have HO7 := Lib.hid hown7; clear hown7 hg7 hat7 hb7 hw1 hw2)
        refine bodyPost_ret (results_log2 rfl rfl ((HW7.out.far (p := ⟨w.heap.size, 2, none⟩) (by simp) _).set3 _ _ _)) rfl ?_
        exact ⟨_, rfl, Own.down ((((HO7.out.set (p := ⟨w.heap.size, 2, none⟩) (by simp; omega) _).set (p := ⟨w.heap.size + 1, 0, none⟩) (by simp; omega) _).set (p := ⟨w.heap.size + 1, 1, none⟩) (by simp; omega) _).set (p := ⟨w.heap.size + 1, 2, none⟩) (by simp; omega) _)  (by first | exact hz3 | exact hz), below_set3 (HB7.out.setCell (Nat.le_refl _) _) (by omega) _ _ _⟩
  · have hX := hno.out hr
    subst hX
    clear hno hyes hzero HW1
    have e1 : (R != 0) = true := by simpa using hr
    obtain ⟨f0, f1, f2⟩ := HW2.out.f3
    obtain ⟨k0, k1, k2⟩ := HW2.out.c3
    go_wp2_with fail
    refine bodyPost_ret (results_log2 rfl rfl (HW2.out.set3 _ _ _)) rfl ?_
    exact ⟨_, rfl, Own.nil _ _ _, below_set3 HB2.out (by omega) _ _ _⟩
end Go.Proofs.Ytjcljkbalpgfdaa
