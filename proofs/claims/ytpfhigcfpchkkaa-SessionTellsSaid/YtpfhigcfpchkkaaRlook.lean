/-
  The reference's find and Look.
-/
import Derived.Test.YtpfhigcfpchkkaaRmay
namespace Go.Proofs.Ytpfhigcfpchkkaa
open Go.RowKit

set_option maxRecDepth 100000 in
theorem rfind_any (v : Value) (l : List Se) (c : Int) (w : World) (B : Nat) (hB : B ≤ w.heap.size) (hv : Sl w B v l) :
    Calls Try.prog 20 #[v, .int .i64 c] w fun e w' => e = .returned (.agg (sc (Sm.fnd l c))) ∧ Below w.heap.size w w' := by
  obtain ⟨A, cap, rfl, hc, hm⟩ := hv.form
  unfold maxLen at hm
  have hb0 : Below w.heap.size w (w.alloc (.cells #[.int .i64 0, .int .i64 0, .int .i64 0] 37)) := (Below.refl _ _).alloc (Nat.le_refl _) _
  have HW := Lib.hid (Whole.new w 37 #[.int .i64 0, .int .i64 0, .int .i64 0])
  have HB := Lib.hid hb0
  have HV := Lib.hid (fun W (h : Below w.heap.size w W) => hv.below (h.mono hB))
  have HU := Lib.hid (Sm.fu_zero l c)
  clear hv hb0
  generalize Sm.fnd l c = Y at *
  generalize hn : l.length = n at *
  have HN := Lib.hid hn
  clear hn
  go_enter Try.func20, Try.ntmps20
  go_wp2_with fail
  go_loopw [5] (fun i wr => ∃ (k : Nat), k ≤ n ∧ i = .int .i64 (k : Int) ∧ Hid (Sm.fu Y l c k) ∧ Hid (Whole wr w.heap.size 37 #[.int .i64 0, .int .i64 0, .int .i64 0]) ∧ Hid (Below w.heap.size w wr)) (fun i _ => n - (intOf i).toNat)
  case atStart => exact ⟨0, Nat.zero_le _, rfl, HU, HW, HB⟩
  case round =>
    obtain ⟨k, hk, rfl, hu, HW, HB⟩ := hrel
    obtain ⟨k0, k1, k2⟩ := HW.out.c3
    obtain ⟨f0, f1, f2⟩ := HW.out.f3
    by_cases hlt : k < n
    · have hkl : k < l.length := by rw [HN.out]; exact hlt
      obtain ⟨b1, o1, rfl, -, p0, p1, p2, -⟩ := (HV.out _ HB.out).sess k (by rw [HN.out]; exact hlt)
      have hhit := Lib.hid (Sm.fu_hit hu.out hkl)
      have hmiss := Lib.hid (Sm.fu_miss hu.out hkl)
      clear hu
      generalize l[k] = y at *
      obtain ⟨y1, y2, y3⟩ := y
      dsimp only at *
      clear hkl
      have i1 : (0 : Int) ≤ (k : Int) := by omega
      have i2 : (k : Int) < (n : Int) := by omega
      by_cases he : y1 = c
      · obtain rfl := hhit.out he
        have d1 : (y1 == c) = true := by simpa using he
        clear hhit hmiss he
        go_wp2_with fail
        refine bodyPost_ret (results_sess rfl rfl (HW.out.set3 _ _ _)) rfl ?_
        exact ⟨rfl, below_set3 HB.out (Nat.le_refl _) _ _ _⟩
      · have d1 : (y1 == c) = false := by simpa using he
        have HM := Lib.hid (hmiss.out he)
        clear hhit hmiss he
        go_wp2_with fail
        go_roundw
        case rel => exact ⟨k + 1, by omega, by go_num, HM, HW, HB⟩
        case measure => simp [intOf]; omega
    · obtain rfl := Sm.fu_end hu.out (by rw [HN.out]; omega)
      go_wp2_with fail
      refine bodyPost_ret (results_sess rfl rfl (HW.out.set3 _ _ _)) rfl ?_
      exact ⟨rfl, below_set3 HB.out (Nat.le_refl _) _ _ _⟩

set_option maxRecDepth 100000 in
set_option maxHeartbeats 800000 in
theorem rlook_any (v : Value) (l : List Se) (c q : Int) (w : World) (B : Nat) (hB : B ≤ w.heap.size) (hv : Sl w B v l) :
    Calls Try.prog 10 #[v, .int .i64 c, .int .i64 q] w fun e w' => e = .returned (.tuple #[.int .i64 (Sm.look l c q).1, .bool (Sm.look l c q).2.1, .int .i64 (Sm.look l c q).2.2]) ∧ Below w.heap.size w w' := by
  obtain ⟨A, cap, rfl, hc, hm⟩ := hv.form
  unfold maxLen at hm
  have HM := Lib.hid (rmay_any _ l w B hB hv)
  have C1 := Lib.hid (rok_any c q)
  have HL := Lib.hid (fun W (hb : Below w.heap.size w W) => rfind_any _ l c W B (Nat.le_trans hB hb.size) (hv.below (hb.mono hB)))
  have hbad := Lib.hid (@Sm.look_bad l c q)
  have hgood := Lib.hid (@Sm.look_good l c q)
  have hrange := Lib.hid (fun h : Sm.may l = true => Sm.fnd_range (Sm.may_rise h) c)
  have hqr := Lib.hid (@Sm.oks_iff q)
  clear hv
  generalize Sm.look l c q = X at *
  generalize Sm.fnd l c = Y at *
  generalize Sm.may l = r1 at *
  generalize Sm.okc c = r2 at *
  generalize Sm.oks q = r3 at *
  generalize Sm.has l c = hs at *
  generalize l.length = n at *
  obtain ⟨y1, y2, y3⟩ := Y
  dsimp only at *
  go_enter Try.func10, Try.ntmps10
  go_wp2_with fail
  with_reducible refine HM.out.mono ?_
  rintro e w2 ⟨rfl, hb2⟩
  have HB2 := Lib.hid hb2
  clear hb2 HM
  go_wp2_with fail
  with_reducible refine (C1.out _).mono ?_
  rintro e w3 ⟨rfl, rfl⟩
  rcases r1 with _ | _
  · obtain rfl := hbad.out (by simp)
    go_wp2_with fail
    go_ret3
    exact ⟨rfl, HB2.out⟩
  rcases r2 with _ | _
  · obtain rfl := hbad.out (by simp)
    go_wp2_with fail
    go_ret3
    exact ⟨rfl, HB2.out⟩
  rcases r3 with _ | _
  · obtain rfl := hbad.out (by simp)
    go_wp2_with fail
    go_ret3
    exact ⟨rfl, HB2.out⟩
  have HX := Lib.hid (hgood.out rfl)
  obtain ⟨z1, z2, -⟩ := hrange.out rfl
  obtain ⟨z3, z4⟩ := hqr.out.1 rfl
  clear hbad hgood hrange hqr C1
  go_wp2_with fail
  with_reducible refine (HL.out _ HB2.out).mono ?_
  rintro e w3 ⟨rfl, hb3⟩
  have hbb := HB2.out.trans (hb3.mono HB2.out.size)
  have HB3 := Lib.hid (hbb.alloc hbb.size (.cells #[.int .i64 y1, .int .i64 y2, .int .i64 y3] 37))
  clear hb3 hbb HL HB2
  by_cases c1 : q < y2
  · obtain rfl : X = (0, false, 9) := HX.out.trans (if_pos c1)
    go_wp2_with fail
    go_ret3
    exact ⟨rfl, HB3.out⟩
  by_cases c2 : q = y2
  · subst c2
    obtain rfl : X = (y3, true, 0) := HX.out.trans ((if_neg c1).trans (if_pos rfl))
    have e1 : (q == q) = true := by simp
    go_wp2_with fail
    go_ret3
    exact ⟨rfl, HB3.out⟩
  have e1 : (q == y2) = false := by simpa using c2
  by_cases c3 : y2 + 1 < q
  · obtain rfl : X = (0, false, 10) := HX.out.trans ((if_neg c1).trans ((if_neg c2).trans (if_pos c3)))
    go_wp2_with fail
    go_ret3
    exact ⟨rfl, HB3.out⟩
  · obtain rfl : X = (0, false, 0) := HX.out.trans ((if_neg c1).trans ((if_neg c2).trans (if_neg c3)))
    go_wp2_with fail
    go_ret3
    exact ⟨rfl, HB3.out⟩
end Go.Proofs.Ytpfhigcfpchkkaa
