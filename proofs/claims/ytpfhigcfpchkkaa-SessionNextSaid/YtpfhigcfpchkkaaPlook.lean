/-
  last and Look: a client's session, and what was answered.
-/
import Derived.Test.YtpfhigcfpchkkaaPmay
import Derived.Test.YtpfhigcfpchkkaaPfind
namespace Go.Proofs.Ytpfhigcfpchkkaa
open Go.RowKit

set_option maxRecDepth 100000 in
theorem last_any (v : Value) (l : List Se) (m : Int) (hr : Sm.rise m l = true) (hlen : l.length ≤ 100000) (c : Int) (w : World) (B : Nat) (hB : B ≤ w.heap.size) (hv : Sl w B v l) :
    Calls Try.prog 18 #[v, .int .i64 c] w fun e w' => e = .returned (.agg (sc (Sm.fnd l c))) ∧ Below w.heap.size w w' := by
  obtain ⟨A, cap, rfl, hc, hm⟩ := hv.form
  unfold maxLen at hm
  have hb0 : Below w.heap.size w (w.alloc (.cells #[.int .i64 0, .int .i64 0, .int .i64 0] 37)) := (Below.refl _ _).alloc (Nat.le_refl _) _
  have HW := Lib.hid (Whole.new w 37 #[.int .i64 0, .int .i64 0, .int .i64 0])
  have HS := Lib.hid (find_any _ l m hr hlen c _ B (Nat.le_trans hB hb0.size) (hv.below (hb0.mono hB)))
  have HB := Lib.hid hb0
  have HV := Lib.hid (fun W (h : Below w.heap.size w W) => hv.below (h.mono hB))
  obtain ⟨hh, hf, hn⟩ := Sm.has_pos hr c
  clear hv hb0 hr
  by_cases hp : Sm.has l c = true
  · rw [hp] at hh HS
    obtain ⟨h1, h2⟩ := of_decide_eq_true hh.symm
    have e := hf h1 h2
    have hcl := Lib.hid (fun W (h : Below w.heap.size w W) => (HV.out W h).sess _ h1)
    rw [e]
    clear hh hf hn e h2 HV hp
    generalize l[Sm.pos l c] = y at *
    generalize Sm.pos l c = p at *
    generalize l.length = n at *
    obtain ⟨y1, y2, y3⟩ := y
    dsimp only at hcl
    have i1 : (0 : Int) ≤ (p : Int) := by omega
    have i2 : (p : Int) < (n : Int) := by omega
    go_enter Try.func18, Try.ntmps18
    go_wp2_with fail
    with_reducible refine HS.out.mono ?_
    rintro e w2 ⟨rfl, hb2⟩
    have hbb := HB.out.trans (hb2.mono HB.out.size)
    have hw2 := HW.out.below hb2 HW.out.lt
    obtain ⟨b1, o1, rfl, -, p0, p1, p2, -⟩ := hcl.out w2 hbb
    obtain ⟨k0, k1, k2⟩ := hw2.c3
    obtain ⟨f0, f1, f2⟩ := hw2.f3
    have HW2 := Lib.hid hw2
    have HB2 := Lib.hid hbb
    clear hw2 hbb hb2 HW HB HS hcl
    go_wp2_with fail
    refine bodyPost_ret (results_sess rfl rfl (HW2.out.set3 _ _ _)) rfl ?_
    exact ⟨rfl, below_set3 HB2.out (Nat.le_refl _) _ _ _⟩
  · have hp : Sm.has l c = false := by simpa using hp
    rw [hn hp]
    rw [hp] at HS
    clear hh hf hn HV hp
    generalize Sm.pos l c = p at *
    generalize l.length = n at *
    go_enter Try.func18, Try.ntmps18
    go_wp2_with fail
    with_reducible refine HS.out.mono ?_
    rintro e w2 ⟨rfl, hb2⟩
    have hbb := HB.out.trans (hb2.mono HB.out.size)
    have hw2 := HW.out.below hb2 HW.out.lt
    obtain ⟨k0, k1, k2⟩ := hw2.c3
    obtain ⟨f0, f1, f2⟩ := hw2.f3
    have HW2 := Lib.hid hw2
    have HB2 := Lib.hid hbb
    clear hw2 hbb hb2 HW HB HS
    go_wp2_with fail
    refine bodyPost_ret (results_sess rfl rfl (HW2.out.set3 _ _ _)) rfl ?_
    exact ⟨rfl, below_set3 HB2.out (Nat.le_refl _) _ _ _⟩

theorem ret_look {x y : Int × Bool × Int} (h : x = y) : Ending.returned (.tuple #[.int .i64 x.1, .bool x.2.1, .int .i64 x.2.2]) = .returned (.tuple #[.int .i64 y.1, .bool y.2.1, .int .i64 y.2.2]) := by rw [h]

set_option maxRecDepth 100000 in
set_option maxHeartbeats 800000 in
theorem look_any (v : Value) (l : List Se) (c q : Int) (w : World) (B : Nat) (hB : B ≤ w.heap.size) (hv : Sl w B v l) :
    Calls Try.prog 9 #[v, .int .i64 c, .int .i64 q] w fun e w' => e = .returned (.tuple #[.int .i64 (Sm.look l c q).1, .bool (Sm.look l c q).2.1, .int .i64 (Sm.look l c q).2.2]) ∧ Below w.heap.size w w' := by
  obtain ⟨A, cap, rfl, hc, hm⟩ := hv.form
  unfold maxLen at hm
  have HM := Lib.hid (may_any _ l w B hB hv)
  have C1 := Lib.hid (client_any c)
  have C2 := Lib.hid (seq_any q)
  have HL := Lib.hid (fun (h : Sm.may l = true) W (hb : Below w.heap.size w W) => last_any _ l 0 (Sm.may_rise h) (by have := Sm.may_len h; omega) c W B (Nat.le_trans hB hb.size) (hv.below (hb.mono hB)))
  have hbad := Lib.hid (@Sm.look_bad l c q)
  have hgood := Lib.hid (@Sm.look_good l c q)
  have hrange := Lib.hid (fun h : Sm.may l = true => Sm.fnd_range (Sm.may_rise h) c)
  have hqr := Lib.hid (@Sm.oks_iff q)
  clear hv
  generalize Sm.look l c q = X at *
  generalize Sm.fnd l c = Y at *
  generalize Sm.may l = r1 at *
  generalize Sm.okc c = r2 at *
  generalize Sm.oks q = r3 at *
  generalize Sm.has l c = hs at *
  generalize l.length = n at *
  obtain ⟨y1, y2, y3⟩ := Y
  dsimp only at *
  go_enter Try.func9, Try.ntmps9
  go_wp2_with fail
  with_reducible refine HM.out.mono ?_
  rintro e w2 ⟨rfl, hb2⟩
  have HB2 := Lib.hid hb2
  clear hb2 HM
  rcases r1 with _ | _
  · obtain rfl := hbad.out (by simp)
    go_wp2_with fail
    go_ret3
    exact ⟨rfl, HB2.out⟩
  go_wp2_with fail
  with_reducible refine (C1.out _).mono ?_
  rintro e w3 ⟨rfl, rfl⟩
  rcases r2 with _ | _
  · obtain rfl := hbad.out (by simp)
    go_wp2_with fail
    go_ret3
    exact ⟨rfl, HB2.out⟩
  go_wp2_with fail
  with_reducible refine (C2.out _).mono ?_
  rintro e w3 ⟨rfl, rfl⟩
  rcases r3 with _ | _
  · obtain rfl := hbad.out (by simp)
    go_wp2_with fail
    go_ret3
    exact ⟨rfl, HB2.out⟩
  have HX := Lib.hid (hgood.out rfl)
  obtain ⟨z1, z2, -⟩ := hrange.out trivial
  obtain ⟨z3, z4⟩ := hqr.out.1 rfl
  clear hbad hgood hrange hqr C1 C2
  go_wp2_with fail
  with_reducible refine (HL.out trivial _ HB2.out).mono ?_
  rintro e w3 ⟨rfl, hb3⟩
  have hbb := HB2.out.trans (hb3.mono HB2.out.size)
  have HB3 := Lib.hid (hbb.alloc hbb.size (.cells #[.int .i64 y1, .int .i64 y2, .int .i64 y3] 37))
  clear hb3 hbb HL HB2
  by_cases c1 : q < y2
  · obtain rfl : X = (0, false, 9) := HX.out.trans (if_pos c1)
    go_wp2_with fail
    go_ret3
    exact ⟨rfl, HB3.out⟩
  by_cases c2 : q = y2
  · subst c2
    obtain rfl : X = (y3, true, 0) := HX.out.trans ((if_neg c1).trans (if_pos rfl))
    have e1 : (q == q) = true := by simp
    go_wp2_with fail
    go_ret3
    exact ⟨rfl, HB3.out⟩
  have e1 : (q == y2) = false := by simpa using c2
  by_cases c3 : y2 + 1 < q
  · obtain rfl : X = (0, false, 10) := HX.out.trans ((if_neg c1).trans ((if_neg c2).trans (if_pos c3)))
    go_wp2_with fail
    go_ret3
    exact ⟨rfl, HB3.out⟩
  · obtain rfl : X = (0, false, 0) := HX.out.trans ((if_neg c1).trans ((if_neg c2).trans (if_neg c3)))
    go_wp2_with fail
    go_ret3
    exact ⟨rfl, HB3.out⟩
end Go.Proofs.Ytpfhigcfpchkkaa
