/-
  SessionOnce: what was put is looked up as it was answered, and can't be put once more; the next number can be; other clients' answers stay.
-/
import Derived.Test.YtpfhigcfpchkkaaAwk
namespace Go.Proofs.Ytpfhigcfpchkkaa
open Go.RowKit

set_option maxRecDepth 100000 in
set_option maxHeartbeats 800000 in
theorem once_law (w : World) (v : Value) (l : List Se) (hv : Sl w w.heap.size v l) (c q a d r : Int) (hq : -9223372036854775808 ≤ q ∧ q ≤ 9223372036854775807) (ha : -9223372036854775808 ≤ a ∧ a ≤ 9223372036854775807) :
    Calls Try.prog 5 #[v, .int .i64 c, .int .i64 q, .int .i64 a, .int .i64 d, .int .i64 r] w fun e w' => e = .returned (.bool true) ∧ Below w.heap.size w w' := by
  obtain ⟨A, cap, rfl, hc, hm⟩ := hv.form
  have HK := Lib.hid (awake_any w)
  have HA := Lib.hid (fun W (h : Below w.heap.size w W) => put_any _ l c q a ha W w.heap.size h.size (hv.below h))
  have HO := Lib.hid (fun W (h : Below w.heap.size w W) => look_any _ l d r W w.heap.size h.size (hv.below h))
  have hpl := Lib.hid (@Sm.put_length l c q a)
  have hlk := Lib.hid (@Sm.put_look l c q a)
  have hag := Lib.hid (fun b => @Sm.put_again l c q a b)
  have hnx := Lib.hid (@Sm.put_next l c q a)
  have hot := Lib.hid (@Sm.put_other l c q a d r)
  have hqr : Hid ((Sm.put l c q a).2 = 0 → 1 ≤ q ∧ q ≤ 1099511627776) := fun h => by
    rcases Sm.put_cases l c q a with ⟨_, _, _, _, h5, _⟩ | ⟨h1, _⟩
    · exact Sm.oks_iff.1 h5
    · exact absurd h h1
  clear hv
  generalize Sm.put l c q a = X at *
  generalize Sm.look l d r = Z at *
  generalize l.length = n at *
  obtain ⟨m, x⟩ := X
  obtain ⟨z1, z2, z3⟩ := Z
  dsimp only at *
  go_enter Try.func5, Try.ntmps5
  go_wp2_with fail
  with_reducible refine HK.out.mono ?_
  rintro e w1 ⟨rfl, hb1⟩
  have HB1 := Lib.hid hb1
  clear hb1 HK
  by_cases c1 : 100 < n
  · go_wp2_with fail
    go_ret
    exact ⟨rfl, HB1.out⟩
  go_wp2_with fail
  with_reducible refine (HA.out _ HB1.out).mono ?_
  rintro e w2 ⟨A2, c2, rfl, hown2, hb2⟩
  dsimp only at hown2 ⊢
  by_cases h0 : x = 0
  · subst h0
    obtain ⟨q1, q2⟩ := hqr.out rfl
    obtain ⟨n1, n2⟩ := hnx.out rfl
    have HS2 := Lib.hid hown2.sl
    have HB2 := Lib.hid (HB1.out.trans (hb2.mono HB1.out.size))
    have hwr : -9223372036854775808 ≤ wrap64 (a + 1) ∧ wrap64 (a + 1) ≤ 9223372036854775807 := by unfold wrap64; omega
    have hw1 : IntKind.i64.wrap (q + 1) = q + 1 := by rw [IntKind.wrap_i64]; omega
    have hL1 := fun W (h : Below w2.heap.size w2 W) => look_any _ m c q W w2.heap.size h.size (HS2.out.below h)
    have hP := fun W (h : Below w2.heap.size w2 W) => put_any _ m c q (wrap64 (a + 1)) hwr W w2.heap.size h.size (HS2.out.below h)
    have hL2 := fun W (h : Below w2.heap.size w2 W) => look_any _ m c (q + 1) W w2.heap.size h.size (HS2.out.below h)
    have hL3 := fun W (h : Below w2.heap.size w2 W) => look_any _ m d r W w2.heap.size h.size (HS2.out.below h)
    rw [hlk.out rfl] at hL1
    rw [hag.out _ rfl] at hP
    have HL1 := Lib.hid hL1
    have HP := Lib.hid hP
    have HL2 := Lib.hid hL2
    have HL3 := Lib.hid hL3
    have HOT : Hid (d ≠ c → Sm.look m d r = (z1, z2, z3)) := fun h => hot.out rfl h
    clear hL1 hP hL2 hL3 hown2 hb2 HA hpl hlk hag hnx hot hqr hwr HS2 ha
    generalize Sm.look m c (q + 1) = Y at *
    obtain ⟨y1, y2, y3⟩ := Y
    generalize Sm.look m d r = Z2 at *
    obtain ⟨u1, u2, u3⟩ := Z2
    generalize m.length = p at *
    dsimp only at *
    subst n1
    have e1 : (a == a) = true := by simp
    go_wp2_with fail
    with_reducible refine (HL1.out _ (Below.refl _ _)).mono ?_
    rintro e w3 ⟨rfl, hb3⟩
    have HC3 := Lib.hid hb3
    clear hb3
    go_wp2_with fail
    with_reducible refine (HP.out _ HC3.out).mono ?_
    rintro e w4 ⟨A4, c4, rfl, -, hb4⟩
    have HC4 := Lib.hid (HC3.out.trans (hb4.mono HC3.out.size))
    clear hb4
    go_wp2_with fail
    with_reducible refine (HL2.out _ HC4.out).mono ?_
    rintro e w5 ⟨rfl, hb5⟩
    have HC5 := Lib.hid (HC4.out.trans (hb5.mono HC4.out.size))
    clear hb5
    go_wp2_with fail
    with_reducible refine (HO.out _ (HB2.out.trans (HC5.out.mono HB2.out.size))).mono ?_
    rintro e w6 ⟨rfl, hb6⟩
    have HC6 := Lib.hid (HC5.out.trans (hb6.mono HC5.out.size))
    clear hb6
    go_wp2_with fail
    with_reducible refine (HL3.out _ HC6.out).mono ?_
    rintro e w7 ⟨rfl, hb7⟩
    have HC7 := Lib.hid (HC6.out.trans (hb7.mono HC6.out.size))
    clear hb7
    have HF := Lib.hid (HB2.out.trans (HC7.out.mono HB2.out.size))
    clear HL1 HP HL2 HO HL3 HC3 HC4 HC5 HC6 HC7 HB1 HB2
    by_cases hd : d = c
    · subst hd
      have e5 : (d == d) = true := by simp
      rcases n2 with rfl | rfl
      · go_wp2_with fail
        all_goals (go_ret; exact ⟨ret_bool (by simp), HF.out⟩)
      · go_wp2_with fail
        all_goals (go_ret; exact ⟨ret_bool (by simp), HF.out⟩)
    · have e5 : (d == c) = false := by simpa using hd
      have hz := HOT.out hd
      simp only [Prod.mk.injEq] at hz
      obtain ⟨h1, h2, h3⟩ := hz
      subst h1 h2 h3
      have e6 : (u1 == u1) = true := by simp
      have e7 : (u2 == u2) = true := by simp
      have e8 : (u3 == u3) = true := by simp
      clear HOT hd
      rcases n2 with rfl | rfl
      · go_wp2_with fail
        all_goals (go_ret; exact ⟨ret_bool (by simp), HF.out⟩)
      · go_wp2_with fail
        all_goals (go_ret; exact ⟨ret_bool (by simp), HF.out⟩)
  · obtain rfl := hpl.out h0
    have HB2 := Lib.hid (HB1.out.trans (hb2.mono HB1.out.size))
    have d3 : (x != 0) = true := by simpa using h0
    simp only [List.length_nil]
    clear hown2 hb2 HA HO hpl hlk hag hnx hot hqr
    go_wp2_with fail
    go_ret
    exact ⟨rfl, HB2.out⟩
end Go.Proofs.Ytpfhigcfpchkkaa
