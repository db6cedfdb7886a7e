/-
  SessionNext: a client without a session begins with 1; behind any number comes the next one, and no other; 16 clients may have one.
-/
import Derived.Test.YtpfhigcfpchkkaaAwk
namespace Go.Proofs.Ytpfhigcfpchkkaa
open Go.RowKit

set_option maxRecDepth 100000 in
set_option maxHeartbeats 1600000 in
theorem next_law (w : World) (v : Value) (l : List Se) (hv : Sl w w.heap.size v l) (c q : Int) :
    Calls Try.prog 7 #[v, .int .i64 c, .int .i64 q] w fun e w' => e = .returned (.bool true) ∧ Below w.heap.size w w' := by
  obtain ⟨A, cap, rfl, hc, hm⟩ := hv.form
  have HK := Lib.hid (awake_any w)
  have HA := Lib.hid (fun W (h : Below w.heap.size w W) => put_any _ l c q 1 (by omega) W w.heap.size h.size (hv.below h))
  have HM := Lib.hid (fun W (h : Below w.heap.size w W) => may_any _ l W w.heap.size h.size (hv.below h))
  have HV := Lib.hid (fun W (h : Below w.heap.size w W) => hv.below h)
  have hcs := Lib.hid (Sm.put_cases l c q 1)
  have hpm := Lib.hid (@Sm.put_may l c q 1)
  have hri := Lib.hid (fun h : Sm.may l = true => Sm.fnd_range (Sm.may_rise h) c)
  have hhs := Lib.hid (fun h : Sm.may l = true => Sm.hs_fnd (Sm.may_rise h) c)
  have hil := Lib.hid (fun h : Sm.may l = true => Sm.ins_len (Sm.may_rise h) (c, q, 1))
  clear hv
  generalize Sm.put l c q 1 = X at *
  obtain ⟨m, x⟩ := X
  dsimp only at hcs hpm
  generalize Sm.ins l (c, q, 1) = I at *
  generalize hn : l.length = n at *
  have HN := Lib.hid hn
  clear hn
  go_enter Try.func7, Try.ntmps7
  go_wp2_with fail
  with_reducible refine HK.out.mono ?_
  rintro e w1 ⟨rfl, hb1⟩
  have HB1 := Lib.hid hb1
  clear hb1 HK
  by_cases c1 : 100 < n
  · go_wp2_with fail
    go_ret
    exact ⟨rfl, HB1.out⟩
  rcases hmy : Sm.may l with _ | _
  · rw [hmy] at HM
    clear hcs hpm hri hhs hil hmy HA HV
    go_wp2_with fail
    with_reducible refine (HM.out _ HB1.out).mono ?_
    rintro e w2 ⟨rfl, hb2⟩
    have HB2 := Lib.hid (HB1.out.trans (hb2.mono HB1.out.size))
    clear hb2
    go_wp2_with fail
    go_ret
    exact ⟨rfl, HB2.out⟩
  have HHS := Lib.hid (hhs.out hmy)
  obtain ⟨r1, r2, r3⟩ := hri.out hmy
  have HIL := Lib.hid (hil.out hmy)
  rw [hmy] at HM
  have HCS : Hid ((x = 0 ∧ m = I ∧ (Sm.okc c = true ∧ Sm.oks q = true ∧ q = (Sm.fnd l c).2.1 + 1 ∧ (Sm.has l c = true ∨ n < 16))) ∨ (x ≠ 0 ∧ m = [] ∧ (Sm.okc c = true → Sm.oks q = true → q = (Sm.fnd l c).2.1 + 1 → x = 7 ∧ Sm.has l c = false ∧ n = 16))) := by
    rcases hcs.out with ⟨h1, h2, _, h4, h5, h6, h7, _⟩ | ⟨h1, h2, h3⟩
    · exact .inl ⟨h1, h2, h4, h5, h6, h7⟩
    · exact .inr ⟨h1, h2, h3 hmy⟩
  clear hcs hri hhs hil hmy
  generalize (Sm.fnd l c).2.1 = f at *
  generalize Sm.has l c = hs at *
  have HR3 := Lib.hid r3
  clear r3
  go_wp2_with fail
  with_reducible refine (HM.out _ HB1.out).mono ?_
  rintro e w2 ⟨rfl, hb2⟩
  have HB2 := Lib.hid (HB1.out.trans (hb2.mono HB1.out.size))
  clear hb2 HM HB1
  by_cases k1 : c < 1
  · go_wp2_with fail
    go_ret
    exact ⟨rfl, HB2.out⟩
  by_cases k2 : 1048576 < c
  · have d1 : decide (c < 1) = false := by simp; omega
    go_wp2_with fail
    go_ret
    exact ⟨rfl, HB2.out⟩
  by_cases k3 : q < 1
  · have d1 : decide (c < 1) = false := by simp; omega
    have d2 : decide (1048576 < c) = false := by simp; omega
    go_wp2_with fail
    go_ret
    exact ⟨rfl, HB2.out⟩
  by_cases k4 : 1099511627776 < q
  · have d1 : decide (c < 1) = false := by simp; omega
    have d2 : decide (1048576 < c) = false := by simp; omega
    have d3 : decide (q < 1) = false := by simp; omega
    go_wp2_with fail
    go_ret
    exact ⟨rfl, HB2.out⟩
  have hok : Sm.okc c = true ∧ Sm.oks q = true := ⟨Sm.okc_iff.2 (by omega), Sm.oks_iff.2 (by omega)⟩
  have HOK := Lib.hid hok
  clear hok
  have d1 : decide (c < 1) = false := by simp; omega
  have d2 : decide (1048576 < c) = false := by simp; omega
  have d3 : decide (q < 1) = false := by simp; omega
  have d4 : decide (1099511627776 < q) = false := by simp; omega
  go_wp2_with fail
  go_loopw [8, 9] (fun hv iv wr => ∃ (k : Nat) (h : Int), k ≤ n ∧ iv = .int .i64 (k : Int) ∧ hv = .int .i64 h ∧ Hid (Sm.hs c h (l.drop k) = f) ∧ wr = w2) (fun _ iv _ => n - (intOf iv).toNat)
  case atStart => exact ⟨0, 0, Nat.zero_le _, rfl, rfl, HHS, rfl⟩
  case round =>
    obtain ⟨k, h, hk, rfl, rfl, hst, rfl⟩ := hrel
    by_cases hlt : k < n
    · have hkl : k < l.length := by rw [HN.out]; exact hlt
      obtain ⟨b1, o1, rfl, -, p0, p1, p2, -⟩ := (HV.out _ HB2.out).sess k (by rw [HN.out]; exact hlt)
      have hst' := hst.out
      rw [Sm.drop_cons hkl, Sm.hs] at hst'
      have HST := Lib.hid hst'
      clear hst hst'
      generalize l[k] = y at *
      obtain ⟨t0, t1, t2⟩ := y
      dsimp only at *
      clear hkl
      have i1 : (0 : Int) ≤ (k : Int) := by omega
      have i2 : (k : Int) < (n : Int) := by omega
      by_cases he : t0 = c
      · have hs2 := HST.out
        rw [if_pos he] at hs2
        have HS2 := Lib.hid hs2
        have e1 : (t0 == c) = true := by simpa using he
        clear hs2 he HST
        go_wp2_with fail
        go_roundw
        case rel => exact ⟨k + 1, t1, by omega, by go_num, rfl, HS2, trivial⟩
        case measure => simp [intOf]; omega
      · have hs2 := HST.out
        rw [if_neg he] at hs2
        have HS2 := Lib.hid hs2
        have e1 : (t0 == c) = false := by simpa using he
        clear hs2 he HST
        go_wp2_with fail
        go_roundw
        case rel => exact ⟨k + 1, h, by omega, by go_num, rfl, HS2, trivial⟩
        case measure => simp [intOf]; omega
    · have hf : h = f := by
        have := hst.out
        rw [List.drop_eq_nil_of_le (by rw [HN.out]; omega)] at this
        exact this
      subst hf
      clear hst HHS
      rcases HCS.out with ⟨h1, h2, _, _, h5, h6⟩ | ⟨h1, h2, h3⟩
      · subst h1 h2
        have hmm := hpm.out rfl
        have hlm := HIL.out
        clear HCS hpm HIL HOK HV
        rcases hs with _ | _
        · have hh0 : h = 0 := HR3.out.2 rfl
          have hn16 : n < 16 := by
            rcases h6 with h6 | h6
            · cases h6
            · exact h6
          rw [if_neg (by simp)] at hlm
          subst hh0
          obtain rfl : q = 1 := by omega
          clear h5
          have e1 : ((n : Int) == 16) = false := by simp; omega
          have e2 : (((n + 1 : Nat) : Int) == (n : Int) + 1) = true := by simp
          have HLM := Lib.hid hlm
          clear hlm h6 HR3 HN
          go_wp2_with fail
          with_reducible refine (HA.out _ HB2.out).mono ?_
          rintro e w3 ⟨A3, c3, rfl, hown3, hb3⟩
          dsimp only at hown3 ⊢
          have HM3 := may_any _ m w3 w3.heap.size (Nat.le_refl _) hown3.sl
          rw [hmm] at HM3
          rw [HLM.out] at HM3 ⊢
          have HM3 := Lib.hid HM3
          have HB3 := Lib.hid (HB2.out.trans (hb3.mono HB2.out.size))
          clear hown3 hb3 hmm HA
          go_wp2_with fail
          with_reducible refine HM3.out.mono ?_
          rintro e w4 ⟨rfl, hb4⟩
          have HB4 := Lib.hid (HB3.out.trans (hb4.mono HB3.out.size))
          clear hb4
          go_wp2_with fail
          go_ret
          exact ⟨ret_bool (by simp), HB4.out⟩
        · have hh0 : 0 < h := by
            have : h ≠ 0 := fun e => by have := HR3.out.1 e; cases this
            omega
          rw [if_pos rfl] at hlm
          subst h5
          have e1 : (h == 0) = false := by simp; omega
          have e2 : ((n : Int) == (n : Int)) = true := by simp
          have HLM := Lib.hid hlm
          clear hlm h6 HR3 HN
          go_wp2_with fail
          with_reducible refine (HA.out _ HB2.out).mono ?_
          rintro e w3 ⟨A3, c3, rfl, hown3, hb3⟩
          dsimp only at hown3 ⊢
          have HM3 := may_any _ m w3 w3.heap.size (Nat.le_refl _) hown3.sl
          rw [hmm] at HM3
          rw [HLM.out] at HM3 ⊢
          have HM3 := Lib.hid HM3
          have HB3 := Lib.hid (HB2.out.trans (hb3.mono HB2.out.size))
          clear hown3 hb3 hmm HA
          go_wp2_with fail
          with_reducible refine HM3.out.mono ?_
          rintro e w4 ⟨rfl, hb4⟩
          have HB4 := Lib.hid (HB3.out.trans (hb4.mono HB3.out.size))
          clear hb4
          go_wp2_with fail
          go_ret
          exact ⟨ret_bool (by simp), HB4.out⟩
      · subst h2
        by_cases hq : q = h + 1
        · obtain ⟨rfl, rfl, rfl⟩ := h3 HOK.out.1 HOK.out.2 hq
          have hh0 : h = 0 := HR3.out.2 rfl
          subst hh0
          obtain rfl : q = 1 := by omega
          clear hq
          clear HCS hpm HIL HOK HV HR3 HN h3 h1
          go_wp2_with fail
          with_reducible refine (HA.out _ HB2.out).mono ?_
          rintro e w3 ⟨A3, c3, rfl, hown3, hb3⟩
          simp only [List.length_nil]
          have HB3 := Lib.hid (HB2.out.trans (hb3.mono HB2.out.size))
          clear hown3 hb3 HA
          go_wp2_with fail
          go_ret
          exact ⟨rfl, HB3.out⟩
        · have e1 : (q != h + 1) = true := by simpa using hq
          have e2 : (x != 0) = true := by simpa using h1
          clear HCS hpm HIL HOK HV HR3 HN h3 h1 hq
          go_wp2_with fail
          with_reducible refine (HA.out _ HB2.out).mono ?_
          rintro e w3 ⟨A3, c3, rfl, hown3, hb3⟩
          simp only [List.length_nil]
          have HB3 := Lib.hid (HB2.out.trans (hb3.mono HB2.out.size))
          clear hown3 hb3 HA
          go_wp2_with fail
          go_ret
          exact ⟨rfl, HB3.out⟩
end Go.Proofs.Ytpfhigcfpchkkaa
