/-
  Parts that the statement rests on, joined: Fsize.
-/
import Derived.Test.YtcacebkbfnnjbaaDoorV1
import Derived.Test.YtcacebkbfnnjbaaDoorV8
import Derived.Test.YtcacebkbfnnjbaaDoorV19
import Derived.Lib.ItoaNum
import Derived.LoopTactic
import Derived.Outline
/-
  What Size answers, here and by the reference.
-/






namespace Go.Proofs.YtcacebkbfnnjbaaDoor
open Go.RowKit

theorem bits_sz {n : Nat} (h : n < 72057594037927936) : (Lib.bitLen n + 7) / 8 = Fm.sz n := by
  by_cases h0 : n = 0
  · subst h0; rw [Fm.sz_zero]; simp [Lib.bitLen, Lib.bitLenAux_zero]
  · obtain ⟨h1, h2, h3⟩ := Lib.bitLenAux_bounds 64 n (by omega) h0
    have e : Lib.bitLenAux 64 n = Lib.bitLen n := rfl
    rw [e] at h1 h2 h3
    generalize Lib.bitLen n = b at *
    have hle : Fm.sz n ≤ (b + 7) / 8 := by
      refine (Fm.sz_lt _ _).1 (Nat.lt_of_lt_of_le h3 ?_)
      rw [show (256 : Nat) = 2 ^ 8 from rfl, ← Nat.pow_mul]
      exact Nat.pow_le_pow_right (by omega) (by omega)
    have hge : ¬ Fm.sz n ≤ (b + 7) / 8 - 1 := by
      intro hh
      have := (Fm.sz_lt _ _).2 hh
      rw [show (256 : Nat) = 2 ^ 8 from rfl, ← Nat.pow_mul] at this
      have h4 := Nat.pow_le_pow_right (n := 2) (by omega) (show 8 * ((b + 7) / 8 - 1) ≤ b - 1 by omega)
      omega
    omega
theorem bits_big {n : Nat} (h : ¬ n < 72057594037927936) (h64 : n < 18446744073709551616) : 7 < (Lib.bitLen n + 7) / 8 := by
  obtain ⟨h1, h2, h3⟩ := Lib.bitLenAux_bounds 64 n (by omega) (by omega)
  have e : Lib.bitLenAux 64 n = Lib.bitLen n := rfl
  rw [e] at h1 h2 h3
  have : ¬ Lib.bitLen n ≤ 56 := by
    intro hh
    have := Nat.pow_le_pow_right (n := 2) (by omega) hh
    omega
  omega

/-- n as a uint64. -/
theorem wrap_may (n : Int) (h1 : -9223372036854775808 ≤ n) (h2 : n ≤ 9223372036854775807) :
    ∃ x : Nat, IntKind.u64.wrap n = (x : Int) ∧ x < 18446744073709551616 ∧ (Fm.may n → x = n.toNat ∧ x < 72057594037927936) ∧ (¬ Fm.may n → ¬ x < 72057594037927936) := by
  have e : IntKind.u64.wrap n = n % 18446744073709551616 := by rw [IntKind.wrap_u64]
  refine ⟨(n % 18446744073709551616).toNat, ?_, by omega, fun h => ?_, fun h => ?_⟩
  · rw [e]; omega
  · unfold Fm.may at h; omega
  · unfold Fm.may at h; omega

theorem size_any (n : Int) (h1 : -9223372036854775808 ≤ n) (h2 : n ≤ 9223372036854775807) (w : World) :
    Calls Tryd.prog 53 #[.int .i64 n] w fun e w' => e = .returned (.int .i64 (Fm.size n)) ∧ w = w' := by
  obtain ⟨x, hx, hx64, hy, hn⟩ := wrap_may n h1 h2
  have hb : Lib.bitLen x ≤ 64 := Lib.bitLen_le x 64 (by omega) (by omega)
  have hyes : Fm.may n → Fm.size n = (((Lib.bitLen x + 7) / 8 : Nat) : Int) ∧ (Lib.bitLen x + 7) / 8 ≤ 7 := by
    intro hm
    obtain ⟨rfl, hlt⟩ := hy hm
    unfold Fm.size
    rw [if_pos hm, bits_sz hlt]
    exact ⟨rfl, Fm.sz_le7 hlt⟩
  have hno : ¬ Fm.may n → Fm.size n = -1 ∧ 7 < (Lib.bitLen x + 7) / 8 := by
    intro hm
    unfold Fm.size
    rw [if_neg hm]
    exact ⟨rfl, bits_big (hn hm) hx64⟩
  clear hy hn
  have hc := len64 (x : Int) w (by omega) (by omega)
  rw [Int.toNat_natCast] at hc
  generalize Lib.bitLen x = b at *
  have HX := Lib.hid hx
  have HC := Lib.hid hc
  clear hx hc
  have hq : ∃ r : Int, Fm.size n = r := ⟨_, rfl⟩
  obtain ⟨r, hr⟩ := hq
  rw [hr] at hyes hno
  by_cases hm : Fm.may n
  · obtain ⟨e, hle⟩ := hyes hm
    have HR := Lib.hid (hr.trans e)
    clear hyes hno hr e
    go_enter Tryd.func53, Tryd.ntmps53
    go_wp2_with (rw [HX.out]; refine HC.out.mono ?_; rintro e w' ⟨rfl, rfl⟩)
    go_ret
    exact ⟨ret_int (by rw [HR.out]; omega), rfl⟩
  · obtain ⟨e, hlt⟩ := hno hm
    have HR := Lib.hid (hr.trans e)
    clear hyes hno hr e
    go_enter Tryd.func53, Tryd.ntmps53
    go_wp2_with (rw [HX.out]; refine HC.out.mono ?_; rintro e w' ⟨rfl, rfl⟩)
    go_ret
    exact ⟨ret_int (by rw [HR.out]), rfl⟩

/-- The reference's Size. -/
theorem refSize_any (n : Int) (h1 : -9223372036854775808 ≤ n) (h2 : n ≤ 9223372036854775807) (w : World) :
    Calls Tryd.prog 56 #[.int .i64 n] w fun e w' => e = .returned (.int .i64 (Fm.size n)) ∧ w = w' := by
  by_cases hm : Fm.may n
  · have hm' := hm
    unfold Fm.may at hm
    have hd : decide (n < 0) = false := by simp; omega
    have hd2 : decide (72057594037927936 ≤ n) = false := by simp; omega
    have hs : Fm.size n = (Fm.sz n.toNat : Int) := by unfold Fm.size; rw [if_pos hm']
    have hz := Fm.sz_le7 (Fm.toNat_lt hm')
    obtain ⟨m, rfl⟩ : ∃ m : Nat, n = (m : Int) := ⟨n.toNat, by omega⟩
    rw [Int.toNat_natCast] at hs hz
    have HS := Lib.hid hs
    clear hs hm'
    go_enter Tryd.func56, Tryd.ntmps56
    go_wp2
    go_loop [0, 3] (fun a k => ∃ x j : Nat, a = .int .i64 x ∧ k = .int .i64 j ∧ x ≤ m ∧ j ≤ 7 ∧ Fm.sz x + j = Fm.sz m) (fun a _ => (intOf a).toNat)
    case atStart => exact ⟨m, 0, rfl, rfl, Nat.le_refl _, by omega, rfl⟩
    case round =>
      obtain ⟨x, j, rfl, rfl, hx, hj, hsum⟩ := hrel
      have HSUM := Lib.hid hsum
      clear hsum
      by_cases h0 : 0 < x
      · have hst := Fm.sz_step (n := x) (by omega)
        have HST := Lib.hid hst
        clear hst
        go_wp2
        go_round
        case rel =>
          have := HSUM.out
          have := HST.out
          exact ⟨x / 256, j + 1, by go_num, by go_num, by omega, by omega, by omega⟩
        case measure => simp [intOf]; omega
      · have hx0 : x = 0 := by omega
        have hz0 := Fm.sz_zero
        go_wp2
        go_ret
        have := HSUM.out
        subst hx0
        exact ⟨ret_int (by rw [HS.out]; omega), rfl⟩
  · have hr : Fm.size n = -1 := by unfold Fm.size; rw [if_neg hm]
    have HR := Lib.hid hr
    clear hr
    unfold Fm.may at hm
    by_cases h0 : n < 0
    · have hd : decide (n < 0) = true := by simp; omega
      go_enter Tryd.func56, Tryd.ntmps56
      go_wp2
      go_ret
      exact ⟨ret_int (by rw [HR.out]), rfl⟩
    · have hd : decide (n < 0) = false := by simp; omega
      have hd2 : decide (72057594037927936 ≤ n) = true := by simp; omega
      go_enter Tryd.func56, Tryd.ntmps56
      go_wp2
      go_ret
      exact ⟨ret_int (by rw [HR.out]), rfl⟩
end Go.Proofs.YtcacebkbfnnjbaaDoor
