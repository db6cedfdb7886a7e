/-
  Which client numbers and which numbers of commands may be: the program's tests and the reference's.
-/
import Derived.Test.YtpfhigcfpchkkaaSe
import Derived.Test.YtpfhigcfpchkkaaSm
namespace Go.Proofs.Ytpfhigcfpchkkaa
open Go.RowKit

theorem client_any (n : Int) (w : World) : Calls Try.prog 16 #[.int .i64 n] w fun e w' => e = .returned (.bool (Sm.okc n)) ∧ w' = w := by
  have HR := Lib.hid (@Sm.okc_iff n)
  generalize Sm.okc n = r at *
  by_cases h : 1 ≤ n
  · by_cases h2 : n ≤ 1048576
    · obtain rfl := HR.out.2 ⟨h, h2⟩
      go_enter Try.func16, Try.ntmps16
      go_wp2_with fail
      go_ret
      exact ⟨rfl, rfl⟩
    · obtain rfl : r = false := by rw [Bool.eq_false_iff, ne_eq, HR.out]; omega
      go_enter Try.func16, Try.ntmps16
      go_wp2_with fail
      go_ret
      exact ⟨ret_bool (by simp; try omega), rfl⟩
  · obtain rfl : r = false := by rw [Bool.eq_false_iff, ne_eq, HR.out]; omega
    have d1 : decide (1 ≤ n) = false := by simp; omega
    go_enter Try.func16, Try.ntmps16
    go_wp2_with fail
    go_ret
    exact ⟨ret_bool (by simp; try omega), rfl⟩

theorem seq_any (n : Int) (w : World) : Calls Try.prog 17 #[.int .i64 n] w fun e w' => e = .returned (.bool (Sm.oks n)) ∧ w' = w := by
  have HR := Lib.hid (@Sm.oks_iff n)
  generalize Sm.oks n = r at *
  by_cases h : 1 ≤ n
  · by_cases h2 : n ≤ 1099511627776
    · obtain rfl := HR.out.2 ⟨h, h2⟩
      go_enter Try.func17, Try.ntmps17
      go_wp2_with fail
      go_ret
      exact ⟨rfl, rfl⟩
    · obtain rfl : r = false := by rw [Bool.eq_false_iff, ne_eq, HR.out]; omega
      go_enter Try.func17, Try.ntmps17
      go_wp2_with fail
      go_ret
      exact ⟨ret_bool (by simp; try omega), rfl⟩
  · obtain rfl : r = false := by rw [Bool.eq_false_iff, ne_eq, HR.out]; omega
    have d1 : decide (1 ≤ n) = false := by simp; omega
    go_enter Try.func17, Try.ntmps17
    go_wp2_with fail
    go_ret
    exact ⟨ret_bool (by simp; try omega), rfl⟩

theorem rok_any (c q : Int) (w : World) : Calls Try.prog 19 #[.int .i64 c, .int .i64 q] w fun e w' => e = .returned (.bool (Sm.okc c && Sm.oks q)) ∧ w' = w := by
  have HR := Lib.hid (@Sm.okc_iff c)
  have HS := Lib.hid (@Sm.oks_iff q)
  by_cases h : 1 ≤ c ∧ c ≤ 1048576 ∧ 1 ≤ q ∧ q ≤ 1099511627776
  · rw [HR.out.2 ⟨h.1, h.2.1⟩, HS.out.2 h.2.2]
    obtain ⟨h1, h2, h3, h4⟩ := h
    go_enter Try.func19, Try.ntmps19
    go_wp2_with fail
    go_ret
    exact ⟨rfl, rfl⟩
  · have hf : (Sm.okc c && Sm.oks q) = false := by
      rw [Bool.eq_false_iff, ne_eq, Bool.and_eq_true, HR.out, HS.out]
      omega
    rw [hf]
    by_cases h1 : 1 ≤ c
    · by_cases h2 : c ≤ 1048576
      · by_cases h3 : 1 ≤ q
        · have h4 : decide (q ≤ 1099511627776) = false := by simp; omega
          go_enter Try.func19, Try.ntmps19
          go_wp2_with fail
          go_ret
          exact ⟨ret_bool (by simp; try omega), rfl⟩
        · have d3 : decide (1 ≤ q) = false := by simp; omega
          go_enter Try.func19, Try.ntmps19
          go_wp2_with fail
          go_ret
          exact ⟨ret_bool (by simp; try omega), rfl⟩
      · have d2 : decide (c ≤ 1048576) = false := by simp; omega
        go_enter Try.func19, Try.ntmps19
        go_wp2_with fail
        go_ret
        exact ⟨ret_bool (by simp; try omega), rfl⟩
    · have d1 : decide (1 ≤ c) = false := by simp; omega
      go_enter Try.func19, Try.ntmps19
      go_wp2_with fail
      go_ret
      exact ⟨ret_bool (by simp; try omega), rfl⟩
end Go.Proofs.Ytpfhigcfpchkkaa
