/-
  What Majority answers.
-/
import Derived.Test.YtdgfopiagfibkaaInts
import Derived.Test.YtdgfopiagfibkaaQr
namespace Go.Proofs.Ytdgfopiagfibkaa
open Go.RowKit

set_option maxRecDepth 100000 in
theorem maj_any (n : Int) (hn : -9223372036854775808 ≤ n ∧ n ≤ 9223372036854775807) (w : World) :
    Calls Try.prog 8 #[.int .i64 n] w fun e w' => e = .returned (.int .i64 (Qr.maj n)) ∧ w = w' := by
  unfold Qr.maj
  go_enter Try.func8, Try.ntmps8
  by_cases h : n < 1
  · rw [if_pos h]
    go_wp2_with fail
    go_ret
    exact ⟨rfl, rfl⟩
  · rw [if_neg h]
    obtain ⟨k, rfl⟩ := Int.eq_ofNat_of_zero_le (show 0 ≤ n by omega)
    go_wp2_with fail
    go_ret
    exact ⟨ret_int (by go_num), rfl⟩
end Go.Proofs.Ytdgfopiagfibkaa
