/-
  What Newer answers: the program's and the reference's; Few.
-/
import Derived.Test.YtckcfmkpchoaeaaEnt
import Derived.Test.YtckcfmkpchoaeaaLg
namespace Go.Proofs.Ytckcfmkpchoaeaa
open Go.RowKit

set_option maxRecDepth 100000 in
theorem newer_any (i t j u : Int) (w : World) :
    Calls Try.prog 23 #[.int .i64 i, .int .i64 t, .int .i64 j, .int .i64 u] w fun e w' => e = .returned (.bool (Lg.newer i t j u)) ∧ w = w' := by
  unfold Lg.newer
  go_enter Try.func23, Try.ntmps23
  by_cases h1 : u < t
  · go_wp2_with fail
    go_ret
    exact ⟨ret_bool (by simp [h1]), rfl⟩
  · by_cases h2 : t = u
    · subst h2
      have hx : (t == t) = true := by simp
      go_wp2_with fail
      go_ret
      exact ⟨ret_bool (by simp), rfl⟩
    · have hx : (t == u) = false := by simpa using h2
      go_wp2_with fail
      go_ret
      exact ⟨ret_bool (by simp [h1]), rfl⟩
set_option maxRecDepth 100000 in
theorem rnewer_any (i t j u : Int) (w : World) :
    Calls Try.prog 24 #[.int .i64 i, .int .i64 t, .int .i64 j, .int .i64 u] w fun e w' => e = .returned (.bool (Lg.newer i t j u)) ∧ w = w' := by
  unfold Lg.newer
  go_enter Try.func24, Try.ntmps24
  by_cases h1 : u < t
  · go_wp2_with fail
    go_ret
    exact ⟨ret_bool (by simp [h1]), rfl⟩
  · by_cases h2 : t = u
    · subst h2
      have hx : (t == t) = true := by simp
      go_wp2_with fail
      go_ret
      exact ⟨ret_bool (by simp), rfl⟩
    · have hx : (t == u) = false := by simpa using h2
      go_wp2_with fail
      go_ret
      exact ⟨ret_bool (by simp [h1]), rfl⟩
set_option maxRecDepth 100000 in
theorem few_any (b t : Int) (A : Option Addr) (n c : Nat) (w : World) :
    Calls Try.prog 10 #[lv b t (.slice A n c)] w fun e w' => e = .returned (.bool (decide (n ≤ 100))) ∧ Below w.heap.size w w' := by
  go_enter Try.func10, Try.ntmps10
  go_wp2_with fail
  go_ret
  exact ⟨ret_bool (by simp; omega), (Below.refl _ _).alloc (Nat.le_refl _) _⟩
end Go.Proofs.Ytckcfmkpchoaeaa
