/-
  What See and May answer of a ballot.
-/
import Derived.Test.YthcfaccglioikaaBal
namespace Go.Proofs.Ythcfaccglioikaa
open Go.RowKit

set_option maxRecDepth 100000 in
theorem see_any (b v t : Int) (w : World) :
    Calls Try.prog 13 #[bv b v, .int .i64 t] w fun e w' => e = .returned (bv (Vt.see (b, v) t).1 (Vt.see (b, v) t).2) ∧ Below w.heap.size w w' := by
  have hnew := Lib.hid (@Vt.see_new (b, v) t)
  have hold := Lib.hid (@Vt.see_old (b, v) t)
  generalize Vt.see (b, v) t = x at *
  go_enter Try.func13, Try.ntmps13
  by_cases h1 : b < t
  · by_cases h2 : t ≤ 1073741824
    · have e := hnew.out h1 h2
      subst e
      go_wp2_with fail
      refine bodyPost_ret (results_ballot rfl rfl (Whole.new1 _ _ _ _)) rfl ?_
      exact ⟨rfl, ((Below.refl _ _).alloc (Nat.le_refl _) _).alloc (by simp) _⟩
    · have e := hold.out (fun h => h2 h.2)
      subst e
      go_wp2_with fail
      refine bodyPost_ret (results_ballot rfl rfl (Whole.new1 _ _ _ _)) rfl ?_
      exact ⟨rfl, ((Below.refl _ _).alloc (Nat.le_refl _) _).alloc (by simp) _⟩
  · have e := hold.out (fun h => h1 h.1)
    subst e
    go_wp2_with fail
    refine bodyPost_ret (results_ballot rfl rfl (Whole.new1 _ _ _ _)) rfl ?_
    exact ⟨rfl, ((Below.refl _ _).alloc (Nat.le_refl _) _).alloc (by simp) _⟩

set_option maxRecDepth 100000 in
theorem bmay_any (b v : Int) (w : World) :
    Calls Try.prog 15 #[bv b v] w fun e w' => e = .returned (.bool (Vt.may (b, v))) ∧ Below w.heap.size w w' := by
  have HB := Lib.hid ((Below.refl w.heap.size w).alloc (Nat.le_refl _) (.cells #[.int .i64 b, .int .i64 v] 23))
  unfold Vt.may
  go_enter Try.func15, Try.ntmps15
  by_cases h1 : b < 0
  · go_wp2_with fail
    go_ret
    exact ⟨ret_bool (by simp; try omega), HB.out⟩
  have d1 : decide (b < 0) = false := by simp; omega
  by_cases h2 : 1073741824 < b
  · go_wp2_with fail
    go_ret
    exact ⟨ret_bool (by simp; try omega), HB.out⟩
  by_cases h3 : v < 0
  · have d3 : decide (0 ≤ v) = false := by simp; omega
    go_wp2_with fail
    go_ret
    exact ⟨ret_bool (by simp; try omega), HB.out⟩
  have d3 : decide (0 ≤ v) = true := by simp; omega
  go_wp2_with fail
  go_ret
  exact ⟨ret_bool (by simp; try omega), HB.out⟩
end Go.Proofs.Ythcfaccglioikaa
