/-
  What Few answers.
-/
import Derived.Test.YthcfaccglioikaaEnt
namespace Go.Proofs.Ythcfaccglioikaa
open Go.RowKit

set_option maxRecDepth 100000 in
theorem few_any (b t : Int) (A : Option Addr) (n c : Nat) (w : World) :
    Calls Try.prog 10 #[lv b t (.slice A n c)] w fun e w' => e = .returned (.bool (decide (n ≤ 100))) ∧ Below w.heap.size w w' := by
  go_enter Try.func10, Try.ntmps10
  go_wp2_with fail
  go_ret
  exact ⟨ret_bool (by simp; omega), (Below.refl _ _).alloc (Nat.le_refl _) _⟩
end Go.Proofs.Ythcfaccglioikaa
