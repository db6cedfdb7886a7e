/-
  Parts that the statement rests on, joined: Rets.
-/
import Derived.WalkKit
/-
  Endings that are the same; no program.
-/

namespace Go.Proofs.YtcacebkbfnnjbaaDoor
open Go.RowKit

theorem ret_int {k : IntKind} {a b : Int} (h : a = b) : Ending.returned (.int k a) = .returned (.int k b) := by rw [h]
theorem ret_bool {x y : Bool} (h : x = y) : Ending.returned (.bool x) = .returned (.bool y) := by rw [h]
end Go.Proofs.YtcacebkbfnnjbaaDoor
