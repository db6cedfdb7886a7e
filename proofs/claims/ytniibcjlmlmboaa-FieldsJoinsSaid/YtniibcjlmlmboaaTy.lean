/-
  The rows of the program's table of types that the statements of fields use; what two slices' values give.
-/
import Derived.Test.YtniibcjlmlmboaaProg
import Derived.Test.YtniibcjlmlmboaaRep
import Derived.WalkKit
import Derived.Lib.Hide
import Derived.KernelRfl
namespace Go.Proofs.Ytniibcjlmlmboaa
open Go.RowKit

theorem rowB : Row Try.prog 23 5 UInt8 1 := by
  obtain ⟨i, hi, hz, hsz, hby⟩ := info_parts (show (Try.prog.info? 5).map (fun i => (i.zero, i.size, i.bytes)) = some (some (.int .u8 0), 1, 1) by kernel_rfl)
  exact ⟨Try.underlying23, i, _, hi, hz, hsz, hby, rfl⟩
theorem rowI : Row Try.prog 22 3 Int 8 := by
  obtain ⟨i, hi, hz, hsz, hby⟩ := info_parts (show (Try.prog.info? 3).map (fun i => (i.zero, i.size, i.bytes)) = some (some (.int .i64 0), 1, 8) by kernel_rfl)
  exact ⟨Try.underlying22, i, _, hi, hz, hsz, hby, rfl⟩
theorem ret_int {k : IntKind} {a b : Int} (h : a = b) : Ending.returned (.int k a) = .returned (.int k b) := by rw [h]
theorem ret_bool {x : Bool} (h : x = true) : Ending.returned (.bool x) = .returned (.bool true) := by rw [h]
theorem bwf (l : List UInt8) : ∀ a ∈ l, Flat.wf a := fun _ _ => trivial
/-- The value of fields. -/
abbrev fv (sN sD : Value) : Value := .agg #[sN, sD]
end Go.Proofs.Ytniibcjlmlmboaa
