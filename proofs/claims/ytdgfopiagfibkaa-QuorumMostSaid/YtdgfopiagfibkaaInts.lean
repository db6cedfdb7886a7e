/-
  Slices of numbers: the row of the program's table of types.
-/
import Derived.Test.YtdgfopiagfibkaaEnt
namespace Go.Proofs.Ytdgfopiagfibkaa
open Go.RowKit

theorem rowI : Row Try.prog 22 3 Int 8 := by
  obtain ⟨i, hi, hz, hsz, hby⟩ := info_parts (show (Try.prog.info? 3).map (fun i => (i.zero, i.size, i.bytes)) = some (some (.int .i64 0), 1, 8) by kernel_rfl)
  exact ⟨Try.underlying22, i, _, hi, hz, hsz, hby, rfl⟩
/-- Each number of a list that cells read as is an int. -/
theorem Sl.fit {w : World} {B : Nat} {v : Value} {l : List Int} (h : Sl w B v l) : ∀ x ∈ l, -9223372036854775808 ≤ x ∧ x ≤ 9223372036854775807 := by
  intro x hx
  obtain ⟨k, hk, rfl⟩ := List.getElem_of_mem hx
  obtain ⟨A, c, rfl, _, _⟩ := h.form
  obtain ⟨_, _, _, _, _, h1, h2⟩ := h.int k hk
  exact ⟨h1, h2⟩
end Go.Proofs.Ytdgfopiagfibkaa
