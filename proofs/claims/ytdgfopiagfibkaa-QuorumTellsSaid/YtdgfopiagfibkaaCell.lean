/-
  Results that lie in a cell: a log, or a log and an error; blocks of three cells.
-/
import Derived.Test.YtdgfopiagfibkaaEnt
import Derived.Laws.ResultCell
namespace Go.Proofs.Ytdgfopiagfibkaa
open Go.RowKit

theorem Whole.drewN {w : World} {g : Nat} {t : TypeId} {cs : Array Value} (h : Whole w g t cs) (n : Nat) : Whole (w.drewN n) g t cs := h
theorem results_log {fn : Func} {p : Tmp} (h : fn.results = #[.cell p 38]) {tmps : Array Value} {w : World} {g : Nat} {x0 x1 x2 : Value} (hp : tmps.getD p undef = .pointer (some ⟨g, 0, none⟩)) (hg : Whole w g 38 #[x0, x1, x2]) :
    (results fn tmps).run Try.prog w = .ok (.agg #[x0, x1, x2]) w :=
  results_cell_row h tmps w g _ _ _ _ hp hg Try.underlying38 rfl (by kernel_rfl)
theorem results_log2 {fn : Func} {p u : Tmp} (h : fn.results = #[.cell p 38, .tmp u]) {tmps : Array Value} {w : World} {g : Nat} {x0 x1 x2 : Value} (hp : tmps.getD p undef = .pointer (some ⟨g, 0, none⟩)) (hg : Whole w g 38 #[x0, x1, x2]) :
    (results fn tmps).run Try.prog w = .ok (.tuple #[.agg #[x0, x1, x2], tmps.getD u undef]) w := by
  rw [results_cell_tmp h, hp]
  simp [asAddr, Result.andThen, run_loadVar_row w g 38 _ _ _ _ hg Try.underlying38 rfl (by kernel_rfl)]
end Go.Proofs.Ytdgfopiagfibkaa
