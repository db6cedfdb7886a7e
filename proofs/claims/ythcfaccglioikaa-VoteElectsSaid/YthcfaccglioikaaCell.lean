/-
  Results that lie in a cell: a log, or a log and an error; blocks of three cells.
-/
import Derived.Test.YthcfaccglioikaaEnt
import Derived.Laws.ResultCell
namespace Go.Proofs.Ythcfaccglioikaa
open Go.RowKit

theorem Whole.drewN {w : World} {g : Nat} {t : TypeId} {cs : Array Value} (h : Whole w g t cs) (n : Nat) : Whole (w.drewN n) g t cs := h
theorem results_log {fn : Func} {p : Tmp} (h : fn.results = #[.cell p 26]) {tmps : Array Value} {w : World} {g : Nat} {x0 x1 x2 : Value} (hp : tmps.getD p undef = .pointer (some ⟨g, 0, none⟩)) (hg : Whole w g 26 #[x0, x1, x2]) :
    (results fn tmps).run Try.prog w = .ok (.agg #[x0, x1, x2]) w :=
  results_cell_row h tmps w g _ _ _ _ hp hg Try.underlying26 rfl (by kernel_rfl)
theorem results_log2 {fn : Func} {p u : Tmp} (h : fn.results = #[.cell p 26, .tmp u]) {tmps : Array Value} {w : World} {g : Nat} {x0 x1 x2 : Value} (hp : tmps.getD p undef = .pointer (some ⟨g, 0, none⟩)) (hg : Whole w g 26 #[x0, x1, x2]) :
    (results fn tmps).run Try.prog w = .ok (.tuple #[.agg #[x0, x1, x2], tmps.getD u undef]) w := by
  rw [results_cell_tmp h, hp]
  simp [asAddr, Result.andThen, run_loadVar_row w g 26 _ _ _ _ hg Try.underlying26 rfl (by kernel_rfl)]
end Go.Proofs.Ythcfaccglioikaa
