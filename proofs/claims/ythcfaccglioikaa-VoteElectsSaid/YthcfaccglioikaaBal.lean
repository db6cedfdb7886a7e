/-
  Ballots and messages: how their cells read; results that are a ballot.
-/
import Derived.Test.YthcfaccglioikaaEnt
import Derived.Test.YthcfaccglioikaaVt
import Derived.Laws.ResultCell
namespace Go.Proofs.Ythcfaccglioikaa
open Go.RowKit

/-- A ballot's value. -/
abbrev bv (t v : Int) : Value := .agg #[.int .i64 t, .int .i64 v]
/-- A message's cells: kind, from, to, term, index, term of the log, commit, yes, entries. -/
abbrev mc (k f o t i u c : Int) (y : Bool) (s : Value) : Array Value := #[.int .i64 k, .int .i64 f, .int .i64 o, .int .i64 t, .int .i64 i, .int .i64 u, .int .i64 c, .bool y, s]

theorem Whole.c2 {w : World} {g : Nat} {t : TypeId} {x0 x1 : Value} (h : Whole w g t #[x0, x1]) : w.cell? ⟨g, 0, none⟩ = some x0 ∧ w.cell? ⟨g, 1, none⟩ = some x1 := ⟨h.cell 0, h.cell 1⟩
theorem Whole.f2 {w : World} {g : Nat} {t : TypeId} {x0 x1 : Value} (h : Whole w g t #[x0, x1]) : w.frozen? ⟨g, 0, none⟩ = false ∧ w.frozen? ⟨g, 1, none⟩ = false := ⟨h.free 0, h.free 1⟩
theorem Whole.set2 {w : World} {g : Nat} {t : TypeId} {x0 x1 : Value} (h : Whole w g t #[x0, x1]) (y0 y1 : Value) : Whole ((w.setCell ⟨g, 0, none⟩ y0).setCell ⟨g, 1, none⟩ y1) g t #[y0, y1] := (h.set 0 y0).set 1 y1
theorem below_set2 {B : Nat} {a w : World} (h : Below B a w) {g : Nat} (hg : B ≤ g) (y0 y1 : Value) : Below B a ((w.setCell ⟨g, 0, none⟩ y0).setCell ⟨g, 1, none⟩ y1) := (h.setCell hg y0).setCell hg y1
theorem Whole.c9 {w : World} {g : Nat} {t : TypeId} {x0 x1 x2 x3 x4 x5 x6 x7 x8 : Value} (h : Whole w g t #[x0, x1, x2, x3, x4, x5, x6, x7, x8]) : w.cell? ⟨g, 0, none⟩ = some x0 ∧ w.cell? ⟨g, 1, none⟩ = some x1 ∧ w.cell? ⟨g, 2, none⟩ = some x2 ∧
    w.cell? ⟨g, 3, none⟩ = some x3 ∧ w.cell? ⟨g, 4, none⟩ = some x4 ∧ w.cell? ⟨g, 5, none⟩ = some x5 ∧ w.cell? ⟨g, 6, none⟩ = some x6 ∧ w.cell? ⟨g, 7, none⟩ = some x7 ∧ w.cell? ⟨g, 8, none⟩ = some x8 :=
  ⟨h.cell 0, h.cell 1, h.cell 2, h.cell 3, h.cell 4, h.cell 5, h.cell 6, h.cell 7, h.cell 8⟩
theorem Whole.new1 (w : World) (o : Obj) (t : TypeId) (cs : Array Value) : Whole ((w.alloc o).alloc (.cells cs t)) (w.heap.size + 1) t cs := by
  have := Whole.new (w.alloc o) t cs
  rwa [World.size_alloc] at this
theorem results_ballot {fn : Func} {p : Tmp} (h : fn.results = #[.cell p 23]) {tmps : Array Value} {w : World} {g : Nat} {x0 x1 : Value} (hp : tmps.getD p undef = .pointer (some ⟨g, 0, none⟩)) (hg : Whole w g 23 #[x0, x1]) :
    (results fn tmps).run Try.prog w = .ok (.agg #[x0, x1]) w :=
  results_cell_row h tmps w g _ _ _ _ hp hg Try.underlying23 rfl (by kernel_rfl)
theorem results_ballot2 {fn : Func} {p u : Tmp} (h : fn.results = #[.cell p 23, .tmp u]) {tmps : Array Value} {w : World} {g : Nat} {x0 x1 : Value} (hp : tmps.getD p undef = .pointer (some ⟨g, 0, none⟩)) (hg : Whole w g 23 #[x0, x1]) :
    (results fn tmps).run Try.prog w = .ok (.tuple #[.agg #[x0, x1], tmps.getD u undef]) w := by
  rw [results_cell_tmp h, hp]
  simp [asAddr, Result.andThen, run_loadVar_row w g 23 _ _ _ _ hg Try.underlying23 rfl (by kernel_rfl)]
end Go.Proofs.Ythcfaccglioikaa
