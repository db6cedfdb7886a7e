/-
  Parts that the statement rests on, joined: Bal, Bmay, Cell, Rbmay.
-/
import Derived.Test.YtcacebkbfnnjbaaDoorV1
import Derived.Test.YtcacebkbfnnjbaaDoorV15
import Derived.Laws.ResultCell
/-
  Ballots and messages: how their cells read; results that are a ballot.
-/



namespace Go.Proofs.YtcacebkbfnnjbaaDoor
open Go.RowKit

/-- A ballot's value. -/
abbrev bv (t v : Int) : Value := .agg #[.int .i64 t, .int .i64 v]
/-- A message's cells: kind, from, to, term, index, term of the log, commit, yes, entries. -/
abbrev mc (k f o t i u c : Int) (y : Bool) (s : Value) : Array Value := #[.int .i64 k, .int .i64 f, .int .i64 o, .int .i64 t, .int .i64 i, .int .i64 u, .int .i64 c, .bool y, s]

theorem Whole.c2 {w : World} {g : Nat} {t : TypeId} {x0 x1 : Value} (h : Whole w g t #[x0, x1]) : w.cell? ⟨g, 0, none⟩ = some x0 ∧ w.cell? ⟨g, 1, none⟩ = some x1 := ⟨h.cell 0, h.cell 1⟩
theorem Whole.f2 {w : World} {g : Nat} {t : TypeId} {x0 x1 : Value} (h : Whole w g t #[x0, x1]) : w.frozen? ⟨g, 0, none⟩ = false ∧ w.frozen? ⟨g, 1, none⟩ = false := ⟨h.free 0, h.free 1⟩
theorem Whole.set2 {w : World} {g : Nat} {t : TypeId} {x0 x1 : Value} (h : Whole w g t #[x0, x1]) (y0 y1 : Value) : Whole ((w.setCell ⟨g, 0, none⟩ y0).setCell ⟨g, 1, none⟩ y1) g t #[y0, y1] := (h.set 0 y0).set 1 y1
theorem below_set2 {B : Nat} {a w : World} (h : Below B a w) {g : Nat} (hg : B ≤ g) (y0 y1 : Value) : Below B a ((w.setCell ⟨g, 0, none⟩ y0).setCell ⟨g, 1, none⟩ y1) := (h.setCell hg y0).setCell hg y1
theorem Whole.c9 {w : World} {g : Nat} {t : TypeId} {x0 x1 x2 x3 x4 x5 x6 x7 x8 : Value} (h : Whole w g t #[x0, x1, x2, x3, x4, x5, x6, x7, x8]) : w.cell? ⟨g, 0, none⟩ = some x0 ∧ w.cell? ⟨g, 1, none⟩ = some x1 ∧ w.cell? ⟨g, 2, none⟩ = some x2 ∧
    w.cell? ⟨g, 3, none⟩ = some x3 ∧ w.cell? ⟨g, 4, none⟩ = some x4 ∧ w.cell? ⟨g, 5, none⟩ = some x5 ∧ w.cell? ⟨g, 6, none⟩ = some x6 ∧ w.cell? ⟨g, 7, none⟩ = some x7 ∧ w.cell? ⟨g, 8, none⟩ = some x8 :=
  ⟨h.cell 0, h.cell 1, h.cell 2, h.cell 3, h.cell 4, h.cell 5, h.cell 6, h.cell 7, h.cell 8⟩
theorem Whole.new1 (w : World) (o : Obj) (t : TypeId) (cs : Array Value) : Whole ((w.alloc o).alloc (.cells cs t)) (w.heap.size + 1) t cs := by
  have := Whole.new (w.alloc o) t cs
  rwa [World.size_alloc] at this
theorem results_ballot {fn : Func} {p : Tmp} (h : fn.results = #[.cell p 30]) {tmps : Array Value} {w : World} {g : Nat} {x0 x1 : Value} (hp : tmps.getD p undef = .pointer (some ⟨g, 0, none⟩)) (hg : Whole w g 30 #[x0, x1]) :
    (results fn tmps).run Tryd.prog w = .ok (.agg #[x0, x1]) w :=
  results_cell_row h tmps w g _ _ _ _ hp hg Tryd.underlying30 rfl (by kernel_rfl)
theorem results_ballot2 {fn : Func} {p u : Tmp} (h : fn.results = #[.cell p 30, .tmp u]) {tmps : Array Value} {w : World} {g : Nat} {x0 x1 : Value} (hp : tmps.getD p undef = .pointer (some ⟨g, 0, none⟩)) (hg : Whole w g 30 #[x0, x1]) :
    (results fn tmps).run Tryd.prog w = .ok (.tuple #[.agg #[x0, x1], tmps.getD u undef]) w := by
  rw [results_cell_tmp h, hp]
  simp [asAddr, Result.andThen, run_loadVar_row w g 30 _ _ _ _ hg Tryd.underlying30 rfl (by kernel_rfl)]
end Go.Proofs.YtcacebkbfnnjbaaDoor

/-
  What See and May answer of a ballot.
-/

namespace Go.Proofs.YtcacebkbfnnjbaaDoor
open Go.RowKit

set_option maxRecDepth 100000 in
theorem bmay_any (b v : Int) (w : World) :
    Calls Tryd.prog 37 #[bv b v] w fun e w' => e = .returned (.bool (Vt.may (b, v))) ∧ Below w.heap.size w w' := by
  have HB := Lib.hid ((Below.refl w.heap.size w).alloc (Nat.le_refl _) (.cells #[.int .i64 b, .int .i64 v] 30))
  unfold Vt.may
  go_enter Tryd.func37, Tryd.ntmps37
  by_cases h1 : b < 0
  · go_wp2_with fail
    go_ret
    exact ⟨ret_bool (by simp; try omega), HB.out⟩
  have d1 : decide (b < 0) = false := by simp; omega
  by_cases h2 : 1073741824 < b
  · go_wp2_with fail
    go_ret
    exact ⟨ret_bool (by simp; try omega), HB.out⟩
  by_cases h3 : v < 0
  · have d3 : decide (0 ≤ v) = false := by simp; omega
    go_wp2_with fail
    go_ret
    exact ⟨ret_bool (by simp; try omega), HB.out⟩
  have d3 : decide (0 ≤ v) = true := by simp; omega
  go_wp2_with fail
  go_ret
  exact ⟨ret_bool (by simp; try omega), HB.out⟩
end Go.Proofs.YtcacebkbfnnjbaaDoor

/-
  Results that lie in a cell: a log, or a log and an error; blocks of three cells.
-/


namespace Go.Proofs.YtcacebkbfnnjbaaDoor
open Go.RowKit

theorem Whole.drewN {w : World} {g : Nat} {t : TypeId} {cs : Array Value} (h : Whole w g t cs) (n : Nat) : Whole (w.drewN n) g t cs := h
theorem results_log {fn : Func} {p : Tmp} (h : fn.results = #[.cell p 38]) {tmps : Array Value} {w : World} {g : Nat} {x0 x1 x2 : Value} (hp : tmps.getD p undef = .pointer (some ⟨g, 0, none⟩)) (hg : Whole w g 38 #[x0, x1, x2]) :
    (results fn tmps).run Tryd.prog w = .ok (.agg #[x0, x1, x2]) w :=
  results_cell_row h tmps w g _ _ _ _ hp hg Tryd.underlying38 rfl (by kernel_rfl)
theorem results_log2 {fn : Func} {p u : Tmp} (h : fn.results = #[.cell p 38, .tmp u]) {tmps : Array Value} {w : World} {g : Nat} {x0 x1 x2 : Value} (hp : tmps.getD p undef = .pointer (some ⟨g, 0, none⟩)) (hg : Whole w g 38 #[x0, x1, x2]) :
    (results fn tmps).run Tryd.prog w = .ok (.tuple #[.agg #[x0, x1, x2], tmps.getD u undef]) w := by
  rw [results_cell_tmp h, hp]
  simp [asAddr, Result.andThen, run_loadVar_row w g 38 _ _ _ _ hg Tryd.underlying38 rfl (by kernel_rfl)]
end Go.Proofs.YtcacebkbfnnjbaaDoor

/-
  What the reference's See and May answer of a ballot.
-/

namespace Go.Proofs.YtcacebkbfnnjbaaDoor
open Go.RowKit

set_option maxRecDepth 100000 in
theorem rbmay_any (b v : Int) (w : World) :
    Calls Tryd.prog 28 #[bv b v] w fun e w' => e = .returned (.bool (Vt.may (b, v))) ∧ Below w.heap.size w w' := by
  have HB := Lib.hid ((Below.refl w.heap.size w).alloc (Nat.le_refl _) (.cells #[.int .i64 b, .int .i64 v] 30))
  unfold Vt.may
  go_enter Tryd.func28, Tryd.ntmps28
  by_cases h1 : b < 0
  · have d1 : decide (0 ≤ b) = false := by simp; omega
    go_wp2_with fail
    go_ret
    exact ⟨ret_bool (by simp; try omega), HB.out⟩
  have d1 : decide (0 ≤ b) = true := by simp; omega
  by_cases h2 : 1073741824 < b
  · go_wp2_with fail
    go_ret
    exact ⟨ret_bool (by simp; try omega), HB.out⟩
  by_cases h3 : v < 0
  · have d3 : decide (0 ≤ v) = false := by simp; omega
    go_wp2_with fail
    go_ret
    exact ⟨ret_bool (by simp; try omega), HB.out⟩
  have d3 : decide (0 ≤ v) = true := by simp; omega
  go_wp2_with fail
  go_ret
  exact ⟨ret_bool (by simp; try omega), HB.out⟩
end Go.Proofs.YtcacebkbfnnjbaaDoor
