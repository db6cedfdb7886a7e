/-
  Parts that the statement rests on, joined: Bal, Msg, Cell, See, Fld.
-/
import Derived.Test.YtjcljkbalpgfdaaM2
import Derived.Test.YtjcljkbalpgfdaaM3
import Derived.Laws.ResultCell
import Derived.KernelRfl
/-
  Ballots and messages: how their cells read; results that are a ballot.
-/



namespace Go.Proofs.Ytjcljkbalpgfdaa
open Go.RowKit

/-- A ballot's value. -/
abbrev bv (t v : Int) : Value := .agg #[.int .i64 t, .int .i64 v]
/-- A message's cells: kind, from, to, term, index, term of the log, commit, yes, entries. -/
abbrev mc (k f o t i u c : Int) (y : Bool) (s : Value) : Array Value := #[.int .i64 k, .int .i64 f, .int .i64 o, .int .i64 t, .int .i64 i, .int .i64 u, .int .i64 c, .bool y, s]

theorem Whole.c2 {w : World} {g : Nat} {t : TypeId} {x0 x1 : Value} (h : Whole w g t #[x0, x1]) : w.cell? ⟨g, 0, none⟩ = some x0 ∧ w.cell? ⟨g, 1, none⟩ = some x1 := ⟨h.cell 0, h.cell 1⟩
theorem Whole.f2 {w : World} {g : Nat} {t : TypeId} {x0 x1 : Value} (h : Whole w g t #[x0, x1]) : w.frozen? ⟨g, 0, none⟩ = false ∧ w.frozen? ⟨g, 1, none⟩ = false := ⟨h.free 0, h.free 1⟩
theorem Whole.set2 {w : World} {g : Nat} {t : TypeId} {x0 x1 : Value} (h : Whole w g t #[x0, x1]) (y0 y1 : Value) : Whole ((w.setCell ⟨g, 0, none⟩ y0).setCell ⟨g, 1, none⟩ y1) g t #[y0, y1] := (h.set 0 y0).set 1 y1
theorem below_set2 {B : Nat} {a w : World} (h : Below B a w) {g : Nat} (hg : B ≤ g) (y0 y1 : Value) : Below B a ((w.setCell ⟨g, 0, none⟩ y0).setCell ⟨g, 1, none⟩ y1) := (h.setCell hg y0).setCell hg y1
theorem Whole.c9 {w : World} {g : Nat} {t : TypeId} {x0 x1 x2 x3 x4 x5 x6 x7 x8 : Value} (h : Whole w g t #[x0, x1, x2, x3, x4, x5, x6, x7, x8]) : w.cell? ⟨g, 0, none⟩ = some x0 ∧ w.cell? ⟨g, 1, none⟩ = some x1 ∧ w.cell? ⟨g, 2, none⟩ = some x2 ∧
    w.cell? ⟨g, 3, none⟩ = some x3 ∧ w.cell? ⟨g, 4, none⟩ = some x4 ∧ w.cell? ⟨g, 5, none⟩ = some x5 ∧ w.cell? ⟨g, 6, none⟩ = some x6 ∧ w.cell? ⟨g, 7, none⟩ = some x7 ∧ w.cell? ⟨g, 8, none⟩ = some x8 :=
  ⟨h.cell 0, h.cell 1, h.cell 2, h.cell 3, h.cell 4, h.cell 5, h.cell 6, h.cell 7, h.cell 8⟩
theorem Whole.new1 (w : World) (o : Obj) (t : TypeId) (cs : Array Value) : Whole ((w.alloc o).alloc (.cells cs t)) (w.heap.size + 1) t cs := by
  have := Whole.new (w.alloc o) t cs
  rwa [World.size_alloc] at this
theorem results_ballot {fn : Func} {p : Tmp} (h : fn.results = #[.cell p 23]) {tmps : Array Value} {w : World} {g : Nat} {x0 x1 : Value} (hp : tmps.getD p undef = .pointer (some ⟨g, 0, none⟩)) (hg : Whole w g 23 #[x0, x1]) :
    (results fn tmps).run Try.prog w = .ok (.agg #[x0, x1]) w :=
  results_cell_row h tmps w g _ _ _ _ hp hg Try.underlying23 rfl (by kernel_rfl)
theorem results_ballot2 {fn : Func} {p u : Tmp} (h : fn.results = #[.cell p 23, .tmp u]) {tmps : Array Value} {w : World} {g : Nat} {x0 x1 : Value} (hp : tmps.getD p undef = .pointer (some ⟨g, 0, none⟩)) (hg : Whole w g 23 #[x0, x1]) :
    (results fn tmps).run Try.prog w = .ok (.tuple #[.agg #[x0, x1], tmps.getD u undef]) w := by
  rw [results_cell_tmp h, hp]
  simp [asAddr, Result.andThen, run_loadVar_row w g 23 _ _ _ _ hg Try.underlying23 rfl (by kernel_rfl)]
end Go.Proofs.Ytjcljkbalpgfdaa

/-
  Lists of messages and lists of logs: how their cells read.
-/

namespace Go.Proofs.Ytjcljkbalpgfdaa
open Go.RowKit

/-- A message: kind, from, to, term, index, term of the log, commit, yes, entries. -/
abbrev M := Int × Int × Int × Int × Int × Int × Int × Bool × List E

/-- Cells in a row from a place on. -/
def Cells (w : World) (b o : Nat) (cs : Array Value) : Prop := ∀ j u, cs[j]? = some u → w.cell? ⟨b, o + j, none⟩ = some u
theorem Cells.below {w W : World} {b o B : Nat} {cs : Array Value} (h : Cells w b o cs) (hb : b < B) (hB : Below B w W) : Cells W b o cs := fun j u hu => (hB.cell (p := ⟨b, o + j, none⟩) hb).trans (h j u hu)
theorem Cells.at3 {w : World} {b o : Nat} {x0 x1 x2 : Value} (h : Cells w b o #[x0, x1, x2]) : w.cell? ⟨b, o, none⟩ = some x0 ∧ w.cell? ⟨b, o + 1, none⟩ = some x1 ∧ w.cell? ⟨b, o + 2, none⟩ = some x2 := ⟨h 0 _ rfl, h 1 _ rfl, h 2 _ rfl⟩
theorem Cells.at9 {w : World} {b o : Nat} {x0 x1 x2 x3 x4 x5 x6 x7 x8 : Value} (h : Cells w b o #[x0, x1, x2, x3, x4, x5, x6, x7, x8]) : w.cell? ⟨b, o, none⟩ = some x0 ∧ w.cell? ⟨b, o + 1, none⟩ = some x1 ∧ w.cell? ⟨b, o + 2, none⟩ = some x2 ∧
    w.cell? ⟨b, o + 3, none⟩ = some x3 ∧ w.cell? ⟨b, o + 4, none⟩ = some x4 ∧ w.cell? ⟨b, o + 5, none⟩ = some x5 ∧ w.cell? ⟨b, o + 6, none⟩ = some x6 ∧ w.cell? ⟨b, o + 7, none⟩ = some x7 ∧ w.cell? ⟨b, o + 8, none⟩ = some x8 :=
  ⟨h 0 _ rfl, h 1 _ rfl, h 2 _ rfl, h 3 _ rfl, h 4 _ rfl, h 5 _ rfl, h 6 _ rfl, h 7 _ rfl, h 8 _ rfl⟩

/-- The message at k of a slice of messages: its cells. -/
theorem Sl.msg {w : World} {B n c : Nat} {A : Option Addr} {l : List M} (h : Sl w B (.slice A n c) l) (k : Nat) (hk : k < l.length) :
    ∃ b off A2 n2 c2, A = some ⟨b, off, none⟩ ∧ b < B ∧ Cells w b (off + k * 9) (mc (l[k]).1 (l[k]).2.1 (l[k]).2.2.1 (l[k]).2.2.2.1 (l[k]).2.2.2.2.1 (l[k]).2.2.2.2.2.1 (l[k]).2.2.2.2.2.2.1 (l[k]).2.2.2.2.2.2.2.1 (.slice A2 n2 c2)) := by
  have hr := h.room
  obtain ⟨b, off, ds, e, hb, h1, h2⟩ := h.at_ k (by omega) hk
  obtain ⟨d1, e1, rfl, ⟨rfl, _⟩, ⟨d2, e2, rfl, ⟨rfl, _⟩, ⟨d3, e3, rfl, ⟨rfl, _⟩, ⟨d4, e4, rfl, ⟨rfl, _⟩, ⟨d5, e5, rfl, ⟨rfl, _⟩, ⟨d6, e6, rfl, ⟨rfl, _⟩, ⟨d7, e7, rfl, ⟨rfl, _⟩, ⟨d8, e8, rfl, hy, ⟨v, rfl, hs⟩⟩⟩⟩⟩⟩⟩⟩⟩ := h1
  obtain ⟨A2, c2, rfl, _, _⟩ := hs.form
  have hy2 : d8 = [.bool (l[k]).2.2.2.2.2.2.2.1] := hy
  subst hy2
  exact ⟨b, off, A2, _, c2, e, hb, fun j u hu => h2 j u (by rw [← hu, ← Array.getElem?_toList]; rfl)⟩
/-- The log at k of a slice of logs. -/
theorem Sl.lg {w : World} {B n c : Nat} {A : Option Addr} {l : List L} (h : Sl w B (.slice A n c) l) (k : Nat) (hk : k < l.length) :
    ∃ b off v, A = some ⟨b, off, none⟩ ∧ b < B ∧ Cells w b (off + k * 3) #[.int .i64 (l[k]).1, .int .i64 (l[k]).2.1, v] ∧ Sl w B v (l[k]).2.2 := by
  have hr := h.room
  obtain ⟨b, off, ds, e, hb, h1, h2⟩ := h.at_ k (by omega) hk
  obtain ⟨d1, e1, rfl, ⟨rfl, _⟩, ⟨d2, e2, rfl, ⟨rfl, _⟩, ⟨v, rfl, hs⟩⟩⟩ := h1
  exact ⟨b, off, v, e, hb, fun j u hu => h2 j u (by rw [← hu, ← Array.getElem?_toList]; rfl), hs⟩
end Go.Proofs.Ytjcljkbalpgfdaa

/-
  Results that lie in a cell: a log, or a log and an error; blocks of three cells.
-/


namespace Go.Proofs.Ytjcljkbalpgfdaa
open Go.RowKit

theorem Whole.drewN {w : World} {g : Nat} {t : TypeId} {cs : Array Value} (h : Whole w g t cs) (n : Nat) : Whole (w.drewN n) g t cs := h
theorem results_log {fn : Func} {p : Tmp} (h : fn.results = #[.cell p 26]) {tmps : Array Value} {w : World} {g : Nat} {x0 x1 x2 : Value} (hp : tmps.getD p undef = .pointer (some ⟨g, 0, none⟩)) (hg : Whole w g 26 #[x0, x1, x2]) :
    (results fn tmps).run Try.prog w = .ok (.agg #[x0, x1, x2]) w :=
  results_cell_row h tmps w g _ _ _ _ hp hg Try.underlying26 rfl (by kernel_rfl)
theorem results_log2 {fn : Func} {p u : Tmp} (h : fn.results = #[.cell p 26, .tmp u]) {tmps : Array Value} {w : World} {g : Nat} {x0 x1 x2 : Value} (hp : tmps.getD p undef = .pointer (some ⟨g, 0, none⟩)) (hg : Whole w g 26 #[x0, x1, x2]) :
    (results fn tmps).run Try.prog w = .ok (.tuple #[.agg #[x0, x1, x2], tmps.getD u undef]) w := by
  rw [results_cell_tmp h, hp]
  simp [asAddr, Result.andThen, run_loadVar_row w g 26 _ _ _ _ hg Try.underlying26 rfl (by kernel_rfl)]
end Go.Proofs.Ytjcljkbalpgfdaa

/-
  What See and May answer of a ballot.
-/

namespace Go.Proofs.Ytjcljkbalpgfdaa
open Go.RowKit

set_option maxRecDepth 100000 in
theorem see_any (b v t : Int) (w : World) :
    Calls Try.prog 27 #[bv b v, .int .i64 t] w fun e w' => e = .returned (bv (Vt.see (b, v) t).1 (Vt.see (b, v) t).2) ∧ Below w.heap.size w w' := by
  have hnew := Lib.hid (@Vt.see_new (b, v) t)
  have hold := Lib.hid (@Vt.see_old (b, v) t)
  generalize Vt.see (b, v) t = x at *
  go_enter Try.func27, Try.ntmps27
  by_cases h1 : b < t
  · by_cases h2 : t ≤ 1073741824
    · have e := hnew.out h1 h2
      subst e
      go_wp2_with fail
      refine bodyPost_ret (results_ballot rfl rfl (Whole.new1 _ _ _ _)) rfl ?_
      exact ⟨rfl, ((Below.refl _ _).alloc (Nat.le_refl _) _).alloc (by simp) _⟩
    · have e := hold.out (fun h => h2 h.2)
      subst e
      go_wp2_with fail
      refine bodyPost_ret (results_ballot rfl rfl (Whole.new1 _ _ _ _)) rfl ?_
      exact ⟨rfl, ((Below.refl _ _).alloc (Nat.le_refl _) _).alloc (by simp) _⟩
  · have e := hold.out (fun h => h1 h.1)
    subst e
    go_wp2_with fail
    refine bodyPost_ret (results_ballot rfl rfl (Whole.new1 _ _ _ _)) rfl ?_
    exact ⟨rfl, ((Below.refl _ _).alloc (Nat.le_refl _) _).alloc (by simp) _⟩

set_option maxRecDepth 100000 in
theorem bmay_any (b v : Int) (w : World) :
    Calls Try.prog 22 #[bv b v] w fun e w' => e = .returned (.bool (Vt.may (b, v))) ∧ Below w.heap.size w w' := by
  have HB := Lib.hid ((Below.refl w.heap.size w).alloc (Nat.le_refl _) (.cells #[.int .i64 b, .int .i64 v] 23))
  unfold Vt.may
  go_enter Try.func22, Try.ntmps22
  by_cases h1 : b < 0
  · go_wp2_with fail
    go_ret
    exact ⟨ret_bool (by simp; try omega), HB.out⟩
  have d1 : decide (b < 0) = false := by simp; omega
  by_cases h2 : 1073741824 < b
  · go_wp2_with fail
    go_ret
    exact ⟨ret_bool (by simp; try omega), HB.out⟩
  by_cases h3 : v < 0
  · have d3 : decide (0 ≤ v) = false := by simp; omega
    go_wp2_with fail
    go_ret
    exact ⟨ret_bool (by simp; try omega), HB.out⟩
  have d3 : decide (0 ≤ v) = true := by simp; omega
  go_wp2_with fail
  go_ret
  exact ⟨ret_bool (by simp; try omega), HB.out⟩
end Go.Proofs.Ytjcljkbalpgfdaa

/-
  The field of a log's and of a ballot's value (not of a cell's): the walk does not reckon 'Op.field'.
-/


namespace Go.Proofs.Ytjcljkbalpgfdaa
open Go.RowKit
theorem fld_log (b t : Int) (v : Value) (W : World) : Sem.run Try.prog (Instr.field 26 (lv b t v) 2) W = .ok v W := by kernel_rfl
theorem fld_bal0 (b t : Int) (W : World) : Sem.run Try.prog (Instr.field 23 (bv b t) 0) W = .ok (.int .i64 b) W := by kernel_rfl
theorem fld_bal1 (b t : Int) (W : World) : Sem.run Try.prog (Instr.field 23 (bv b t) 1) W = .ok (.int .i64 t) W := by kernel_rfl
end Go.Proofs.Ytjcljkbalpgfdaa
