/-
  What Cut and Unpack answer, in one form for errors and results.
-/
import Derived.Test.YtniibcjlmlmboaaUnpack
namespace Go.Proofs.Ytniibcjlmlmboaa
open Go.RowKit

/-- What Cut answers: fields that read as N and D, a number, an error. -/
def CutRes (w : World) (N : List Int) (D : List UInt8) (n er : Int) (e : Ending) (w' : World) : Prop :=
  ∃ A1 c1 A2 c2, e = .returned (.tuple #[.agg #[.slice A1 N.length c1, .slice A2 D.length c2], .int .i64 n, .int .i64 er]) ∧ Sl w' w'.heap.size (.slice A1 N.length c1) N ∧ Sl w' w'.heap.size (.slice A2 D.length c2) D ∧ Below w.heap.size w w'
def usedI (l : List UInt8) : Fm.Got (List Int × List UInt8) → Int
  | .err _ => 0
  | .ok _ r => (l.length : Int) - (r.length : Int)
theorem cutOut_res {w : World} {l : List UInt8} {g : Fm.Got (List Int × List UInt8)} {e : Ending} {w' : World} (h : CutOut w l g e w') : CutRes w (g.N ([], [])).1 (g.N ([], [])).2 (usedI l g) g.e e w' := by
  cases g with
  | err er =>
    obtain ⟨rfl, hb⟩ := h
    exact ⟨none, 0, none, 0, rfl, Sl.nil _ _, Sl.nil _ _, hb⟩
  | ok f r =>
    obtain ⟨sN, sD, rfl, h1, h2, hb⟩ := h
    obtain ⟨A1, c1, rfl, _, _⟩ := h1.sl.form
    obtain ⟨A2, c2, rfl, _, _⟩ := h2.sl.form
    exact ⟨A1, c1, A2, c2, rfl, h1.sl, h2.sl, hb⟩
/-- What Unpack answers: fields that read as N and D, an error. -/
def UnpackRes (w : World) (N : List Int) (D : List UInt8) (er : Int) (e : Ending) (w' : World) : Prop :=
  ∃ A1 c1 A2 c2, e = .returned (.tuple #[.agg #[.slice A1 N.length c1, .slice A2 D.length c2], .int .i64 er]) ∧ Sl w' w'.heap.size (.slice A1 N.length c1) N ∧ Sl w' w'.heap.size (.slice A2 D.length c2) D ∧ Below w.heap.size w w'
theorem unpackOut_res {w : World} {g : Fm.Got (List Int × List UInt8)} {e : Ending} {w' : World} (h : UnpackOut w g e w') : UnpackRes w (g.N ([], [])).1 (g.N ([], [])).2 g.e e w' := by
  cases g with
  | err er =>
    obtain ⟨rfl, hb⟩ := h
    exact ⟨none, 0, none, 0, rfl, Sl.nil _ _, Sl.nil _ _, hb⟩
  | ok f r =>
    obtain ⟨sN, sD, rfl, h1, h2, hb⟩ := h
    obtain ⟨A1, c1, rfl, _, _⟩ := h1.sl.form
    obtain ⟨A2, c2, rfl, _, _⟩ := h2.sl.form
    exact ⟨A1, c1, A2, c2, rfl, h1.sl, h2.sl, hb⟩
end Go.Proofs.Ytniibcjlmlmboaa
