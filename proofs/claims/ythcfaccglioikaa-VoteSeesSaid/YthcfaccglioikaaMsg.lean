/-
  Lists of messages and lists of logs: how their cells read.
-/
import Derived.Test.YthcfaccglioikaaBal
namespace Go.Proofs.Ythcfaccglioikaa
open Go.RowKit

/-- A message: kind, from, to, term, index, term of the log, commit, yes, entries. -/
abbrev M := Int × Int × Int × Int × Int × Int × Int × Bool × List E

/-- Cells in a row from a place on. -/
def Cells (w : World) (b o : Nat) (cs : Array Value) : Prop := ∀ j u, cs[j]? = some u → w.cell? ⟨b, o + j, none⟩ = some u
theorem Cells.below {w W : World} {b o B : Nat} {cs : Array Value} (h : Cells w b o cs) (hb : b < B) (hB : Below B w W) : Cells W b o cs := fun j u hu => (hB.cell (p := ⟨b, o + j, none⟩) hb).trans (h j u hu)
theorem Cells.at3 {w : World} {b o : Nat} {x0 x1 x2 : Value} (h : Cells w b o #[x0, x1, x2]) : w.cell? ⟨b, o, none⟩ = some x0 ∧ w.cell? ⟨b, o + 1, none⟩ = some x1 ∧ w.cell? ⟨b, o + 2, none⟩ = some x2 := ⟨h 0 _ rfl, h 1 _ rfl, h 2 _ rfl⟩
theorem Cells.at9 {w : World} {b o : Nat} {x0 x1 x2 x3 x4 x5 x6 x7 x8 : Value} (h : Cells w b o #[x0, x1, x2, x3, x4, x5, x6, x7, x8]) : w.cell? ⟨b, o, none⟩ = some x0 ∧ w.cell? ⟨b, o + 1, none⟩ = some x1 ∧ w.cell? ⟨b, o + 2, none⟩ = some x2 ∧
    w.cell? ⟨b, o + 3, none⟩ = some x3 ∧ w.cell? ⟨b, o + 4, none⟩ = some x4 ∧ w.cell? ⟨b, o + 5, none⟩ = some x5 ∧ w.cell? ⟨b, o + 6, none⟩ = some x6 ∧ w.cell? ⟨b, o + 7, none⟩ = some x7 ∧ w.cell? ⟨b, o + 8, none⟩ = some x8 :=
  ⟨h 0 _ rfl, h 1 _ rfl, h 2 _ rfl, h 3 _ rfl, h 4 _ rfl, h 5 _ rfl, h 6 _ rfl, h 7 _ rfl, h 8 _ rfl⟩

/-- The message at k of a slice of messages: its cells. -/
theorem Sl.msg {w : World} {B n c : Nat} {A : Option Addr} {l : List M} (h : Sl w B (.slice A n c) l) (k : Nat) (hk : k < l.length) :
    ∃ b off A2 n2 c2, A = some ⟨b, off, none⟩ ∧ b < B ∧ Cells w b (off + k * 9) (mc (l[k]).1 (l[k]).2.1 (l[k]).2.2.1 (l[k]).2.2.2.1 (l[k]).2.2.2.2.1 (l[k]).2.2.2.2.2.1 (l[k]).2.2.2.2.2.2.1 (l[k]).2.2.2.2.2.2.2.1 (.slice A2 n2 c2)) := by
  have hr := h.room
  obtain ⟨b, off, ds, e, hb, h1, h2⟩ := h.at_ k (by omega) hk
  obtain ⟨d1, e1, rfl, ⟨rfl, _⟩, ⟨d2, e2, rfl, ⟨rfl, _⟩, ⟨d3, e3, rfl, ⟨rfl, _⟩, ⟨d4, e4, rfl, ⟨rfl, _⟩, ⟨d5, e5, rfl, ⟨rfl, _⟩, ⟨d6, e6, rfl, ⟨rfl, _⟩, ⟨d7, e7, rfl, ⟨rfl, _⟩, ⟨d8, e8, rfl, hy, ⟨v, rfl, hs⟩⟩⟩⟩⟩⟩⟩⟩⟩ := h1
  obtain ⟨A2, c2, rfl, _, _⟩ := hs.form
  have hy2 : d8 = [.bool (l[k]).2.2.2.2.2.2.2.1] := hy
  subst hy2
  exact ⟨b, off, A2, _, c2, e, hb, fun j u hu => h2 j u (by rw [← hu, ← Array.getElem?_toList]; rfl)⟩
/-- The log at k of a slice of logs. -/
theorem Sl.lg {w : World} {B n c : Nat} {A : Option Addr} {l : List L} (h : Sl w B (.slice A n c) l) (k : Nat) (hk : k < l.length) :
    ∃ b off v, A = some ⟨b, off, none⟩ ∧ b < B ∧ Cells w b (off + k * 3) #[.int .i64 (l[k]).1, .int .i64 (l[k]).2.1, v] ∧ Sl w B v (l[k]).2.2 := by
  have hr := h.room
  obtain ⟨b, off, ds, e, hb, h1, h2⟩ := h.at_ k (by omega) hk
  obtain ⟨d1, e1, rfl, ⟨rfl, _⟩, ⟨d2, e2, rfl, ⟨rfl, _⟩, ⟨v, rfl, hs⟩⟩⟩ := h1
  exact ⟨b, off, v, e, hb, fun j u hu => h2 j u (by rw [← hu, ← Array.getElem?_toList]; rfl), hs⟩
end Go.Proofs.Ythcfaccglioikaa
