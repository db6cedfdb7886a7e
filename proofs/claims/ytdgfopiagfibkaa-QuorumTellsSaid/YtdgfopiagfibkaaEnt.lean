/-
  Entries and logs: how their cells read; the rows of the program's table of types that the statements of entries use.
-/
import Derived.Test.YtdgfopiagfibkaaProg
import Derived.Test.YtdgfopiagfibkaaNest
import Derived.WalkKit
import Derived.WalkLawsBesides
import Derived.Lib.Hide
import Derived.KernelRfl
namespace Go.Proofs.Ytdgfopiagfibkaa
open Go.RowKit

/-- An entry: its term, and its command's six numbers. -/
abbrev E := Int × Int × Int × Int × Int × Int × Int
/-- A log: Base, BaseTerm, entries. -/
abbrev L := Int × Int × List E

/-- An entry's cells. -/
abbrev ec (e : E) : Array Value := #[.int .i64 e.1, .int .i64 e.2.1, .int .i64 e.2.2.1, .int .i64 e.2.2.2.1, .int .i64 e.2.2.2.2.1, .int .i64 e.2.2.2.2.2.1, .int .i64 e.2.2.2.2.2.2]
/-- A log's value. -/
abbrev lv (b t : Int) (v : Value) : Value := .agg #[.int .i64 b, .int .i64 t, v]
theorem ec_enc (e : E) : (Flat.enc e : List Value) = (ec e).toList := rfl

theorem rowE : Row Try.prog 36 35 E 56 := by
  obtain ⟨i, hi, hz, hsz, hby⟩ := info_parts (show (Try.prog.info? 35).map (fun i => (i.zero, i.size, i.bytes)) = some (some (.agg #[.int .i64 0, .int .i64 0, .int .i64 0, .int .i64 0, .int .i64 0, .int .i64 0, .int .i64 0]), 7, 56) by kernel_rfl)
  exact ⟨Try.underlying36, i, _, hi, hz, hsz, hby, rfl⟩
theorem ret_bool {x y : Bool} (h : x = y) : Ending.returned (.bool x) = .returned (.bool y) := by rw [h]
theorem ret_int {k : IntKind} {a b : Int} (h : a = b) : Ending.returned (.int k a) = .returned (.int k b) := by rw [h]

/-- The entry at k of a slice of entries: its cells. -/
theorem Sl.entry {w : World} {B n c : Nat} {A : Option Addr} {l : List E} (h : Sl w B (.slice A n c) l) (k : Nat) (hk : k < l.length) :
    ∃ b off, A = some ⟨b, off, none⟩ ∧ b < B ∧ w.cell? ⟨b, off + k * 7, none⟩ = some (.int .i64 (l[k]).1) ∧ w.cell? ⟨b, off + k * 7 + 1, none⟩ = some (.int .i64 (l[k]).2.1) ∧ w.cell? ⟨b, off + k * 7 + 2, none⟩ = some (.int .i64 (l[k]).2.2.1) ∧
      w.cell? ⟨b, off + k * 7 + 3, none⟩ = some (.int .i64 (l[k]).2.2.2.1) ∧ w.cell? ⟨b, off + k * 7 + 4, none⟩ = some (.int .i64 (l[k]).2.2.2.2.1) ∧ w.cell? ⟨b, off + k * 7 + 5, none⟩ = some (.int .i64 (l[k]).2.2.2.2.2.1) ∧
      w.cell? ⟨b, off + k * 7 + 6, none⟩ = some (.int .i64 (l[k]).2.2.2.2.2.2) ∧ Flat.wf l[k] := by
  have hr := h.room
  obtain ⟨b, off, ds, e, hb, h1, h2⟩ := h.at_ k (by omega) hk
  obtain ⟨rfl, hw⟩ := Flat.iff.1 h1
  have g : ∀ j u, (ec l[k]).toList[j]? = some u → w.cell? ⟨b, off + k * 7 + j, none⟩ = some u := h2
  exact ⟨b, off, e, hb, g 0 _ rfl, g 1 _ rfl, g 2 _ rfl, g 3 _ rfl, g 4 _ rfl, g 5 _ rfl, g 6 _ rfl, hw⟩
/-- A block of three cells. -/
theorem Whole.c3 {w : World} {g : Nat} {t : TypeId} {x0 x1 x2 : Value} (h : Whole w g t #[x0, x1, x2]) : w.cell? ⟨g, 0, none⟩ = some x0 ∧ w.cell? ⟨g, 1, none⟩ = some x1 ∧ w.cell? ⟨g, 2, none⟩ = some x2 := ⟨h.cell 0, h.cell 1, h.cell 2⟩
theorem Whole.f3 {w : World} {g : Nat} {t : TypeId} {x0 x1 x2 : Value} (h : Whole w g t #[x0, x1, x2]) : w.frozen? ⟨g, 0, none⟩ = false ∧ w.frozen? ⟨g, 1, none⟩ = false ∧ w.frozen? ⟨g, 2, none⟩ = false := ⟨h.free 0, h.free 1, h.free 2⟩
/-- .. all stored anew. -/
theorem Whole.set3 {w : World} {g : Nat} {t : TypeId} {x0 x1 x2 : Value} (h : Whole w g t #[x0, x1, x2]) (y0 y1 y2 : Value) : Whole (((w.setCell ⟨g, 0, none⟩ y0).setCell ⟨g, 1, none⟩ y1).setCell ⟨g, 2, none⟩ y2) g t #[y0, y1, y2] := ((h.set 0 y0).set 1 y1).set 2 y2
theorem below_set3 {B : Nat} {a w : World} (h : Below B a w) {g : Nat} (hg : B ≤ g) (y0 y1 y2 : Value) : Below B a (((w.setCell ⟨g, 0, none⟩ y0).setCell ⟨g, 1, none⟩ y1).setCell ⟨g, 2, none⟩ y2) := ((h.setCell hg y0).setCell hg y1).setCell hg y2
/-- .. its term alone. -/
theorem Sl.term {w : World} {B n c : Nat} {A : Option Addr} {l : List E} (h : Sl w B (.slice A n c) l) (k : Nat) (hk : k < l.length) :
    ∃ b off, A = some ⟨b, off, none⟩ ∧ w.cell? ⟨b, off + k * 7, none⟩ = some (.int .i64 (l[k]).1) := by
  obtain ⟨b, off, h1, _, h2, _⟩ := h.entry k hk
  exact ⟨b, off, h1, h2⟩
end Go.Proofs.Ytdgfopiagfibkaa
