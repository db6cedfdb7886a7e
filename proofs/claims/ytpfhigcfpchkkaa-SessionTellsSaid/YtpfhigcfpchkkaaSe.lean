/-
  Sessions: how their cells read; the rows of the program's table of types that the statements of sessions use; results in a cell.
-/
import Derived.Test.YtpfhigcfpchkkaaProg
import Derived.Test.YtpfhigcfpchkkaaRep
import Derived.WalkKit
import Derived.WalkLawsBesides
import Derived.Lib.Hide
import Derived.KernelRfl
import Derived.Laws.ResultCell
namespace Go.Proofs.Ytpfhigcfpchkkaa
open Go.RowKit

/-- A session: client, number, answer. -/
abbrev Se := Int × Int × Int
/-- A session's cells. -/
abbrev sc (s : Se) : Array Value := #[.int .i64 s.1, .int .i64 s.2.1, .int .i64 s.2.2]
theorem sc_enc (s : Se) : (Flat.enc s : List Value) = (sc s).toList := rfl

theorem rowS : Row Try.prog 22 37 Se 24 := by
  obtain ⟨i, hi, hz, hsz, hby⟩ := info_parts (show (Try.prog.info? 37).map (fun i => (i.zero, i.size, i.bytes)) = some (some (.agg #[.int .i64 0, .int .i64 0, .int .i64 0]), 3, 24) by kernel_rfl)
  exact ⟨Try.underlying22, i, _, hi, hz, hsz, hby, rfl⟩
theorem ret_bool {x y : Bool} (h : x = y) : Ending.returned (.bool x) = .returned (.bool y) := by rw [h]
theorem ret_int {k : IntKind} {a b : Int} (h : a = b) : Ending.returned (.int k a) = .returned (.int k b) := by rw [h]

/-- The session at k of a slice of sessions: its cells. -/
theorem Sl.sess {w : World} {B n c : Nat} {A : Option Addr} {l : List Se} (h : Sl w B (.slice A n c) l) (k : Nat) (hk : k < l.length) :
    ∃ b off, A = some ⟨b, off, none⟩ ∧ b < B ∧ w.cell? ⟨b, off + k * 3, none⟩ = some (.int .i64 (l[k]).1) ∧ w.cell? ⟨b, off + k * 3 + 1, none⟩ = some (.int .i64 (l[k]).2.1) ∧ w.cell? ⟨b, off + k * 3 + 2, none⟩ = some (.int .i64 (l[k]).2.2) ∧ Flat.wf l[k] := by
  have hr := h.room
  obtain ⟨b, off, ds, e, hb, h1, h2⟩ := h.at_ k (by omega) hk
  obtain ⟨rfl, hw⟩ := Flat.iff.1 h1
  have g : ∀ j u, (sc l[k]).toList[j]? = some u → w.cell? ⟨b, off + k * 3 + j, none⟩ = some u := h2
  exact ⟨b, off, e, hb, g 0 _ rfl, g 1 _ rfl, g 2 _ rfl, hw⟩
/-- .. in every world that keeps what lies below B. -/
theorem Sl.sessW {w0 w : World} {B n c : Nat} {A : Option Addr} {l : List Se} (h : Sl w0 B (.slice A n c) l) (k : Nat) (hk : k < l.length) (hb : Below B w0 w) :
    ∃ b off, A = some ⟨b, off, none⟩ ∧ b < B ∧ w.cell? ⟨b, off + k * 3, none⟩ = some (.int .i64 (l[k]).1) ∧ w.cell? ⟨b, off + k * 3 + 1, none⟩ = some (.int .i64 (l[k]).2.1) ∧ w.cell? ⟨b, off + k * 3 + 2, none⟩ = some (.int .i64 (l[k]).2.2) ∧ Flat.wf l[k] := (h.below hb).sess k hk
/-- A block of three cells. -/
theorem Whole.c3 {w : World} {g : Nat} {t : TypeId} {x0 x1 x2 : Value} (h : Whole w g t #[x0, x1, x2]) : w.cell? ⟨g, 0, none⟩ = some x0 ∧ w.cell? ⟨g, 1, none⟩ = some x1 ∧ w.cell? ⟨g, 2, none⟩ = some x2 := ⟨h.cell 0, h.cell 1, h.cell 2⟩
theorem Whole.f3 {w : World} {g : Nat} {t : TypeId} {x0 x1 x2 : Value} (h : Whole w g t #[x0, x1, x2]) : w.frozen? ⟨g, 0, none⟩ = false ∧ w.frozen? ⟨g, 1, none⟩ = false ∧ w.frozen? ⟨g, 2, none⟩ = false := ⟨h.free 0, h.free 1, h.free 2⟩
/-- .. all stored anew. -/
theorem Whole.set3 {w : World} {g : Nat} {t : TypeId} {x0 x1 x2 : Value} (h : Whole w g t #[x0, x1, x2]) (y0 y1 y2 : Value) : Whole (((w.setCell ⟨g, 0, none⟩ y0).setCell ⟨g, 1, none⟩ y1).setCell ⟨g, 2, none⟩ y2) g t #[y0, y1, y2] := ((h.set 0 y0).set 1 y1).set 2 y2
theorem below_set3 {B : Nat} {a w : World} (h : Below B a w) {g : Nat} (hg : B ≤ g) (y0 y1 y2 : Value) : Below B a (((w.setCell ⟨g, 0, none⟩ y0).setCell ⟨g, 1, none⟩ y1).setCell ⟨g, 2, none⟩ y2) := ((h.setCell hg y0).setCell hg y1).setCell hg y2
theorem Whole.drewN {w : World} {g : Nat} {t : TypeId} {cs : Array Value} (h : Whole w g t cs) (n : Nat) : Whole (w.drewN n) g t cs := h
theorem SlS.drewN {α : Type} [Rep α] {w : World} {S : Nat → Prop} {v : Value} {l : List α} (h : SlS w S v l) (n : Nat) : SlS (w.drewN n) S v l := h.stay fun _ _ _ => rfl
theorem Sl.drewN {α : Type} [Rep α] {w : World} {B : Nat} {v : Value} {l : List α} (h : Sl w B v l) (n : Nat) : Sl (w.drewN n) B v l := SlS.drewN h n
theorem results_sess {fn : Func} {p : Tmp} (h : fn.results = #[.cell p 37]) {tmps : Array Value} {w : World} {g : Nat} {x0 x1 x2 : Value} (hp : tmps.getD p undef = .pointer (some ⟨g, 0, none⟩)) (hg : Whole w g 37 #[x0, x1, x2]) :
    (results fn tmps).run Try.prog w = .ok (.agg #[x0, x1, x2]) w :=
  results_cell_row h tmps w g _ _ _ _ hp hg Try.underlying37 rfl (by kernel_rfl)
end Go.Proofs.Ytpfhigcfpchkkaa
