/-
  What the statements of this seat share: how their arguments read.
-/
import Derived.Test.YtniibcjlmlmboaaRows
import Derived.Test.YtniibcjlmlmboaaTy
import Derived.ProofKit
import Derived.OpenShut
import Derived.ChangeOld
import Derived.Deep.DeepHandedRow
import Derived.Lib.LaidTab
namespace Go.Proofs.Ytniibcjlmlmboaa
open Go.WideShapes Go.ChangeShapes Go.ChangeAt Go.RowKit

theorem own : ownKnob Try.prog.godebug = none := by kernel_rfl
theorem laidOut : laidOutB Try.prog = true := by kernel_rfl

/-- What an argument's reading gives. -/
theorem arg_of {t : TypeId} {α : Type} [Rep α] (ho : Opens Try.prog t α) {H : Type} {enc : TypeId × Value → H} {W : World} {base : Nat} {hd : Bool} {v : Value} {d : DataW H} {p : List MemPlace}
    (h : DataW.Trod enc Try.prog W base (fun _ => true) hd t v d p) : ∃ a : α, fits W W.heap.size v.cells.toList a := by
  obtain ⟨fuel, hf⟩ := h
  exact ho (fun _ => rfl) hf
theorem trod_old {H : Type} {enc : TypeId × Value → H} {W : World} {base : Nat} {sp : Nat → Bool} {hd : Bool} {t : TypeId} {v : Value} {d : DataW H} {p : List MemPlace}
    (h : DataW.Trod enc Try.prog W base sp hd t v d p) : ∀ x ∈ p, x.block < W.heap.size := by
  obtain ⟨m, hm⟩ := h
  exact DataW.trod_lt m _ _ _ hm
theorem wf_i64 {n : Int} (h : (Lit.int .i64 n).wf = true) : -9223372036854775808 ≤ n ∧ n ≤ 9223372036854775807 := by
  simp [Lit.wf, IntKind.min, IntKind.max, IntKind.signed, IntKind.bits] at h; omega
/-- A slice's value that reads as a list. -/
theorem sl_of {α : Type} [Rep α] {W : World} {B : Nat} {a : Option Addr} {n c : Nat} {l : List α} (h : fits W B (Value.slice a n c).cells.toList l) : Sl W B (.slice a n c) l := by
  obtain ⟨v, hv, hs⟩ := h
  have e : (Value.slice a n c).cells.toList = [.slice a n c] := rfl
  rw [e] at hv
  injection hv with hv
  rw [hv]
  exact hs

theorem opens_bytes : Opens Try.prog 23 (List UInt8) := opens_slice Try.underlying23 (by kernel_rfl) (opens_u8 Try.underlying5)
theorem opens_ints : Opens Try.prog 22 (List Int) := opens_slice Try.underlying22 (by kernel_rfl) (opens_int Try.underlying3)
theorem opens_fields : Opens Try.prog 25 (List Int × List UInt8) :=
  opens_struct Try.underlying25 (by kernel_rfl) (opensFs_cons rfl (by kernel_rfl) opens_ints (opensFs_one rfl (by kernel_rfl) opens_bytes))
theorem opens_fieldss : Opens Try.prog 41 (List (List Int × List UInt8)) := opens_slice Try.underlying41 (by kernel_rfl) opens_fields
/-- A value of fields. -/
theorem fields_of {W : World} {B : Nat} {cs : Array Value} {f : List Int × List UInt8} (h : fits W B (Value.agg cs).cells.toList f) : ∃ sN sD, cs = #[sN, sD] ∧ Sl W B sN f.1 ∧ Sl W B sD f.2 := by
  obtain ⟨d1, d2, e, ⟨v1, rfl, h1⟩, ⟨v2, rfl, h2⟩⟩ := h
  have e2 : (Value.agg cs).cells.toList = cs.toList := rfl
  rw [e2] at e
  refine ⟨v1, v2, ?_, h1, h2⟩
  apply Array.toList_inj.1
  rw [e]; rfl
end Go.Proofs.Ytniibcjlmlmboaa
