/-
  What the statements of this seat share: how their arguments read.
-/
import Derived.Test.YtpfhigcfpchkkaaRows
import Derived.Test.YtpfhigcfpchkkaaSe
import Derived.ProofKit
import Derived.OpenShut
import Derived.ChangeOld
import Derived.Deep.DeepHandedRow
import Derived.Lib.LaidTab
namespace Go.Proofs.Ytpfhigcfpchkkaa
open Go.WideShapes Go.ChangeShapes Go.ChangeAt Go.RowKit

theorem own : ownKnob Try.prog.godebug = none := by kernel_rfl
theorem laidOut : laidOutB Try.prog = true := by kernel_rfl

/-- What an argument's reading gives. -/
theorem arg_of {t : TypeId} {α : Type} [Rep α] (ho : Opens Try.prog t α) {H : Type} {enc : TypeId × Value → H} {W : World} {base : Nat} {hd : Bool} {v : Value} {d : DataW H} {p : List MemPlace}
    (h : DataW.Trod enc Try.prog W base (fun _ => true) hd t v d p) : ∃ a : α, fits W W.heap.size v.cells.toList a := by
  obtain ⟨fuel, hf⟩ := h
  exact ho (fun _ => rfl) hf
theorem trod_old {H : Type} {enc : TypeId × Value → H} {W : World} {base : Nat} {sp : Nat → Bool} {hd : Bool} {t : TypeId} {v : Value} {d : DataW H} {p : List MemPlace}
    (h : DataW.Trod enc Try.prog W base sp hd t v d p) : ∀ x ∈ p, x.block < W.heap.size := by
  obtain ⟨m, hm⟩ := h
  exact DataW.trod_lt m _ _ _ hm
theorem wf_i64 {n : Int} (h : (Lit.int .i64 n).wf = true) : -9223372036854775808 ≤ n ∧ n ≤ 9223372036854775807 := by
  simp [Lit.wf, IntKind.min, IntKind.max, IntKind.signed, IntKind.bits] at h; omega
/-- A slice's value that reads as a list. -/
theorem sl_of {α : Type} [Rep α] {W : World} {B : Nat} {a : Option Addr} {n c : Nat} {l : List α} (h : fits W B (Value.slice a n c).cells.toList l) : Sl W B (.slice a n c) l := by
  obtain ⟨v, hv, hs⟩ := h
  have e : (Value.slice a n c).cells.toList = [.slice a n c] := rfl
  rw [e] at hv
  injection hv with hv
  rw [hv]
  exact hs

theorem opens_ints : Opens Try.prog 34 (List Int) := opens_slice Try.underlying34 (by kernel_rfl) (opens_int Try.underlying3)
theorem opens_sess : Opens Try.prog 37 Se :=
  opens_struct Try.underlying37 (by kernel_rfl) (opensFs_cons rfl (by kernel_rfl) (opens_int Try.underlying3) (opensFs_cons rfl (by kernel_rfl) (opens_int Try.underlying3) (opensFs_one rfl (by kernel_rfl) (opens_int Try.underlying3))))
theorem opens_sesss : Opens Try.prog 22 (List Se) := opens_slice Try.underlying22 (by kernel_rfl) opens_sess
end Go.Proofs.Ytpfhigcfpchkkaa
