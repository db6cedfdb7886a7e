/-
  Parts that the statement rests on, joined: Frame.
-/
import Derived.Test.YtjcljkbalpgfdaaM4
import Derived.Test.YtjcljkbalpgfdaaM11
import Derived.Test.YtjcljkbalpgfdaaRows
import Derived.ProofKit
import Derived.OpenShut
import Derived.ChangeOld
import Derived.Deep.DeepHandedRow
import Derived.Lib.LaidTab
/-
  What the statements of this seat share: how their arguments read.
-/








namespace Go.Proofs.Ytjcljkbalpgfdaa
open Go.WideShapes Go.ChangeShapes Go.ChangeAt Go.RowKit

theorem own : ownKnob Try.prog.godebug = none := by kernel_rfl
theorem laidOut : laidOutB Try.prog = true := by kernel_rfl

/-- What an argument's reading gives. -/
theorem arg_of {t : TypeId} {α : Type} [Rep α] (ho : Opens Try.prog t α) {H : Type} {enc : TypeId × Value → H} {W : World} {base : Nat} {hd : Bool} {v : Value} {d : DataW H} {p : List MemPlace}
    (h : DataW.Trod enc Try.prog W base (fun _ => true) hd t v d p) : ∃ a : α, fits W W.heap.size v.cells.toList a := by
  obtain ⟨fuel, hf⟩ := h
  exact ho (fun _ => rfl) hf
theorem trod_old {H : Type} {enc : TypeId × Value → H} {W : World} {base : Nat} {sp : Nat → Bool} {hd : Bool} {t : TypeId} {v : Value} {d : DataW H} {p : List MemPlace}
    (h : DataW.Trod enc Try.prog W base sp hd t v d p) : ∀ x ∈ p, x.block < W.heap.size := by
  obtain ⟨m, hm⟩ := h
  exact DataW.trod_lt m _ _ _ hm
theorem wf_i64 {n : Int} (h : (Lit.int .i64 n).wf = true) : -9223372036854775808 ≤ n ∧ n ≤ 9223372036854775807 := by
  simp [Lit.wf, IntKind.min, IntKind.max, IntKind.signed, IntKind.bits] at h; omega
/-- A slice's value that reads as a list. -/
theorem sl_of {α : Type} [Rep α] {W : World} {B : Nat} {a : Option Addr} {n c : Nat} {l : List α} (h : fits W B (Value.slice a n c).cells.toList l) : Sl W B (.slice a n c) l := by
  obtain ⟨v, hv, hs⟩ := h
  have e : (Value.slice a n c).cells.toList = [.slice a n c] := rfl
  rw [e] at hv
  injection hv with hv
  rw [hv]
  exact hs

theorem opens_cmd : Opens Try.prog 43 (Int × Int × Int × Int × Int × Int) :=
  opens_struct Try.underlying43 (by kernel_rfl) (opensFs_cons rfl (by kernel_rfl) (opens_int Try.underlying3) (opensFs_cons rfl (by kernel_rfl) (opens_int Try.underlying3) (opensFs_cons rfl (by kernel_rfl) (opens_int Try.underlying3)
    (opensFs_cons rfl (by kernel_rfl) (opens_int Try.underlying3) (opensFs_cons rfl (by kernel_rfl) (opens_int Try.underlying3) (opensFs_one rfl (by kernel_rfl) (opens_int Try.underlying3)))))))
theorem opens_entry : Opens Try.prog 55 E :=
  opens_struct Try.underlying55 (by kernel_rfl) (opensFs_cons rfl (by kernel_rfl) (opens_int Try.underlying3) (opensFs_one rfl (by kernel_rfl) opens_cmd))
theorem opens_entries : Opens Try.prog 24 (List E) := opens_slice Try.underlying24 (by kernel_rfl) opens_entry
theorem opens_log : Opens Try.prog 26 L :=
  opens_struct Try.underlying26 (by kernel_rfl) (opensFs_cons rfl (by kernel_rfl) (opens_int Try.underlying3) (opensFs_cons rfl (by kernel_rfl) (opens_int Try.underlying3) (opensFs_one rfl (by kernel_rfl) opens_entries)))
/-- A value of a log. -/
theorem log_of {W : World} {B : Nat} {cs : Array Value} {f : L} (h : fits W B (Value.agg cs).cells.toList f) : ∃ (b t : Int) (sL : Value) (l : List E), cs = #[.int .i64 b, .int .i64 t, sL] ∧ Sl W B sL l ∧ (-9223372036854775808 ≤ b ∧ b ≤ 9223372036854775807) ∧ (-9223372036854775808 ≤ t ∧ t ≤ 9223372036854775807) := by
  obtain ⟨d1, d2, e, ⟨rfl, h1⟩, ⟨d3, d4, rfl, ⟨rfl, h2⟩, ⟨v, rfl, h3⟩⟩⟩ := h
  have e2 : (Value.agg cs).cells.toList = cs.toList := rfl
  rw [e2] at e
  refine ⟨f.1, f.2.1, v, f.2.2, ?_, h3, h1, h2⟩
  apply Array.toList_inj.1
  rw [e]; rfl
theorem opens_ballot : Opens Try.prog 23 (Int × Int) :=
  opens_struct Try.underlying23 (by kernel_rfl) (opensFs_cons rfl (by kernel_rfl) (opens_int Try.underlying3) (opensFs_one rfl (by kernel_rfl) (opens_int Try.underlying3)))
theorem opens_msg : Opens Try.prog 41 M :=
  opens_struct Try.underlying41 (by kernel_rfl) (opensFs_cons rfl (by kernel_rfl) (opens_int Try.underlying3) (opensFs_cons rfl (by kernel_rfl) (opens_int Try.underlying3) (opensFs_cons rfl (by kernel_rfl) (opens_int Try.underlying3) (opensFs_cons rfl (by kernel_rfl) (opens_int Try.underlying3) (opensFs_cons rfl (by kernel_rfl) (opens_int Try.underlying3) (opensFs_cons rfl (by kernel_rfl) (opens_int Try.underlying3) (opensFs_cons rfl (by kernel_rfl) (opens_int Try.underlying3) (opensFs_cons rfl (by kernel_rfl) (opens_bool Try.underlying4) (opensFs_one rfl (by kernel_rfl) opens_entries)))))))))
/-- A value of a ballot. -/
theorem ballot_of {W : World} {B : Nat} {cs : Array Value} {f : Int × Int} (h : fits W B (Value.agg cs).cells.toList f) : ∃ t v : Int, cs = #[.int .i64 t, .int .i64 v] := by
  obtain ⟨d1, d2, e, ⟨rfl, _⟩, ⟨rfl, _⟩⟩ := h
  have e2 : (Value.agg cs).cells.toList = cs.toList := rfl
  rw [e2] at e
  refine ⟨f.1, f.2, Array.toList_inj.1 ?_⟩
  rw [e]; rfl
/-- A value of a message. -/
theorem msg_of {W : World} {B : Nat} {cs : Array Value} {f : M} (h : fits W B (Value.agg cs).cells.toList f) : ∃ (k f o t i u c : Int) (y : Bool) (v : Value) (L : List E), cs = mc k f o t i u c y v ∧ Sl W B v L ∧ (-9223372036854775808 ≤ i ∧ i ≤ 9223372036854775807) := by
  obtain ⟨d1, e1, e, ⟨rfl, _⟩, ⟨d2, e2, rfl, ⟨rfl, _⟩, ⟨d3, e3, rfl, ⟨rfl, _⟩, ⟨d4, e4, rfl, ⟨rfl, _⟩, ⟨d5, e5, rfl, ⟨rfl, w5⟩, ⟨d6, e6, rfl, ⟨rfl, _⟩, ⟨d7, e7, rfl, ⟨rfl, _⟩, ⟨d8, e8, rfl, hy, ⟨v, rfl, hs⟩⟩⟩⟩⟩⟩⟩⟩⟩ := h
  have hy2 : d8 = [.bool f.2.2.2.2.2.2.2.1] := hy
  subst hy2
  have e2 : (Value.agg cs).cells.toList = cs.toList := rfl
  rw [e2] at e
  refine ⟨f.1, f.2.1, f.2.2.1, f.2.2.2.1, f.2.2.2.2.1, f.2.2.2.2.2.1, f.2.2.2.2.2.2.1, f.2.2.2.2.2.2.2.1, v, f.2.2.2.2.2.2.2.2, Array.toList_inj.1 ?_, hs, w5⟩
  rw [e]; rfl
theorem opens_ev : Opens Try.prog 45 Ev := opens_struct Try.underlying45 (by kernel_rfl) (opensFs_cons rfl (by kernel_rfl) (opens_int Try.underlying3) (opensFs_cons rfl (by kernel_rfl) opens_msg (opensFs_one rfl (by kernel_rfl) opens_cmd)))
theorem opens_evs : Opens Try.prog 27 (List Ev) := opens_slice Try.underlying27 (by kernel_rfl) opens_ev
theorem opens_cmds : Opens Try.prog 51 (List Rf.Cmd) := opens_slice Try.underlying51 (by kernel_rfl) opens_cmd
end Go.Proofs.Ytjcljkbalpgfdaa
