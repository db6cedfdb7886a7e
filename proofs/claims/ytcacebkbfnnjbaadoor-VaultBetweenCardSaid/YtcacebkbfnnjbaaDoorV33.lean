/-
  Parts that the statement rests on, joined: Frame.
-/
import Derived.Test.YtcacebkbfnnjbaaDoorV32
import Derived.Test.YtcacebkbfnnjbaaDoorCards
import Derived.Test.YtcacebkbfnnjbaaDoorTie
import Derived.ProofKit
import Derived.OpenShut
import Derived.ChangeOld
import Derived.Deep.DeepHandedRow
import Derived.Lib.LaidTab
/-
  What the statements of this seat share: what their rows' list gives, how their arguments read, and a world for the witness.
-/








namespace Go.Proofs.YtcacebkbfnnjbaaDoor
open Go.WideShapes Go.ChangeShapes Go.ChangeAt Go.RowKit

theorem own : ownKnob Tryd.prog.godebug = none := by kernel_rfl
theorem laidOut : laidOutB Tryd.prog = true := by kernel_rfl
theorem gTab : Tryd.prog.globalNamed "suture/crc.nibbles" = some 0 := by kernel_rfl
theorem gTabType : (Tryd.prog.globals[0]?).map (·.type) = some 126 := by kernel_rfl
theorem cellsTab : Tryd.prog.cellsOf 126 = 16 := by kernel_rfl
theorem cellsWord : Tryd.prog.cellsOf 108 = 1 := by kernel_rfl

/-- From the row's list: block 0 holds the table. -/
theorem tab_of_laid {W : World} (h : laidMetH Tryd.prog [("suture/crc.nibbles", Rows.laid_suture_crc_nibbles)] W) : Tab W := by
  have hT : Lib.TabIs Tryd.prog W "suture/crc.nibbles" .u32 tabNums :=
    Lib.tabIs_of_head (rest := []) gTab gTabType Tryd.underlying126 Tryd.underlying108 cellsWord cellsTab h
  unfold Lib.TabIs World.var? at hT
  rw [gTab] at hT
  simp only [Option.bind_some] at hT
  unfold Tab
  split at hT
  · rename_i cs t fr hh
    injection hT with hT
    subst hT
    exact ⟨_, _, hh⟩
  · cases hT

/-- What an argument's reading gives. -/
theorem arg_of {t : TypeId} {α : Type} [Rep α] (ho : Opens Tryd.prog t α) {H : Type} {enc : TypeId × Value → H} {W : World} {base : Nat} {hd : Bool} {v : Value} {d : DataW H} {p : List MemPlace}
    (h : DataW.Trod enc Tryd.prog W base (fun _ => true) hd t v d p) : ∃ a : α, fits W W.heap.size v.cells.toList a := by
  obtain ⟨fuel, hf⟩ := h
  exact ho (fun _ => rfl) hf
theorem trod_old {H : Type} {enc : TypeId × Value → H} {W : World} {base : Nat} {sp : Nat → Bool} {hd : Bool} {t : TypeId} {v : Value} {d : DataW H} {p : List MemPlace}
    (h : DataW.Trod enc Tryd.prog W base sp hd t v d p) : ∀ x ∈ p, x.block < W.heap.size := by
  obtain ⟨m, hm⟩ := h
  exact DataW.trod_lt m _ _ _ hm
theorem wf_u32 {n : Int} (h : (Lit.int .u32 n).wf = true) : 0 ≤ n ∧ n < 4294967296 := by
  simp [Lit.wf, IntKind.min, IntKind.max, IntKind.signed, IntKind.bits] at h; omega
theorem wf_i64 {n : Int} (h : (Lit.int .i64 n).wf = true) : -9223372036854775808 ≤ n ∧ n ≤ 9223372036854775807 := by
  simp [Lit.wf, IntKind.min, IntKind.max, IntKind.signed, IntKind.bits] at h; omega
/-- A slice's value that reads as a list. -/
theorem sl_of {α : Type} [Rep α] {W : World} {B : Nat} {a : Option Addr} {n c : Nat} {l : List α} (h : fits W B (Value.slice a n c).cells.toList l) : Sl W B (.slice a n c) l := by
  obtain ⟨v, hv, hs⟩ := h
  have e : (Value.slice a n c).cells.toList = [.slice a n c] := rfl
  rw [e] at hv
  injection hv with hv
  rw [hv]
  exact hs

theorem opens_bytes : Opens Tryd.prog 28 (List UInt8) := opens_slice Tryd.underlying28 (by kernel_rfl) (opens_u8 Tryd.underlying5)
theorem opens_cmd : Opens Tryd.prog 55 (Int × Int × Int × Int × Int × Int) :=
  opens_struct Tryd.underlying55 (by kernel_rfl) (opensFs_cons rfl (by kernel_rfl) (opens_int Tryd.underlying3) (opensFs_cons rfl (by kernel_rfl) (opens_int Tryd.underlying3) (opensFs_cons rfl (by kernel_rfl) (opens_int Tryd.underlying3)
    (opensFs_cons rfl (by kernel_rfl) (opens_int Tryd.underlying3) (opensFs_cons rfl (by kernel_rfl) (opens_int Tryd.underlying3) (opensFs_one rfl (by kernel_rfl) (opens_int Tryd.underlying3)))))))
theorem opens_entry : Opens Tryd.prog 57 E :=
  opens_struct Tryd.underlying57 (by kernel_rfl) (opensFs_cons rfl (by kernel_rfl) (opens_int Tryd.underlying3) (opensFs_one rfl (by kernel_rfl) opens_cmd))
theorem opens_entries : Opens Tryd.prog 31 (List E) := opens_slice Tryd.underlying31 (by kernel_rfl) opens_entry
theorem opens_log : Opens Tryd.prog 38 L :=
  opens_struct Tryd.underlying38 (by kernel_rfl) (opensFs_cons rfl (by kernel_rfl) (opens_int Tryd.underlying3) (opensFs_cons rfl (by kernel_rfl) (opens_int Tryd.underlying3) (opensFs_one rfl (by kernel_rfl) opens_entries)))
/-- A value of a log. -/
theorem log_of {W : World} {B : Nat} {cs : Array Value} {f : L} (h : fits W B (Value.agg cs).cells.toList f) : ∃ (b t : Int) (sL : Value) (l : List E), cs = #[.int .i64 b, .int .i64 t, sL] ∧ Sl W B sL l ∧ (-9223372036854775808 ≤ b ∧ b ≤ 9223372036854775807) ∧ (-9223372036854775808 ≤ t ∧ t ≤ 9223372036854775807) := by
  obtain ⟨d1, d2, e, ⟨rfl, h1⟩, ⟨d3, d4, rfl, ⟨rfl, h2⟩, ⟨v, rfl, h3⟩⟩⟩ := h
  have e2 : (Value.agg cs).cells.toList = cs.toList := rfl
  rw [e2] at e
  refine ⟨f.1, f.2.1, v, f.2.2, ?_, h3, h1, h2⟩
  apply Array.toList_inj.1
  rw [e]; rfl
theorem opens_ballot : Opens Tryd.prog 30 (Int × Int) :=
  opens_struct Tryd.underlying30 (by kernel_rfl) (opensFs_cons rfl (by kernel_rfl) (opens_int Tryd.underlying3) (opensFs_one rfl (by kernel_rfl) (opens_int Tryd.underlying3)))
/-- A value of a ballot. -/
theorem ballot_of {W : World} {B : Nat} {cs : Array Value} {f : Int × Int} (h : fits W B (Value.agg cs).cells.toList f) : ∃ t v : Int, cs = #[.int .i64 t, .int .i64 v] := by
  obtain ⟨d1, d2, e, ⟨rfl, _⟩, ⟨rfl, _⟩⟩ := h
  have e2 : (Value.agg cs).cells.toList = cs.toList := rfl
  rw [e2] at e
  refine ⟨f.1, f.2, Array.toList_inj.1 ?_⟩
  rw [e]; rfl
theorem opens_ev : Opens Tryd.prog 40 (Int × (Int × Int) × L × Int) := opens_struct Tryd.underlying40 (by kernel_rfl) (opensFs_cons rfl (by kernel_rfl) (opens_int Tryd.underlying3) (opensFs_cons rfl (by kernel_rfl) opens_ballot (opensFs_cons rfl (by kernel_rfl) opens_log (opensFs_one rfl (by kernel_rfl) (opens_int Tryd.underlying3)))))
theorem opens_evs : Opens Tryd.prog 22 (List (Int × (Int × Int) × L × Int)) := opens_slice Tryd.underlying22 (by kernel_rfl) opens_ev
theorem opens_ints : Opens Tryd.prog 52 (List Int) := opens_slice Tryd.underlying52 (by kernel_rfl) (opens_int Tryd.underlying3)

/-- A world for the witness: the settled one, the table holding what its initialiser lays. -/
noncomputable def laidWorld (os : Os) : World :=
  { World.holding Tryd.prog os ⟨#[], #[], []⟩ with heap := (World.holding Tryd.prog os ⟨#[], #[], []⟩).heap.modify 0 fun
      | .cells _ t frozen => .cells #[.int .u32 0, .int .u32 498536548, .int .u32 997073096, .int .u32 651767980, .int .u32 1994146192, .int .u32 1802195444, .int .u32 1303535960, .int .u32 1342533948, .int .u32 3988292384, .int .u32 4027552580, .int .u32 3604390888, .int .u32 3412177804, .int .u32 2607071920, .int .u32 2262029012, .int .u32 2685067896, .int .u32 3183342108] t frozen
      | o => o }
end Go.Proofs.YtcacebkbfnnjbaaDoor
