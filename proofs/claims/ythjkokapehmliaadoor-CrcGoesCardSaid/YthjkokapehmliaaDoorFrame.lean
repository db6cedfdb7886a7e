/-
  What the statements of this seat share: what their rows' list gives, how their arguments read, and a world for the witness.
-/
import Derived.Test.YthjkokapehmliaaDoorCards
import Derived.Test.YthjkokapehmliaaDoorTie
import Derived.Test.YthjkokapehmliaaDoorAwake
import Derived.ProofKit
import Derived.OpenShut
import Derived.ShutString
import Derived.ChangeOld
import Derived.Deep.DeepHandedRow
import Derived.Lib.LaidTab
namespace Go.Proofs.YthjkokapehmliaaDoor
open Go.WideShapes Go.ChangeShapes Go.ChangeAt Go.RowKit

theorem own : ownKnob Tryd.prog.godebug = none := by kernel_rfl
theorem laidOut : laidOutB Tryd.prog = true := by kernel_rfl
theorem gTab : Tryd.prog.globalNamed "suture/crc.nibbles" = some 0 := by kernel_rfl
theorem gTabType : (Tryd.prog.globals[0]?).map (·.type) = some 25 := by kernel_rfl
theorem cellsTab : Tryd.prog.cellsOf 25 = 16 := by kernel_rfl
theorem cellsWord : Tryd.prog.cellsOf 22 = 1 := by kernel_rfl
theorem cellsByte : Tryd.prog.cellsOf 5 = 1 := by kernel_rfl

/-- From the row's list: block 0 holds the table. -/
theorem tab_of_laid {W : World} (h : laidMetH Tryd.prog [("suture/crc.nibbles", Rows.laid_suture_crc_nibbles)] W) : Tab W := by
  have hT : Lib.TabIs Tryd.prog W "suture/crc.nibbles" .u32 tabNums :=
    Lib.tabIs_of_head (rest := []) gTab gTabType Tryd.underlying25 Tryd.underlying22 cellsWord cellsTab h
  unfold Lib.TabIs World.var? at hT
  rw [gTab] at hT
  simp only [Option.bind_some] at hT
  unfold Tab
  split at hT
  · rename_i cs t fr hh
    injection hT with hT
    subst hT
    exact ⟨_, _, hh⟩
  · cases hT

theorem wf_u8 {n : Int} (h : (Lit.int .u8 n).wf = true) : 0 ≤ n ∧ n < 256 := by
  simp [Lit.wf, IntKind.min, IntKind.max, IntKind.signed, IntKind.bits] at h; omega
theorem wf_u32 {n : Int} (h : (Lit.int .u32 n).wf = true) : 0 ≤ n ∧ n < 4294967296 := by
  simp [Lit.wf, IntKind.min, IntKind.max, IntKind.signed, IntKind.bits] at h; omega
theorem wf_i64 {n : Int} (h : (Lit.int .i64 n).wf = true) : -9223372036854775808 ≤ n ∧ n ≤ 9223372036854775807 := by
  simp [Lit.wf, IntKind.min, IntKind.max, IntKind.signed, IntKind.bits] at h; omega

/-- Bytes that came in. -/
def bytesOf (zs : List Int) : List UInt8 := zs.map fun n => UInt8.ofNat n.toNat

/-- An argument of bytes reads as a list of bytes. -/
theorem view {H : Type} {enc : TypeId × Value → H} {W : World} {base : Nat} {sp : Nat → Bool} {hd : Bool} {fuel : Nat} {a : Option Addr} {len cap : Nat} {x : DataW H × List MemPlace}
    (hsp : ∀ b, sp b = true) (h : DataW.trod enc Tryd.prog W base sp hd fuel 23 (Value.slice a len cap).cells.toList = some x) : ∃ l, l.length = len ∧ Rd W W.heap.size (.slice a len cap) l := by
  rcases open_ints Tryd.underlying23 Tryd.underlying5 cellsByte h with ⟨hcs, _⟩ | ⟨y, n, c, zs, hcs, _, hl, _, hz, _, hcell, hwz⟩
  · simp [Value.cells] at hcs
    obtain ⟨rfl, rfl, rfl⟩ := hcs
    exact ⟨[], rfl, Rd.nil _ _⟩
  · simp [Value.cells] at hcs
    obtain ⟨rfl, rfl, rfl⟩ := hcs
    rw [if_pos (hsp _)] at hz
    have hlen : (bytesOf (zs.take len)).length = len := by simp [bytesOf]; omega
    refine ⟨bytesOf (zs.take len), hlen, _, _, by rw [hlen], by omega, fun h0 => ?_⟩
    obtain ⟨b, off, rfl, hk⟩ := ints_at hcell (by omega)
    have hb : b < W.heap.size := block_lt_of_cell (hk 0 (by omega))
    refine ⟨b, off, rfl, hb, fun k hkl => ?_⟩
    have hkz : k < zs.length := by omega
    have hw := wf_u8 (hwz zs[k] (List.getElem_mem _))
    rw [hk k hkz]
    have e : zs.getD k 0 = zs[k] := by simp [List.getD, hkz]
    have e2 : (bytesOf (zs.take len))[k] = UInt8.ofNat (zs[k]).toNat := by simp [bytesOf]
    have e3 : (UInt8.ofNat (zs[k]).toNat).toNat = (zs[k]).toNat := UInt8.toNat_ofNat_of_lt' (by show _ < 256; omega)
    rw [e, e2, e3]
    congr 2
    omega

/-- A world for the witness: the settled one, the table holding what its initialiser lays. -/
noncomputable def laidWorld (os : Os) : World :=
  { World.holding Tryd.prog os ⟨#[], #[], []⟩ with heap := (World.holding Tryd.prog os ⟨#[], #[], []⟩).heap.modify 0 fun
      | .cells _ t frozen => .cells #[.int .u32 0, .int .u32 498536548, .int .u32 997073096, .int .u32 651767980, .int .u32 1994146192, .int .u32 1802195444, .int .u32 1303535960, .int .u32 1342533948, .int .u32 3988292384, .int .u32 4027552580, .int .u32 3604390888, .int .u32 3412177804, .int .u32 2607071920, .int .u32 2262029012, .int .u32 2685067896, .int .u32 3183342108] t frozen
      | o => o }
end Go.Proofs.YthjkokapehmliaaDoor
