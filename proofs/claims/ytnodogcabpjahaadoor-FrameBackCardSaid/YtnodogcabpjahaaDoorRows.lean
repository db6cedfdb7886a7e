/-
  NARROWER THAN 'FOR EVERY INPUT', by the rows' own cells (each row's printed sentence says how): FramePuts: laid · FrameGets: laid · FrameBack: laid · FrameOnce: laid · FrameCuts: laid · FrameBursts: laid · FrameStops: laid.
  DERIVED. THE GIVEN ROWS OF THIS SEAT. 7 by the template 'for every input the law returns true; each argument reads behind the call as it read before'; 0 by the template 'total and deterministic' (their statements: YtnodogcabpjahaaDoorTotals.lean).
  GIVEN WITH THE SEED: the statements are not yours to turn. If you find one false, say at which input.
  Laid BY PROGRAM, IN A SANDBOX (cutbox-rows.mjs): the forced cells as the released guide's own fill.sh prints them over the translation d80cdfc2041cc8c9… (all of the seat's roots in one cut). By AI agents, Wed Nov 11 2026. No macro, syntax, notation, axiom, sorry.
-/
import Derived.Test.YtnodogcabpjahaaDoorChecked
import GoSem.Claim
import GoSem.ClaimJoined
import GoSem.ClaimMapViews
import Derived.JoinedTies
import Derived.KernelRfl
namespace Go.Proofs.YtnodogcabpjahaaDoor
/- THE CELL 'sum', in the pinned program and in every row, IS THE sha256 OF THE DUMP (.gsa) THAT YtnodogcabpjahaaDoorProg.lean LOADS. Nothing in Lean hashes anything: it is a label: what it is worth is what the hold of that sum in a sandbox is worth. -/
noncomputable def Tryd.pinned : Pinned := { name := "ytnodogcabpjahaadoor", sum := "d80cdfc2041cc8c9b655cdbaba0ed39f8765fa43d80ef316a6d12a4e3b6236ee", checked := Tryd.checked }
namespace Rows
def none {H : Type} : Left H := { results := [], args := [] }

/- WHAT THE LISTED PACKAGE-LEVEL VARIABLES READ AS WHEN THE CALL BEGINS. Each datum BY PROGRAM (the guide's laid-datum.mjs) off the statement by which the dump's own 'gosem.cut.vars' lays the variable. In a bare row this is a premise. The card (YtnodogcabpjahaaDoorCards.lean) ties it to the program's text. -/
def laid_suture_crc_nibbles {H : Type} : DataW H := .agg [.lit (.int .u32 0), .lit (.int .u32 498536548), .lit (.int .u32 997073096), .lit (.int .u32 651767980), .lit (.int .u32 1994146192), .lit (.int .u32 1802195444), .lit (.int .u32 1303535960), .lit (.int .u32 1342533948), .lit (.int .u32 3988292384), .lit (.int .u32 4027552580), .lit (.int .u32 3604390888), .lit (.int .u32 3412177804), .lit (.int .u32 2607071920), .lit (.int .u32 2262029012), .lit (.int .u32 2685067896), .lit (.int .u32 3183342108)]

/-- 'suturelaw03.FramePuts': WHATEVER THE INPUT: true; the input reads as it did. -/
def framePutsSpec : ChangeSpec := { name := "framePuts", fn := fun _ => fun
  | [d] => { results := [.lit (.bool true)], args := [d] }
  | _ => none }
def framePutsRow : OpenClaim := { program := "ytnodogcabpjahaadoor", sum := "d80cdfc2041cc8c9b655cdbaba0ed39f8765fa43d80ef316a6d12a4e3b6236ee", func := "suture/suturelaw03.FramePuts", spec := "framePuts", named := ["suture/crc.nibbles"], apart := false, laid := [("suture/crc.nibbles", laid_suture_crc_nibbles)] }
def FramePutsSaid : Prop := framePutsRow.holds Tryd.pinned (OpenSpec.ofChange framePutsSpec)

/-- ITS FALSE NEIGHBOUR: 'it returns false'. Refute it at one input. -/
def framePutsWrong : ChangeSpec := { name := "framePuts", fn := fun _ => fun
  | [d] => { results := [.lit (.bool false)], args := [d] }
  | _ => none }
def FramePutsWrongFalsely : Prop := framePutsRow.holds Tryd.pinned (OpenSpec.ofChange framePutsWrong)

/-- 'suturelaw03.FrameGets': WHATEVER THE INPUT: true; the input reads as it did. -/
def frameGetsSpec : ChangeSpec := { name := "frameGets", fn := fun _ => fun
  | [d] => { results := [.lit (.bool true)], args := [d] }
  | _ => none }
def frameGetsRow : OpenClaim := { program := "ytnodogcabpjahaadoor", sum := "d80cdfc2041cc8c9b655cdbaba0ed39f8765fa43d80ef316a6d12a4e3b6236ee", func := "suture/suturelaw03.FrameGets", spec := "frameGets", named := ["suture/crc.nibbles"], apart := false, laid := [("suture/crc.nibbles", laid_suture_crc_nibbles)] }
def FrameGetsSaid : Prop := frameGetsRow.holds Tryd.pinned (OpenSpec.ofChange frameGetsSpec)

/-- ITS FALSE NEIGHBOUR: 'it returns false'. Refute it at one input. -/
def frameGetsWrong : ChangeSpec := { name := "frameGets", fn := fun _ => fun
  | [d] => { results := [.lit (.bool false)], args := [d] }
  | _ => none }
def FrameGetsWrongFalsely : Prop := frameGetsRow.holds Tryd.pinned (OpenSpec.ofChange frameGetsWrong)

/-- 'suturelaw03.FrameBack': WHATEVER THE INPUT: true; the input reads as it did. -/
def frameBackSpec : ChangeSpec := { name := "frameBack", fn := fun _ => fun
  | [d1, d2] => { results := [.lit (.bool true)], args := [d1, d2] }
  | _ => none }
def frameBackRow : OpenClaim := { program := "ytnodogcabpjahaadoor", sum := "d80cdfc2041cc8c9b655cdbaba0ed39f8765fa43d80ef316a6d12a4e3b6236ee", func := "suture/suturelaw03.FrameBack", spec := "frameBack", named := ["suture/crc.nibbles"], apart := false, laid := [("suture/crc.nibbles", laid_suture_crc_nibbles)] }
def FrameBackSaid : Prop := frameBackRow.holds Tryd.pinned (OpenSpec.ofChange frameBackSpec)

/-- ITS FALSE NEIGHBOUR: 'it returns false'. Refute it at one input. -/
def frameBackWrong : ChangeSpec := { name := "frameBack", fn := fun _ => fun
  | [d1, d2] => { results := [.lit (.bool false)], args := [d1, d2] }
  | _ => none }
def FrameBackWrongFalsely : Prop := frameBackRow.holds Tryd.pinned (OpenSpec.ofChange frameBackWrong)

/-- 'suturelaw03.FrameOnce': WHATEVER THE INPUT: true; the input reads as it did. -/
def frameOnceSpec : ChangeSpec := { name := "frameOnce", fn := fun _ => fun
  | [d] => { results := [.lit (.bool true)], args := [d] }
  | _ => none }
def frameOnceRow : OpenClaim := { program := "ytnodogcabpjahaadoor", sum := "d80cdfc2041cc8c9b655cdbaba0ed39f8765fa43d80ef316a6d12a4e3b6236ee", func := "suture/suturelaw03.FrameOnce", spec := "frameOnce", named := ["suture/crc.nibbles"], apart := false, laid := [("suture/crc.nibbles", laid_suture_crc_nibbles)] }
def FrameOnceSaid : Prop := frameOnceRow.holds Tryd.pinned (OpenSpec.ofChange frameOnceSpec)

/-- ITS FALSE NEIGHBOUR: 'it returns false'. Refute it at one input. -/
def frameOnceWrong : ChangeSpec := { name := "frameOnce", fn := fun _ => fun
  | [d] => { results := [.lit (.bool false)], args := [d] }
  | _ => none }
def FrameOnceWrongFalsely : Prop := frameOnceRow.holds Tryd.pinned (OpenSpec.ofChange frameOnceWrong)

/-- 'suturelaw03.FrameCuts': WHATEVER THE INPUT: true; the input reads as it did. -/
def frameCutsSpec : ChangeSpec := { name := "frameCuts", fn := fun _ => fun
  | [d1, d2] => { results := [.lit (.bool true)], args := [d1, d2] }
  | _ => none }
def frameCutsRow : OpenClaim := { program := "ytnodogcabpjahaadoor", sum := "d80cdfc2041cc8c9b655cdbaba0ed39f8765fa43d80ef316a6d12a4e3b6236ee", func := "suture/suturelaw03.FrameCuts", spec := "frameCuts", named := ["suture/crc.nibbles"], apart := false, laid := [("suture/crc.nibbles", laid_suture_crc_nibbles)] }
def FrameCutsSaid : Prop := frameCutsRow.holds Tryd.pinned (OpenSpec.ofChange frameCutsSpec)

/-- ITS FALSE NEIGHBOUR: 'it returns false'. Refute it at one input. -/
def frameCutsWrong : ChangeSpec := { name := "frameCuts", fn := fun _ => fun
  | [d1, d2] => { results := [.lit (.bool false)], args := [d1, d2] }
  | _ => none }
def FrameCutsWrongFalsely : Prop := frameCutsRow.holds Tryd.pinned (OpenSpec.ofChange frameCutsWrong)

/-- 'suturelaw03.FrameBursts': WHATEVER THE INPUT: true; the input reads as it did. -/
def frameBurstsSpec : ChangeSpec := { name := "frameBursts", fn := fun _ => fun
  | [d1, d2, d3] => { results := [.lit (.bool true)], args := [d1, d2, d3] }
  | _ => none }
def frameBurstsRow : OpenClaim := { program := "ytnodogcabpjahaadoor", sum := "d80cdfc2041cc8c9b655cdbaba0ed39f8765fa43d80ef316a6d12a4e3b6236ee", func := "suture/suturelaw03.FrameBursts", spec := "frameBursts", named := ["suture/crc.nibbles"], apart := false, laid := [("suture/crc.nibbles", laid_suture_crc_nibbles)] }
def FrameBurstsSaid : Prop := frameBurstsRow.holds Tryd.pinned (OpenSpec.ofChange frameBurstsSpec)

/-- ITS FALSE NEIGHBOUR: 'it returns false'. Refute it at one input. -/
def frameBurstsWrong : ChangeSpec := { name := "frameBursts", fn := fun _ => fun
  | [d1, d2, d3] => { results := [.lit (.bool false)], args := [d1, d2, d3] }
  | _ => none }
def FrameBurstsWrongFalsely : Prop := frameBurstsRow.holds Tryd.pinned (OpenSpec.ofChange frameBurstsWrong)

/-- 'suturelaw03.FrameStops': WHATEVER THE INPUT: true; the input reads as it did. -/
def frameStopsSpec : ChangeSpec := { name := "frameStops", fn := fun _ => fun
  | [d1, d2] => { results := [.lit (.bool true)], args := [d1, d2] }
  | _ => none }
def frameStopsRow : OpenClaim := { program := "ytnodogcabpjahaadoor", sum := "d80cdfc2041cc8c9b655cdbaba0ed39f8765fa43d80ef316a6d12a4e3b6236ee", func := "suture/suturelaw03.FrameStops", spec := "frameStops", named := ["suture/crc.nibbles"], apart := false, laid := [("suture/crc.nibbles", laid_suture_crc_nibbles)] }
def FrameStopsSaid : Prop := frameStopsRow.holds Tryd.pinned (OpenSpec.ofChange frameStopsSpec)

/-- ITS FALSE NEIGHBOUR: 'it returns false'. Refute it at one input. -/
def frameStopsWrong : ChangeSpec := { name := "frameStops", fn := fun _ => fun
  | [d1, d2] => { results := [.lit (.bool false)], args := [d1, d2] }
  | _ => none }
def FrameStopsWrongFalsely : Prop := frameStopsRow.holds Tryd.pinned (OpenSpec.ofChange frameStopsWrong)

/- THE SECOND FORM. 'bulk': how many values and letters a reading holds, each counted each time it is reached (what is shared counts as often as it is met; a slice's spare places count too). A statement '..UptoSaid' is the law's where the arguments, and the package variables that the reading takes, are together of bulk at most 1048576: NARROWER than '..Said'. Prove '..Said' where nothing that the law and all that it calls make is longer than what came in: it says more and counts as full. Else prove '..UptoSaid'. A law counts once. -/
mutual
def uptoBulk {H : Type} : DataW H → Nat
  | .lit (.string bytes) => bytes.length + 1
  | .lit _ => 1
  | .nil => 1
  | .ptr d => uptoBulk d + 1
  | .slice elems spare => uptoBulkAll elems + uptoBulkAll spare + 1
  | .agg parts => uptoBulkAll parts + 1
  | .iface _ d => uptoBulk d + 1
  | .map entries => uptoBulkEntries entries + 1
  | .held _ => 1
def uptoBulkAll {H : Type} : List (DataW H) → Nat
  | [] => 0
  | d :: r => uptoBulk d + uptoBulkAll r
def uptoBulkEntries {H : Type} : List (Lit × DataW H) → Nat
  | [] => 0
  | x :: r => uptoBulkEntry x + uptoBulkEntries r
def uptoBulkEntry {H : Type} : Lit × DataW H → Nat
  | (.string bytes, d) => bytes.length + uptoBulk d + 1
  | (_, d) => uptoBulk d + 1
 end
def uptoSmall : (H : Type) → List (DataW H) → Bool := fun _ ds => decide (uptoBulkAll ds ≤ 1048576)
def OpenSpec.upto (s : _root_.Go.ChangeSpec) : _root_.Go.OpenSpec := { _root_.Go.OpenSpec.ofChange s with cond := some uptoSmall }

/-- 'suturelaw03.FramePuts', WHERE WHAT IT READS IS OF BULK AT MOST 1048576: true; the input reads as it did. -/
def framePutsUptoRow : OpenClaim := { program := "ytnodogcabpjahaadoor", sum := "d80cdfc2041cc8c9b655cdbaba0ed39f8765fa43d80ef316a6d12a4e3b6236ee", func := "suture/suturelaw03.FramePuts", spec := "framePuts", named := ["suture/crc.nibbles"], apart := false, laid := [("suture/crc.nibbles", laid_suture_crc_nibbles)], narrowed := true }
def FramePutsUptoSaid : Prop := framePutsUptoRow.holds Tryd.pinned (OpenSpec.upto framePutsSpec)

/-- 'suturelaw03.FrameGets', WHERE WHAT IT READS IS OF BULK AT MOST 1048576: true; the input reads as it did. -/
def frameGetsUptoRow : OpenClaim := { program := "ytnodogcabpjahaadoor", sum := "d80cdfc2041cc8c9b655cdbaba0ed39f8765fa43d80ef316a6d12a4e3b6236ee", func := "suture/suturelaw03.FrameGets", spec := "frameGets", named := ["suture/crc.nibbles"], apart := false, laid := [("suture/crc.nibbles", laid_suture_crc_nibbles)], narrowed := true }
def FrameGetsUptoSaid : Prop := frameGetsUptoRow.holds Tryd.pinned (OpenSpec.upto frameGetsSpec)

/-- 'suturelaw03.FrameBack', WHERE WHAT IT READS IS OF BULK AT MOST 1048576: true; the input reads as it did. -/
def frameBackUptoRow : OpenClaim := { program := "ytnodogcabpjahaadoor", sum := "d80cdfc2041cc8c9b655cdbaba0ed39f8765fa43d80ef316a6d12a4e3b6236ee", func := "suture/suturelaw03.FrameBack", spec := "frameBack", named := ["suture/crc.nibbles"], apart := false, laid := [("suture/crc.nibbles", laid_suture_crc_nibbles)], narrowed := true }
def FrameBackUptoSaid : Prop := frameBackUptoRow.holds Tryd.pinned (OpenSpec.upto frameBackSpec)

/-- 'suturelaw03.FrameOnce', WHERE WHAT IT READS IS OF BULK AT MOST 1048576: true; the input reads as it did. -/
def frameOnceUptoRow : OpenClaim := { program := "ytnodogcabpjahaadoor", sum := "d80cdfc2041cc8c9b655cdbaba0ed39f8765fa43d80ef316a6d12a4e3b6236ee", func := "suture/suturelaw03.FrameOnce", spec := "frameOnce", named := ["suture/crc.nibbles"], apart := false, laid := [("suture/crc.nibbles", laid_suture_crc_nibbles)], narrowed := true }
def FrameOnceUptoSaid : Prop := frameOnceUptoRow.holds Tryd.pinned (OpenSpec.upto frameOnceSpec)

/-- 'suturelaw03.FrameCuts', WHERE WHAT IT READS IS OF BULK AT MOST 1048576: true; the input reads as it did. -/
def frameCutsUptoRow : OpenClaim := { program := "ytnodogcabpjahaadoor", sum := "d80cdfc2041cc8c9b655cdbaba0ed39f8765fa43d80ef316a6d12a4e3b6236ee", func := "suture/suturelaw03.FrameCuts", spec := "frameCuts", named := ["suture/crc.nibbles"], apart := false, laid := [("suture/crc.nibbles", laid_suture_crc_nibbles)], narrowed := true }
def FrameCutsUptoSaid : Prop := frameCutsUptoRow.holds Tryd.pinned (OpenSpec.upto frameCutsSpec)

/-- 'suturelaw03.FrameBursts', WHERE WHAT IT READS IS OF BULK AT MOST 1048576: true; the input reads as it did. -/
def frameBurstsUptoRow : OpenClaim := { program := "ytnodogcabpjahaadoor", sum := "d80cdfc2041cc8c9b655cdbaba0ed39f8765fa43d80ef316a6d12a4e3b6236ee", func := "suture/suturelaw03.FrameBursts", spec := "frameBursts", named := ["suture/crc.nibbles"], apart := false, laid := [("suture/crc.nibbles", laid_suture_crc_nibbles)], narrowed := true }
def FrameBurstsUptoSaid : Prop := frameBurstsUptoRow.holds Tryd.pinned (OpenSpec.upto frameBurstsSpec)

/-- 'suturelaw03.FrameStops', WHERE WHAT IT READS IS OF BULK AT MOST 1048576: true; the input reads as it did. -/
def frameStopsUptoRow : OpenClaim := { program := "ytnodogcabpjahaadoor", sum := "d80cdfc2041cc8c9b655cdbaba0ed39f8765fa43d80ef316a6d12a4e3b6236ee", func := "suture/suturelaw03.FrameStops", spec := "frameStops", named := ["suture/crc.nibbles"], apart := false, laid := [("suture/crc.nibbles", laid_suture_crc_nibbles)], narrowed := true }
def FrameStopsUptoSaid : Prop := frameStopsUptoRow.holds Tryd.pinned (OpenSpec.upto frameStopsSpec)

end Rows
end Go.Proofs.YtnodogcabpjahaaDoor
