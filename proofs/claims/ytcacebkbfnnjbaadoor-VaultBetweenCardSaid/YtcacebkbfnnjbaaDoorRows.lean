/-
  NARROWER THAN 'FOR EVERY INPUT', by the rows' own cells (each row's printed sentence says how): VaultDoes: laid · VaultReads: laid · VaultLasts: laid · VaultBetween: laid · VaultWhole: laid · VaultAgain: laid.
  DERIVED. THE GIVEN ROWS OF THIS SEAT. 6 by the template 'for every input the law returns true; each argument reads behind the call as it read before'; 0 by the template 'total and deterministic' (their statements: YtcacebkbfnnjbaaDoorTotals.lean).
  GIVEN WITH THE SEED: the statements are not yours to turn. If you find one false, say at which input.
  Laid BY PROGRAM, IN A SANDBOX (cutbox-rows.mjs): the forced cells as the released guide's own fill.sh prints them over the translation d7fbb2bfad89838f… (all of the seat's roots in one cut). By AI agents, Wed Nov 11 2026. No macro, syntax, notation, axiom, sorry.
-/
import Derived.Test.YtcacebkbfnnjbaaDoorChecked
import GoSem.Claim
import GoSem.ClaimJoined
import GoSem.ClaimMapViews
import Derived.JoinedTies
import Derived.KernelRfl
namespace Go.Proofs.YtcacebkbfnnjbaaDoor
/- THE CELL 'sum', in the pinned program and in every row, IS THE sha256 OF THE DUMP (.gsa) THAT YtcacebkbfnnjbaaDoorProg.lean LOADS. Nothing in Lean hashes anything: it is a label: what it is worth is what the hold of that sum in a sandbox is worth. -/
noncomputable def Tryd.pinned : Pinned := { name := "ytcacebkbfnnjbaadoor", sum := "d7fbb2bfad89838fcbf1089435d5b48eb944d8155b07beb7958969f8852f5084", checked := Tryd.checked }
namespace Rows
def none {H : Type} : Left H := { results := [], args := [] }

/- WHAT THE LISTED PACKAGE-LEVEL VARIABLES READ AS WHEN THE CALL BEGINS. Each datum BY PROGRAM (the guide's laid-datum.mjs) off the statement by which the dump's own 'gosem.cut.vars' lays the variable. In a bare row this is a premise. The card (YtcacebkbfnnjbaaDoorCards.lean) ties it to the program's text. -/
def laid_suture_crc_nibbles {H : Type} : DataW H := .agg [.lit (.int .u32 0), .lit (.int .u32 498536548), .lit (.int .u32 997073096), .lit (.int .u32 651767980), .lit (.int .u32 1994146192), .lit (.int .u32 1802195444), .lit (.int .u32 1303535960), .lit (.int .u32 1342533948), .lit (.int .u32 3988292384), .lit (.int .u32 4027552580), .lit (.int .u32 3604390888), .lit (.int .u32 3412177804), .lit (.int .u32 2607071920), .lit (.int .u32 2262029012), .lit (.int .u32 2685067896), .lit (.int .u32 3183342108)]

/-- 'suturelaw08.VaultDoes': WHATEVER THE INPUT: true; the input reads as it did. -/
def vaultDoesSpec : ChangeSpec := { name := "vaultDoes", fn := fun _ => fun
  | [d] => { results := [.lit (.bool true)], args := [d] }
  | _ => none }
def vaultDoesRow : OpenClaim := { program := "ytcacebkbfnnjbaadoor", sum := "d7fbb2bfad89838fcbf1089435d5b48eb944d8155b07beb7958969f8852f5084", func := "suture/suturelaw08.VaultDoes", spec := "vaultDoes", unfollowed := true, recurses := true, named := ["suture/crc.nibbles"], apart := false, laid := [("suture/crc.nibbles", laid_suture_crc_nibbles)] }
def VaultDoesSaid : Prop := vaultDoesRow.holds Tryd.pinned (OpenSpec.ofChange vaultDoesSpec)

/-- ITS FALSE NEIGHBOUR: 'it returns false'. Refute it at one input. -/
def vaultDoesWrong : ChangeSpec := { name := "vaultDoes", fn := fun _ => fun
  | [d] => { results := [.lit (.bool false)], args := [d] }
  | _ => none }
def VaultDoesWrongFalsely : Prop := vaultDoesRow.holds Tryd.pinned (OpenSpec.ofChange vaultDoesWrong)

/-- 'suturelaw08.VaultReads': WHATEVER THE INPUT: true; the input reads as it did. -/
def vaultReadsSpec : ChangeSpec := { name := "vaultReads", fn := fun _ => fun
  | [d] => { results := [.lit (.bool true)], args := [d] }
  | _ => none }
def vaultReadsRow : OpenClaim := { program := "ytcacebkbfnnjbaadoor", sum := "d7fbb2bfad89838fcbf1089435d5b48eb944d8155b07beb7958969f8852f5084", func := "suture/suturelaw08.VaultReads", spec := "vaultReads", unfollowed := true, recurses := true, named := ["suture/crc.nibbles"], apart := false, laid := [("suture/crc.nibbles", laid_suture_crc_nibbles)] }
def VaultReadsSaid : Prop := vaultReadsRow.holds Tryd.pinned (OpenSpec.ofChange vaultReadsSpec)

/-- ITS FALSE NEIGHBOUR: 'it returns false'. Refute it at one input. -/
def vaultReadsWrong : ChangeSpec := { name := "vaultReads", fn := fun _ => fun
  | [d] => { results := [.lit (.bool false)], args := [d] }
  | _ => none }
def VaultReadsWrongFalsely : Prop := vaultReadsRow.holds Tryd.pinned (OpenSpec.ofChange vaultReadsWrong)

/-- 'suturelaw08.VaultLasts': WHATEVER THE INPUT: true; the input reads as it did. -/
def vaultLastsSpec : ChangeSpec := { name := "vaultLasts", fn := fun _ => fun
  | [d1, d2, d3, d4, d5] => { results := [.lit (.bool true)], args := [d1, d2, d3, d4, d5] }
  | _ => none }
def vaultLastsRow : OpenClaim := { program := "ytcacebkbfnnjbaadoor", sum := "d7fbb2bfad89838fcbf1089435d5b48eb944d8155b07beb7958969f8852f5084", func := "suture/suturelaw08.VaultLasts", spec := "vaultLasts", unfollowed := true, recurses := true, named := ["suture/crc.nibbles"], apart := false, laid := [("suture/crc.nibbles", laid_suture_crc_nibbles)] }
def VaultLastsSaid : Prop := vaultLastsRow.holds Tryd.pinned (OpenSpec.ofChange vaultLastsSpec)

/-- ITS FALSE NEIGHBOUR: 'it returns false'. Refute it at one input. -/
def vaultLastsWrong : ChangeSpec := { name := "vaultLasts", fn := fun _ => fun
  | [d1, d2, d3, d4, d5] => { results := [.lit (.bool false)], args := [d1, d2, d3, d4, d5] }
  | _ => none }
def VaultLastsWrongFalsely : Prop := vaultLastsRow.holds Tryd.pinned (OpenSpec.ofChange vaultLastsWrong)

/-- 'suturelaw08.VaultBetween': WHATEVER THE INPUT: true; the input reads as it did. -/
def vaultBetweenSpec : ChangeSpec := { name := "vaultBetween", fn := fun _ => fun
  | [d1, d2, d3, d4, d5] => { results := [.lit (.bool true)], args := [d1, d2, d3, d4, d5] }
  | _ => none }
def vaultBetweenRow : OpenClaim := { program := "ytcacebkbfnnjbaadoor", sum := "d7fbb2bfad89838fcbf1089435d5b48eb944d8155b07beb7958969f8852f5084", func := "suture/suturelaw08.VaultBetween", spec := "vaultBetween", unfollowed := true, recurses := true, named := ["suture/crc.nibbles"], apart := false, laid := [("suture/crc.nibbles", laid_suture_crc_nibbles)] }
def VaultBetweenSaid : Prop := vaultBetweenRow.holds Tryd.pinned (OpenSpec.ofChange vaultBetweenSpec)

/-- ITS FALSE NEIGHBOUR: 'it returns false'. Refute it at one input. -/
def vaultBetweenWrong : ChangeSpec := { name := "vaultBetween", fn := fun _ => fun
  | [d1, d2, d3, d4, d5] => { results := [.lit (.bool false)], args := [d1, d2, d3, d4, d5] }
  | _ => none }
def VaultBetweenWrongFalsely : Prop := vaultBetweenRow.holds Tryd.pinned (OpenSpec.ofChange vaultBetweenWrong)

/-- 'suturelaw08.VaultWhole': WHATEVER THE INPUT: true; the input reads as it did. -/
def vaultWholeSpec : ChangeSpec := { name := "vaultWhole", fn := fun _ => fun
  | [d1, d2, d3] => { results := [.lit (.bool true)], args := [d1, d2, d3] }
  | _ => none }
def vaultWholeRow : OpenClaim := { program := "ytcacebkbfnnjbaadoor", sum := "d7fbb2bfad89838fcbf1089435d5b48eb944d8155b07beb7958969f8852f5084", func := "suture/suturelaw08.VaultWhole", spec := "vaultWhole", unfollowed := true, recurses := true, named := ["suture/crc.nibbles"], apart := false, laid := [("suture/crc.nibbles", laid_suture_crc_nibbles)] }
def VaultWholeSaid : Prop := vaultWholeRow.holds Tryd.pinned (OpenSpec.ofChange vaultWholeSpec)

/-- ITS FALSE NEIGHBOUR: 'it returns false'. Refute it at one input. -/
def vaultWholeWrong : ChangeSpec := { name := "vaultWhole", fn := fun _ => fun
  | [d1, d2, d3] => { results := [.lit (.bool false)], args := [d1, d2, d3] }
  | _ => none }
def VaultWholeWrongFalsely : Prop := vaultWholeRow.holds Tryd.pinned (OpenSpec.ofChange vaultWholeWrong)

/-- 'suturelaw08.VaultAgain': WHATEVER THE INPUT: true; the input reads as it did. -/
def vaultAgainSpec : ChangeSpec := { name := "vaultAgain", fn := fun _ => fun
  | [d1, d2, d3] => { results := [.lit (.bool true)], args := [d1, d2, d3] }
  | _ => none }
def vaultAgainRow : OpenClaim := { program := "ytcacebkbfnnjbaadoor", sum := "d7fbb2bfad89838fcbf1089435d5b48eb944d8155b07beb7958969f8852f5084", func := "suture/suturelaw08.VaultAgain", spec := "vaultAgain", unfollowed := true, recurses := true, named := ["suture/crc.nibbles"], apart := false, laid := [("suture/crc.nibbles", laid_suture_crc_nibbles)] }
def VaultAgainSaid : Prop := vaultAgainRow.holds Tryd.pinned (OpenSpec.ofChange vaultAgainSpec)

/-- ITS FALSE NEIGHBOUR: 'it returns false'. Refute it at one input. -/
def vaultAgainWrong : ChangeSpec := { name := "vaultAgain", fn := fun _ => fun
  | [d1, d2, d3] => { results := [.lit (.bool false)], args := [d1, d2, d3] }
  | _ => none }
def VaultAgainWrongFalsely : Prop := vaultAgainRow.holds Tryd.pinned (OpenSpec.ofChange vaultAgainWrong)

/- THE SECOND FORM. 'bulk': how many values and letters a reading holds, each counted each time it is reached (what is shared counts as often as it is met; a slice's spare places count too). A statement '..UptoSaid' is the law's where the arguments, and the package variables that the reading takes, are together of bulk at most 1048576: NARROWER than '..Said'. Prove '..Said' where nothing that the law and all that it calls make is longer than what came in: it says more and counts as full. Else prove '..UptoSaid'. A law counts once. -/
mutual
def uptoBulk {H : Type} : DataW H → Nat
  | .lit (.string bytes) => bytes.length + 1
  | .lit _ => 1
  | .nil => 1
  | .ptr d => uptoBulk d + 1
  | .slice elems spare => uptoBulkAll elems + uptoBulkAll spare + 1
  | .agg parts => uptoBulkAll parts + 1
  | .iface _ d => uptoBulk d + 1
  | .map entries => uptoBulkEntries entries + 1
  | .held _ => 1
def uptoBulkAll {H : Type} : List (DataW H) → Nat
  | [] => 0
  | d :: r => uptoBulk d + uptoBulkAll r
def uptoBulkEntries {H : Type} : List (Lit × DataW H) → Nat
  | [] => 0
  | x :: r => uptoBulkEntry x + uptoBulkEntries r
def uptoBulkEntry {H : Type} : Lit × DataW H → Nat
  | (.string bytes, d) => bytes.length + uptoBulk d + 1
  | (_, d) => uptoBulk d + 1
 end
def uptoSmall : (H : Type) → List (DataW H) → Bool := fun _ ds => decide (uptoBulkAll ds ≤ 1048576)
def OpenSpec.upto (s : _root_.Go.ChangeSpec) : _root_.Go.OpenSpec := { _root_.Go.OpenSpec.ofChange s with cond := some uptoSmall }

/-- 'suturelaw08.VaultDoes', WHERE WHAT IT READS IS OF BULK AT MOST 1048576: true; the input reads as it did. -/
def vaultDoesUptoRow : OpenClaim := { program := "ytcacebkbfnnjbaadoor", sum := "d7fbb2bfad89838fcbf1089435d5b48eb944d8155b07beb7958969f8852f5084", func := "suture/suturelaw08.VaultDoes", spec := "vaultDoes", unfollowed := true, recurses := true, named := ["suture/crc.nibbles"], apart := false, laid := [("suture/crc.nibbles", laid_suture_crc_nibbles)], narrowed := true }
def VaultDoesUptoSaid : Prop := vaultDoesUptoRow.holds Tryd.pinned (OpenSpec.upto vaultDoesSpec)

/-- 'suturelaw08.VaultReads', WHERE WHAT IT READS IS OF BULK AT MOST 1048576: true; the input reads as it did. -/
def vaultReadsUptoRow : OpenClaim := { program := "ytcacebkbfnnjbaadoor", sum := "d7fbb2bfad89838fcbf1089435d5b48eb944d8155b07beb7958969f8852f5084", func := "suture/suturelaw08.VaultReads", spec := "vaultReads", unfollowed := true, recurses := true, named := ["suture/crc.nibbles"], apart := false, laid := [("suture/crc.nibbles", laid_suture_crc_nibbles)], narrowed := true }
def VaultReadsUptoSaid : Prop := vaultReadsUptoRow.holds Tryd.pinned (OpenSpec.upto vaultReadsSpec)

/-- 'suturelaw08.VaultLasts', WHERE WHAT IT READS IS OF BULK AT MOST 1048576: true; the input reads as it did. -/
def vaultLastsUptoRow : OpenClaim := { program := "ytcacebkbfnnjbaadoor", sum := "d7fbb2bfad89838fcbf1089435d5b48eb944d8155b07beb7958969f8852f5084", func := "suture/suturelaw08.VaultLasts", spec := "vaultLasts", unfollowed := true, recurses := true, named := ["suture/crc.nibbles"], apart := false, laid := [("suture/crc.nibbles", laid_suture_crc_nibbles)], narrowed := true }
def VaultLastsUptoSaid : Prop := vaultLastsUptoRow.holds Tryd.pinned (OpenSpec.upto vaultLastsSpec)

/-- 'suturelaw08.VaultBetween', WHERE WHAT IT READS IS OF BULK AT MOST 1048576: true; the input reads as it did. -/
def vaultBetweenUptoRow : OpenClaim := { program := "ytcacebkbfnnjbaadoor", sum := "d7fbb2bfad89838fcbf1089435d5b48eb944d8155b07beb7958969f8852f5084", func := "suture/suturelaw08.VaultBetween", spec := "vaultBetween", unfollowed := true, recurses := true, named := ["suture/crc.nibbles"], apart := false, laid := [("suture/crc.nibbles", laid_suture_crc_nibbles)], narrowed := true }
def VaultBetweenUptoSaid : Prop := vaultBetweenUptoRow.holds Tryd.pinned (OpenSpec.upto vaultBetweenSpec)

/-- 'suturelaw08.VaultWhole', WHERE WHAT IT READS IS OF BULK AT MOST 1048576: true; the input reads as it did. -/
def vaultWholeUptoRow : OpenClaim := { program := "ytcacebkbfnnjbaadoor", sum := "d7fbb2bfad89838fcbf1089435d5b48eb944d8155b07beb7958969f8852f5084", func := "suture/suturelaw08.VaultWhole", spec := "vaultWhole", unfollowed := true, recurses := true, named := ["suture/crc.nibbles"], apart := false, laid := [("suture/crc.nibbles", laid_suture_crc_nibbles)], narrowed := true }
def VaultWholeUptoSaid : Prop := vaultWholeUptoRow.holds Tryd.pinned (OpenSpec.upto vaultWholeSpec)

/-- 'suturelaw08.VaultAgain', WHERE WHAT IT READS IS OF BULK AT MOST 1048576: true; the input reads as it did. -/
def vaultAgainUptoRow : OpenClaim := { program := "ytcacebkbfnnjbaadoor", sum := "d7fbb2bfad89838fcbf1089435d5b48eb944d8155b07beb7958969f8852f5084", func := "suture/suturelaw08.VaultAgain", spec := "vaultAgain", unfollowed := true, recurses := true, named := ["suture/crc.nibbles"], apart := false, laid := [("suture/crc.nibbles", laid_suture_crc_nibbles)], narrowed := true }
def VaultAgainUptoSaid : Prop := vaultAgainUptoRow.holds Tryd.pinned (OpenSpec.upto vaultAgainSpec)

end Rows
end Go.Proofs.YtcacebkbfnnjbaaDoor
