/-
  No cell of these rows narrows 'for every input' (looked for: loops, veiled, ifaces, maps, wideKeys, modest, calm, conditions, laid).
  DERIVED. THE GIVEN ROWS OF THIS SEAT. 5 by the template 'for every input the law returns true; each argument reads behind the call as it read before'; 0 by the template 'total and deterministic' (their statements: YtpfhigcfpchkkaaTotals.lean).
  GIVEN WITH THE SEED: the statements are not yours to turn. If you find one false, say at which input.
  Laid BY PROGRAM, IN A SANDBOX (cutbox-rows.mjs): the forced cells as the released guide's own fill.sh prints them over the translation 5c65a2b341ad5986… (all of the seat's roots in one cut). By AI agents, Wed Nov 11 2026. No macro, syntax, notation, axiom, sorry.
-/
import Derived.Test.YtpfhigcfpchkkaaChecked
import GoSem.Claim
import GoSem.ClaimJoined
import GoSem.ClaimMapViews
import Derived.JoinedTies
import Derived.KernelRfl
namespace Go.Proofs.Ytpfhigcfpchkkaa
/- THE CELL 'sum', in the pinned program and in every row, IS THE sha256 OF THE DUMP (.gsa) THAT YtpfhigcfpchkkaaProg.lean LOADS. Nothing in Lean hashes anything: it is a label: what it is worth is what the hold of that sum in a sandbox is worth. -/
noncomputable def Try.pinned : Pinned := { name := "ytpfhigcfpchkkaa", sum := "5c65a2b341ad5986e52e756ddf7654ee85906f1276b21cd788722079d3ed8695", checked := Try.checked }
namespace Rows
def none {H : Type} : Left H := { results := [], args := [] }

/-- 'suturelaw09.SessionTells': WHATEVER THE INPUT: true; the input reads as it did. -/
def sessionTellsSpec : ChangeSpec := { name := "sessionTells", fn := fun _ => fun
  | [d1, d2, d3] => { results := [.lit (.bool true)], args := [d1, d2, d3] }
  | _ => none }
def sessionTellsRow : OpenClaim := { program := "ytpfhigcfpchkkaa", sum := "5c65a2b341ad5986e52e756ddf7654ee85906f1276b21cd788722079d3ed8695", func := "suture/suturelaw09.SessionTells", spec := "sessionTells", inPlace := ["slices.overlaps[suture/api.Session]"], unfollowed := true, recurses := true, apart := false }
def SessionTellsSaid : Prop := sessionTellsRow.holds Try.pinned (OpenSpec.ofChange sessionTellsSpec)

/-- ITS FALSE NEIGHBOUR: 'it returns false'. Refute it at one input. -/
def sessionTellsWrong : ChangeSpec := { name := "sessionTells", fn := fun _ => fun
  | [d1, d2, d3] => { results := [.lit (.bool false)], args := [d1, d2, d3] }
  | _ => none }
def SessionTellsWrongFalsely : Prop := sessionTellsRow.holds Try.pinned (OpenSpec.ofChange sessionTellsWrong)

/-- 'suturelaw09.SessionPuts': WHATEVER THE INPUT: true; the input reads as it did. -/
def sessionPutsSpec : ChangeSpec := { name := "sessionPuts", fn := fun _ => fun
  | [d1, d2, d3, d4] => { results := [.lit (.bool true)], args := [d1, d2, d3, d4] }
  | _ => none }
def sessionPutsRow : OpenClaim := { program := "ytpfhigcfpchkkaa", sum := "5c65a2b341ad5986e52e756ddf7654ee85906f1276b21cd788722079d3ed8695", func := "suture/suturelaw09.SessionPuts", spec := "sessionPuts", inPlace := ["slices.overlaps[suture/api.Session]"], unfollowed := true, recurses := true, apart := false }
def SessionPutsSaid : Prop := sessionPutsRow.holds Try.pinned (OpenSpec.ofChange sessionPutsSpec)

/-- ITS FALSE NEIGHBOUR: 'it returns false'. Refute it at one input. -/
def sessionPutsWrong : ChangeSpec := { name := "sessionPuts", fn := fun _ => fun
  | [d1, d2, d3, d4] => { results := [.lit (.bool false)], args := [d1, d2, d3, d4] }
  | _ => none }
def SessionPutsWrongFalsely : Prop := sessionPutsRow.holds Try.pinned (OpenSpec.ofChange sessionPutsWrong)

/-- 'suturelaw09.SessionOnce': WHATEVER THE INPUT: true; the input reads as it did. -/
def sessionOnceSpec : ChangeSpec := { name := "sessionOnce", fn := fun _ => fun
  | [d1, d2, d3, d4, d5, d6] => { results := [.lit (.bool true)], args := [d1, d2, d3, d4, d5, d6] }
  | _ => none }
def sessionOnceRow : OpenClaim := { program := "ytpfhigcfpchkkaa", sum := "5c65a2b341ad5986e52e756ddf7654ee85906f1276b21cd788722079d3ed8695", func := "suture/suturelaw09.SessionOnce", spec := "sessionOnce", inPlace := ["slices.overlaps[suture/api.Session]"], unfollowed := true, recurses := true, apart := false }
def SessionOnceSaid : Prop := sessionOnceRow.holds Try.pinned (OpenSpec.ofChange sessionOnceSpec)

/-- ITS FALSE NEIGHBOUR: 'it returns false'. Refute it at one input. -/
def sessionOnceWrong : ChangeSpec := { name := "sessionOnce", fn := fun _ => fun
  | [d1, d2, d3, d4, d5, d6] => { results := [.lit (.bool false)], args := [d1, d2, d3, d4, d5, d6] }
  | _ => none }
def SessionOnceWrongFalsely : Prop := sessionOnceRow.holds Try.pinned (OpenSpec.ofChange sessionOnceWrong)

/-- 'suturelaw09.SessionRuns': WHATEVER THE INPUT: true; the input reads as it did. -/
def sessionRunsSpec : ChangeSpec := { name := "sessionRuns", fn := fun _ => fun
  | [d1, d2] => { results := [.lit (.bool true)], args := [d1, d2] }
  | _ => none }
def sessionRunsRow : OpenClaim := { program := "ytpfhigcfpchkkaa", sum := "5c65a2b341ad5986e52e756ddf7654ee85906f1276b21cd788722079d3ed8695", func := "suture/suturelaw09.SessionRuns", spec := "sessionRuns", inPlace := ["slices.overlaps[suture/api.Session]"], unfollowed := true, recurses := true, apart := false }
def SessionRunsSaid : Prop := sessionRunsRow.holds Try.pinned (OpenSpec.ofChange sessionRunsSpec)

/-- ITS FALSE NEIGHBOUR: 'it returns false'. Refute it at one input. -/
def sessionRunsWrong : ChangeSpec := { name := "sessionRuns", fn := fun _ => fun
  | [d1, d2] => { results := [.lit (.bool false)], args := [d1, d2] }
  | _ => none }
def SessionRunsWrongFalsely : Prop := sessionRunsRow.holds Try.pinned (OpenSpec.ofChange sessionRunsWrong)

/-- 'suturelaw09.SessionNext': WHATEVER THE INPUT: true; the input reads as it did. -/
def sessionNextSpec : ChangeSpec := { name := "sessionNext", fn := fun _ => fun
  | [d1, d2, d3] => { results := [.lit (.bool true)], args := [d1, d2, d3] }
  | _ => none }
def sessionNextRow : OpenClaim := { program := "ytpfhigcfpchkkaa", sum := "5c65a2b341ad5986e52e756ddf7654ee85906f1276b21cd788722079d3ed8695", func := "suture/suturelaw09.SessionNext", spec := "sessionNext", inPlace := ["slices.overlaps[suture/api.Session]"], unfollowed := true, recurses := true, apart := false }
def SessionNextSaid : Prop := sessionNextRow.holds Try.pinned (OpenSpec.ofChange sessionNextSpec)

/-- ITS FALSE NEIGHBOUR: 'it returns false'. Refute it at one input. -/
def sessionNextWrong : ChangeSpec := { name := "sessionNext", fn := fun _ => fun
  | [d1, d2, d3] => { results := [.lit (.bool false)], args := [d1, d2, d3] }
  | _ => none }
def SessionNextWrongFalsely : Prop := sessionNextRow.holds Try.pinned (OpenSpec.ofChange sessionNextWrong)

/- THE SECOND FORM. 'bulk': how many values and letters a reading holds, each counted each time it is reached (what is shared counts as often as it is met; a slice's spare places count too). A statement '..UptoSaid' is the law's where the arguments, and the package variables that the reading takes, are together of bulk at most 1048576: NARROWER than '..Said'. Prove '..Said' where nothing that the law and all that it calls make is longer than what came in: it says more and counts as full. Else prove '..UptoSaid'. A law counts once. -/
mutual
def uptoBulk {H : Type} : DataW H → Nat
  | .lit (.string bytes) => bytes.length + 1
  | .lit _ => 1
  | .nil => 1
  | .ptr d => uptoBulk d + 1
  | .slice elems spare => uptoBulkAll elems + uptoBulkAll spare + 1
  | .agg parts => uptoBulkAll parts + 1
  | .iface _ d => uptoBulk d + 1
  | .map entries => uptoBulkEntries entries + 1
  | .held _ => 1
def uptoBulkAll {H : Type} : List (DataW H) → Nat
  | [] => 0
  | d :: r => uptoBulk d + uptoBulkAll r
def uptoBulkEntries {H : Type} : List (Lit × DataW H) → Nat
  | [] => 0
  | x :: r => uptoBulkEntry x + uptoBulkEntries r
def uptoBulkEntry {H : Type} : Lit × DataW H → Nat
  | (.string bytes, d) => bytes.length + uptoBulk d + 1
  | (_, d) => uptoBulk d + 1
 end
def uptoSmall : (H : Type) → List (DataW H) → Bool := fun _ ds => decide (uptoBulkAll ds ≤ 1048576)
def OpenSpec.upto (s : _root_.Go.ChangeSpec) : _root_.Go.OpenSpec := { _root_.Go.OpenSpec.ofChange s with cond := some uptoSmall }

/-- 'suturelaw09.SessionTells', WHERE WHAT IT READS IS OF BULK AT MOST 1048576: true; the input reads as it did. -/
def sessionTellsUptoRow : OpenClaim := { program := "ytpfhigcfpchkkaa", sum := "5c65a2b341ad5986e52e756ddf7654ee85906f1276b21cd788722079d3ed8695", func := "suture/suturelaw09.SessionTells", spec := "sessionTells", inPlace := ["slices.overlaps[suture/api.Session]"], unfollowed := true, recurses := true, apart := false, narrowed := true }
def SessionTellsUptoSaid : Prop := sessionTellsUptoRow.holds Try.pinned (OpenSpec.upto sessionTellsSpec)

/-- 'suturelaw09.SessionPuts', WHERE WHAT IT READS IS OF BULK AT MOST 1048576: true; the input reads as it did. -/
def sessionPutsUptoRow : OpenClaim := { program := "ytpfhigcfpchkkaa", sum := "5c65a2b341ad5986e52e756ddf7654ee85906f1276b21cd788722079d3ed8695", func := "suture/suturelaw09.SessionPuts", spec := "sessionPuts", inPlace := ["slices.overlaps[suture/api.Session]"], unfollowed := true, recurses := true, apart := false, narrowed := true }
def SessionPutsUptoSaid : Prop := sessionPutsUptoRow.holds Try.pinned (OpenSpec.upto sessionPutsSpec)

/-- 'suturelaw09.SessionOnce', WHERE WHAT IT READS IS OF BULK AT MOST 1048576: true; the input reads as it did. -/
def sessionOnceUptoRow : OpenClaim := { program := "ytpfhigcfpchkkaa", sum := "5c65a2b341ad5986e52e756ddf7654ee85906f1276b21cd788722079d3ed8695", func := "suture/suturelaw09.SessionOnce", spec := "sessionOnce", inPlace := ["slices.overlaps[suture/api.Session]"], unfollowed := true, recurses := true, apart := false, narrowed := true }
def SessionOnceUptoSaid : Prop := sessionOnceUptoRow.holds Try.pinned (OpenSpec.upto sessionOnceSpec)

/-- 'suturelaw09.SessionRuns', WHERE WHAT IT READS IS OF BULK AT MOST 1048576: true; the input reads as it did. -/
def sessionRunsUptoRow : OpenClaim := { program := "ytpfhigcfpchkkaa", sum := "5c65a2b341ad5986e52e756ddf7654ee85906f1276b21cd788722079d3ed8695", func := "suture/suturelaw09.SessionRuns", spec := "sessionRuns", inPlace := ["slices.overlaps[suture/api.Session]"], unfollowed := true, recurses := true, apart := false, narrowed := true }
def SessionRunsUptoSaid : Prop := sessionRunsUptoRow.holds Try.pinned (OpenSpec.upto sessionRunsSpec)

/-- 'suturelaw09.SessionNext', WHERE WHAT IT READS IS OF BULK AT MOST 1048576: true; the input reads as it did. -/
def sessionNextUptoRow : OpenClaim := { program := "ytpfhigcfpchkkaa", sum := "5c65a2b341ad5986e52e756ddf7654ee85906f1276b21cd788722079d3ed8695", func := "suture/suturelaw09.SessionNext", spec := "sessionNext", inPlace := ["slices.overlaps[suture/api.Session]"], unfollowed := true, recurses := true, apart := false, narrowed := true }
def SessionNextUptoSaid : Prop := sessionNextUptoRow.holds Try.pinned (OpenSpec.upto sessionNextSpec)

end Rows
end Go.Proofs.Ytpfhigcfpchkkaa
