/-
  No cell of these rows narrows 'for every input' (looked for: loops, veiled, ifaces, maps, wideKeys, modest, calm, conditions, laid).
  DERIVED. THE GIVEN ROWS OF THIS SEAT. 6 by the template 'for every input the law returns true; each argument reads behind the call as it read before'; 0 by the template 'total and deterministic' (their statements: YthcfaccglioikaaTotals.lean).
  GIVEN WITH THE SEED: the statements are not yours to turn. If you find one false, say at which input.
  Laid BY PROGRAM, IN A SANDBOX (cutbox-rows.mjs): the forced cells as the released guide's own fill.sh prints them over the translation ba15c88428a511dc… (all of the seat's roots in one cut). By AI agents, Wed Nov 11 2026. No macro, syntax, notation, axiom, sorry.
-/
import Derived.Test.YthcfaccglioikaaChecked
import GoSem.Claim
import GoSem.ClaimJoined
import GoSem.ClaimMapViews
import Derived.JoinedTies
import Derived.KernelRfl
namespace Go.Proofs.Ythcfaccglioikaa
/- THE CELL 'sum', in the pinned program and in every row, IS THE sha256 OF THE DUMP (.gsa) THAT YthcfaccglioikaaProg.lean LOADS. Nothing in Lean hashes anything: it is a label: what it is worth is what the hold of that sum in a sandbox is worth. -/
noncomputable def Try.pinned : Pinned := { name := "ythcfaccglioikaa", sum := "ba15c88428a511dcac21f368eb9361a70ec24dfa9ae923369ede74aa9fc67e99", checked := Try.checked }
namespace Rows
def none {H : Type} : Left H := { results := [], args := [] }

/-- 'suturelaw05.VoteGrants': WHATEVER THE INPUT: true; the input reads as it did. -/
def voteGrantsSpec : ChangeSpec := { name := "voteGrants", fn := fun _ => fun
  | [d1, d2, d3] => { results := [.lit (.bool true)], args := [d1, d2, d3] }
  | _ => none }
def voteGrantsRow : OpenClaim := { program := "ythcfaccglioikaa", sum := "ba15c88428a511dcac21f368eb9361a70ec24dfa9ae923369ede74aa9fc67e99", func := "suture/suturelaw05.VoteGrants", spec := "voteGrants", apart := false }
def VoteGrantsSaid : Prop := voteGrantsRow.holds Try.pinned (OpenSpec.ofChange voteGrantsSpec)

/-- ITS FALSE NEIGHBOUR: 'it returns false'. Refute it at one input. -/
def voteGrantsWrong : ChangeSpec := { name := "voteGrants", fn := fun _ => fun
  | [d1, d2, d3] => { results := [.lit (.bool false)], args := [d1, d2, d3] }
  | _ => none }
def VoteGrantsWrongFalsely : Prop := voteGrantsRow.holds Try.pinned (OpenSpec.ofChange voteGrantsWrong)

/-- 'suturelaw05.VoteOnce': WHATEVER THE INPUT: true; the input reads as it did. -/
def voteOnceSpec : ChangeSpec := { name := "voteOnce", fn := fun _ => fun
  | [d1, d2, d3] => { results := [.lit (.bool true)], args := [d1, d2, d3] }
  | _ => none }
def voteOnceRow : OpenClaim := { program := "ythcfaccglioikaa", sum := "ba15c88428a511dcac21f368eb9361a70ec24dfa9ae923369ede74aa9fc67e99", func := "suture/suturelaw05.VoteOnce", spec := "voteOnce", apart := false }
def VoteOnceSaid : Prop := voteOnceRow.holds Try.pinned (OpenSpec.ofChange voteOnceSpec)

/-- ITS FALSE NEIGHBOUR: 'it returns false'. Refute it at one input. -/
def voteOnceWrong : ChangeSpec := { name := "voteOnce", fn := fun _ => fun
  | [d1, d2, d3] => { results := [.lit (.bool false)], args := [d1, d2, d3] }
  | _ => none }
def VoteOnceWrongFalsely : Prop := voteOnceRow.holds Try.pinned (OpenSpec.ofChange voteOnceWrong)

/-- 'suturelaw05.VoteNewest': WHATEVER THE INPUT: true; the input reads as it did. -/
def voteNewestSpec : ChangeSpec := { name := "voteNewest", fn := fun _ => fun
  | [d1, d2, d3] => { results := [.lit (.bool true)], args := [d1, d2, d3] }
  | _ => none }
def voteNewestRow : OpenClaim := { program := "ythcfaccglioikaa", sum := "ba15c88428a511dcac21f368eb9361a70ec24dfa9ae923369ede74aa9fc67e99", func := "suture/suturelaw05.VoteNewest", spec := "voteNewest", apart := false }
def VoteNewestSaid : Prop := voteNewestRow.holds Try.pinned (OpenSpec.ofChange voteNewestSpec)

/-- ITS FALSE NEIGHBOUR: 'it returns false'. Refute it at one input. -/
def voteNewestWrong : ChangeSpec := { name := "voteNewest", fn := fun _ => fun
  | [d1, d2, d3] => { results := [.lit (.bool false)], args := [d1, d2, d3] }
  | _ => none }
def VoteNewestWrongFalsely : Prop := voteNewestRow.holds Try.pinned (OpenSpec.ofChange voteNewestWrong)

/-- 'suturelaw05.VoteAgain': WHATEVER THE INPUT: true; the input reads as it did. -/
def voteAgainSpec : ChangeSpec := { name := "voteAgain", fn := fun _ => fun
  | [d1, d2, d3] => { results := [.lit (.bool true)], args := [d1, d2, d3] }
  | _ => none }
def voteAgainRow : OpenClaim := { program := "ythcfaccglioikaa", sum := "ba15c88428a511dcac21f368eb9361a70ec24dfa9ae923369ede74aa9fc67e99", func := "suture/suturelaw05.VoteAgain", spec := "voteAgain", apart := false }
def VoteAgainSaid : Prop := voteAgainRow.holds Try.pinned (OpenSpec.ofChange voteAgainSpec)

/-- ITS FALSE NEIGHBOUR: 'it returns false'. Refute it at one input. -/
def voteAgainWrong : ChangeSpec := { name := "voteAgain", fn := fun _ => fun
  | [d1, d2, d3] => { results := [.lit (.bool false)], args := [d1, d2, d3] }
  | _ => none }
def VoteAgainWrongFalsely : Prop := voteAgainRow.holds Try.pinned (OpenSpec.ofChange voteAgainWrong)

/-- 'suturelaw05.VoteSees': WHATEVER THE INPUT: true; the input reads as it did. -/
def voteSeesSpec : ChangeSpec := { name := "voteSees", fn := fun _ => fun
  | [d1, d2, d3] => { results := [.lit (.bool true)], args := [d1, d2, d3] }
  | _ => none }
def voteSeesRow : OpenClaim := { program := "ythcfaccglioikaa", sum := "ba15c88428a511dcac21f368eb9361a70ec24dfa9ae923369ede74aa9fc67e99", func := "suture/suturelaw05.VoteSees", spec := "voteSees", apart := false }
def VoteSeesSaid : Prop := voteSeesRow.holds Try.pinned (OpenSpec.ofChange voteSeesSpec)

/-- ITS FALSE NEIGHBOUR: 'it returns false'. Refute it at one input. -/
def voteSeesWrong : ChangeSpec := { name := "voteSees", fn := fun _ => fun
  | [d1, d2, d3] => { results := [.lit (.bool false)], args := [d1, d2, d3] }
  | _ => none }
def VoteSeesWrongFalsely : Prop := voteSeesRow.holds Try.pinned (OpenSpec.ofChange voteSeesWrong)

/-- 'suturelaw05.VoteElects': WHATEVER THE INPUT: true; the input reads as it did. -/
def voteElectsSpec : ChangeSpec := { name := "voteElects", fn := fun _ => fun
  | [d1, d2, d3] => { results := [.lit (.bool true)], args := [d1, d2, d3] }
  | _ => none }
def voteElectsRow : OpenClaim := { program := "ythcfaccglioikaa", sum := "ba15c88428a511dcac21f368eb9361a70ec24dfa9ae923369ede74aa9fc67e99", func := "suture/suturelaw05.VoteElects", spec := "voteElects", apart := false }
def VoteElectsSaid : Prop := voteElectsRow.holds Try.pinned (OpenSpec.ofChange voteElectsSpec)

/-- ITS FALSE NEIGHBOUR: 'it returns false'. Refute it at one input. -/
def voteElectsWrong : ChangeSpec := { name := "voteElects", fn := fun _ => fun
  | [d1, d2, d3] => { results := [.lit (.bool false)], args := [d1, d2, d3] }
  | _ => none }
def VoteElectsWrongFalsely : Prop := voteElectsRow.holds Try.pinned (OpenSpec.ofChange voteElectsWrong)

/- THE SECOND FORM. 'bulk': how many values and letters a reading holds, each counted each time it is reached (what is shared counts as often as it is met; a slice's spare places count too). A statement '..UptoSaid' is the law's where the arguments, and the package variables that the reading takes, are together of bulk at most 1048576: NARROWER than '..Said'. Prove '..Said' where nothing that the law and all that it calls make is longer than what came in: it says more and counts as full. Else prove '..UptoSaid'. A law counts once. -/
mutual
def uptoBulk {H : Type} : DataW H → Nat
  | .lit (.string bytes) => bytes.length + 1
  | .lit _ => 1
  | .nil => 1
  | .ptr d => uptoBulk d + 1
  | .slice elems spare => uptoBulkAll elems + uptoBulkAll spare + 1
  | .agg parts => uptoBulkAll parts + 1
  | .iface _ d => uptoBulk d + 1
  | .map entries => uptoBulkEntries entries + 1
  | .held _ => 1
def uptoBulkAll {H : Type} : List (DataW H) → Nat
  | [] => 0
  | d :: r => uptoBulk d + uptoBulkAll r
def uptoBulkEntries {H : Type} : List (Lit × DataW H) → Nat
  | [] => 0
  | x :: r => uptoBulkEntry x + uptoBulkEntries r
def uptoBulkEntry {H : Type} : Lit × DataW H → Nat
  | (.string bytes, d) => bytes.length + uptoBulk d + 1
  | (_, d) => uptoBulk d + 1
 end
def uptoSmall : (H : Type) → List (DataW H) → Bool := fun _ ds => decide (uptoBulkAll ds ≤ 1048576)
def OpenSpec.upto (s : _root_.Go.ChangeSpec) : _root_.Go.OpenSpec := { _root_.Go.OpenSpec.ofChange s with cond := some uptoSmall }

/-- 'suturelaw05.VoteGrants', WHERE WHAT IT READS IS OF BULK AT MOST 1048576: true; the input reads as it did. -/
def voteGrantsUptoRow : OpenClaim := { program := "ythcfaccglioikaa", sum := "ba15c88428a511dcac21f368eb9361a70ec24dfa9ae923369ede74aa9fc67e99", func := "suture/suturelaw05.VoteGrants", spec := "voteGrants", apart := false, narrowed := true }
def VoteGrantsUptoSaid : Prop := voteGrantsUptoRow.holds Try.pinned (OpenSpec.upto voteGrantsSpec)

/-- 'suturelaw05.VoteOnce', WHERE WHAT IT READS IS OF BULK AT MOST 1048576: true; the input reads as it did. -/
def voteOnceUptoRow : OpenClaim := { program := "ythcfaccglioikaa", sum := "ba15c88428a511dcac21f368eb9361a70ec24dfa9ae923369ede74aa9fc67e99", func := "suture/suturelaw05.VoteOnce", spec := "voteOnce", apart := false, narrowed := true }
def VoteOnceUptoSaid : Prop := voteOnceUptoRow.holds Try.pinned (OpenSpec.upto voteOnceSpec)

/-- 'suturelaw05.VoteNewest', WHERE WHAT IT READS IS OF BULK AT MOST 1048576: true; the input reads as it did. -/
def voteNewestUptoRow : OpenClaim := { program := "ythcfaccglioikaa", sum := "ba15c88428a511dcac21f368eb9361a70ec24dfa9ae923369ede74aa9fc67e99", func := "suture/suturelaw05.VoteNewest", spec := "voteNewest", apart := false, narrowed := true }
def VoteNewestUptoSaid : Prop := voteNewestUptoRow.holds Try.pinned (OpenSpec.upto voteNewestSpec)

/-- 'suturelaw05.VoteAgain', WHERE WHAT IT READS IS OF BULK AT MOST 1048576: true; the input reads as it did. -/
def voteAgainUptoRow : OpenClaim := { program := "ythcfaccglioikaa", sum := "ba15c88428a511dcac21f368eb9361a70ec24dfa9ae923369ede74aa9fc67e99", func := "suture/suturelaw05.VoteAgain", spec := "voteAgain", apart := false, narrowed := true }
def VoteAgainUptoSaid : Prop := voteAgainUptoRow.holds Try.pinned (OpenSpec.upto voteAgainSpec)

/-- 'suturelaw05.VoteSees', WHERE WHAT IT READS IS OF BULK AT MOST 1048576: true; the input reads as it did. -/
def voteSeesUptoRow : OpenClaim := { program := "ythcfaccglioikaa", sum := "ba15c88428a511dcac21f368eb9361a70ec24dfa9ae923369ede74aa9fc67e99", func := "suture/suturelaw05.VoteSees", spec := "voteSees", apart := false, narrowed := true }
def VoteSeesUptoSaid : Prop := voteSeesUptoRow.holds Try.pinned (OpenSpec.upto voteSeesSpec)

/-- 'suturelaw05.VoteElects', WHERE WHAT IT READS IS OF BULK AT MOST 1048576: true; the input reads as it did. -/
def voteElectsUptoRow : OpenClaim := { program := "ythcfaccglioikaa", sum := "ba15c88428a511dcac21f368eb9361a70ec24dfa9ae923369ede74aa9fc67e99", func := "suture/suturelaw05.VoteElects", spec := "voteElects", apart := false, narrowed := true }
def VoteElectsUptoSaid : Prop := voteElectsUptoRow.holds Try.pinned (OpenSpec.upto voteElectsSpec)

end Rows
end Go.Proofs.Ythcfaccglioikaa
