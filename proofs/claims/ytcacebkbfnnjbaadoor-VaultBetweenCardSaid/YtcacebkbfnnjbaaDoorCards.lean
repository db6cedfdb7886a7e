/-
  DERIVED. GIVEN WITH THE SEED: THE CARDS: each row of YtcacebkbfnnjbaaDoorRows.lean that lists a variable, with what it lists TIED to the program's text (the seventh form; the later family's looks); each row that meets fmt, with fmt's text TOLD by the authors' own Lean function (tested against real Go, not proved from fmt's source: count such statements apart). THE CARD IS WHAT COUNTS. Prove the row's statement (the work); the ties are given (YtcacebkbfnnjbaaDoorTie.lean); close each card by the builder's one call (the guide's Derived/Test/ToyasCard.lean, 'card_holds'). Laid BY PROGRAM, IN A SANDBOX (cutbox-door.mjs). By AI agents, Wed Nov 11 2026. No macro, syntax, notation, axiom, sorry.
-/
import Derived.Test.YtcacebkbfnnjbaaDoorRows
import GoSem.ClaimSeven
namespace Go.Proofs.YtcacebkbfnnjbaaDoor
namespace Rows

/-- THE TIED CARD OF 'suturelaw08.VaultDoes'. -/
def vaultDoesCard : Claim7 := { stood := { row := vaultDoesRow, standIns := [], harness := (true, "9aff527062af81b128c3f29df8ae8b585ddf531afc537ad685b81b8e57d259e4"), looks := false }, kinds := [], alts := [], laidByText := true, laidKinds := [.data], laidTests := true, laidLooks := .later }
def VaultDoesCardSaid : Prop := Claim7.holds Tryd.pinned (.plain (OpenSpec.ofChange vaultDoesSpec)) vaultDoesCard

/-- THE TIED CARD OF 'suturelaw08.VaultReads'. -/
def vaultReadsCard : Claim7 := { stood := { row := vaultReadsRow, standIns := [], harness := (true, "9aff527062af81b128c3f29df8ae8b585ddf531afc537ad685b81b8e57d259e4"), looks := false }, kinds := [], alts := [], laidByText := true, laidKinds := [.data], laidTests := true, laidLooks := .later }
def VaultReadsCardSaid : Prop := Claim7.holds Tryd.pinned (.plain (OpenSpec.ofChange vaultReadsSpec)) vaultReadsCard

/-- THE TIED CARD OF 'suturelaw08.VaultLasts'. -/
def vaultLastsCard : Claim7 := { stood := { row := vaultLastsRow, standIns := [], harness := (true, "9aff527062af81b128c3f29df8ae8b585ddf531afc537ad685b81b8e57d259e4"), looks := false }, kinds := [], alts := [], laidByText := true, laidKinds := [.data], laidTests := true, laidLooks := .later }
def VaultLastsCardSaid : Prop := Claim7.holds Tryd.pinned (.plain (OpenSpec.ofChange vaultLastsSpec)) vaultLastsCard

/-- THE TIED CARD OF 'suturelaw08.VaultBetween'. -/
def vaultBetweenCard : Claim7 := { stood := { row := vaultBetweenRow, standIns := [], harness := (true, "9aff527062af81b128c3f29df8ae8b585ddf531afc537ad685b81b8e57d259e4"), looks := false }, kinds := [], alts := [], laidByText := true, laidKinds := [.data], laidTests := true, laidLooks := .later }
def VaultBetweenCardSaid : Prop := Claim7.holds Tryd.pinned (.plain (OpenSpec.ofChange vaultBetweenSpec)) vaultBetweenCard

/-- THE TIED CARD OF 'suturelaw08.VaultWhole'. -/
def vaultWholeCard : Claim7 := { stood := { row := vaultWholeRow, standIns := [], harness := (true, "9aff527062af81b128c3f29df8ae8b585ddf531afc537ad685b81b8e57d259e4"), looks := false }, kinds := [], alts := [], laidByText := true, laidKinds := [.data], laidTests := true, laidLooks := .later }
def VaultWholeCardSaid : Prop := Claim7.holds Tryd.pinned (.plain (OpenSpec.ofChange vaultWholeSpec)) vaultWholeCard

/-- THE TIED CARD OF 'suturelaw08.VaultAgain'. -/
def vaultAgainCard : Claim7 := { stood := { row := vaultAgainRow, standIns := [], harness := (true, "9aff527062af81b128c3f29df8ae8b585ddf531afc537ad685b81b8e57d259e4"), looks := false }, kinds := [], alts := [], laidByText := true, laidKinds := [.data], laidTests := true, laidLooks := .later }
def VaultAgainCardSaid : Prop := Claim7.holds Tryd.pinned (.plain (OpenSpec.ofChange vaultAgainSpec)) vaultAgainCard

/-- THE SECOND FORM's CARD OF 'suturelaw08.VaultDoes'. -/
def vaultDoesUptoCard : Claim7 := { stood := { row := vaultDoesUptoRow, standIns := [], harness := (true, "9aff527062af81b128c3f29df8ae8b585ddf531afc537ad685b81b8e57d259e4"), looks := false }, kinds := [], alts := [], laidByText := true, laidKinds := [.data], laidTests := true, laidLooks := .later }
def VaultDoesUptoCardSaid : Prop := Claim7.holds Tryd.pinned (.plain (OpenSpec.upto vaultDoesSpec)) vaultDoesUptoCard

/-- THE SECOND FORM's CARD OF 'suturelaw08.VaultReads'. -/
def vaultReadsUptoCard : Claim7 := { stood := { row := vaultReadsUptoRow, standIns := [], harness := (true, "9aff527062af81b128c3f29df8ae8b585ddf531afc537ad685b81b8e57d259e4"), looks := false }, kinds := [], alts := [], laidByText := true, laidKinds := [.data], laidTests := true, laidLooks := .later }
def VaultReadsUptoCardSaid : Prop := Claim7.holds Tryd.pinned (.plain (OpenSpec.upto vaultReadsSpec)) vaultReadsUptoCard

/-- THE SECOND FORM's CARD OF 'suturelaw08.VaultLasts'. -/
def vaultLastsUptoCard : Claim7 := { stood := { row := vaultLastsUptoRow, standIns := [], harness := (true, "9aff527062af81b128c3f29df8ae8b585ddf531afc537ad685b81b8e57d259e4"), looks := false }, kinds := [], alts := [], laidByText := true, laidKinds := [.data], laidTests := true, laidLooks := .later }
def VaultLastsUptoCardSaid : Prop := Claim7.holds Tryd.pinned (.plain (OpenSpec.upto vaultLastsSpec)) vaultLastsUptoCard

/-- THE SECOND FORM's CARD OF 'suturelaw08.VaultBetween'. -/
def vaultBetweenUptoCard : Claim7 := { stood := { row := vaultBetweenUptoRow, standIns := [], harness := (true, "9aff527062af81b128c3f29df8ae8b585ddf531afc537ad685b81b8e57d259e4"), looks := false }, kinds := [], alts := [], laidByText := true, laidKinds := [.data], laidTests := true, laidLooks := .later }
def VaultBetweenUptoCardSaid : Prop := Claim7.holds Tryd.pinned (.plain (OpenSpec.upto vaultBetweenSpec)) vaultBetweenUptoCard

/-- THE SECOND FORM's CARD OF 'suturelaw08.VaultWhole'. -/
def vaultWholeUptoCard : Claim7 := { stood := { row := vaultWholeUptoRow, standIns := [], harness := (true, "9aff527062af81b128c3f29df8ae8b585ddf531afc537ad685b81b8e57d259e4"), looks := false }, kinds := [], alts := [], laidByText := true, laidKinds := [.data], laidTests := true, laidLooks := .later }
def VaultWholeUptoCardSaid : Prop := Claim7.holds Tryd.pinned (.plain (OpenSpec.upto vaultWholeSpec)) vaultWholeUptoCard

/-- THE SECOND FORM's CARD OF 'suturelaw08.VaultAgain'. -/
def vaultAgainUptoCard : Claim7 := { stood := { row := vaultAgainUptoRow, standIns := [], harness := (true, "9aff527062af81b128c3f29df8ae8b585ddf531afc537ad685b81b8e57d259e4"), looks := false }, kinds := [], alts := [], laidByText := true, laidKinds := [.data], laidTests := true, laidLooks := .later }
def VaultAgainUptoCardSaid : Prop := Claim7.holds Tryd.pinned (.plain (OpenSpec.upto vaultAgainSpec)) vaultAgainUptoCard
end Rows
end Go.Proofs.YtcacebkbfnnjbaaDoor
