/-
  DERIVED. GIVEN WITH THE SEED: THE CARDS: each row of YtjmacegibchplaaGreatDoorRows.lean that lists a variable, with what it lists TIED to the program's text (the seventh form; the later family's looks); each row that meets fmt, with fmt's text TOLD by the authors' own Lean function (tested against real Go, not proved from fmt's source: count such statements apart). THE CARD IS WHAT COUNTS. Prove the row's statement (the work); the ties are given (YtjmacegibchplaaGreatDoorTie.lean); close each card by the builder's one call (the guide's Derived/Test/ToyasCard.lean, 'card_holds'). Laid BY PROGRAM, IN A SANDBOX (cutbox-door.mjs). By AI agents, Wed Nov 11 2026. No macro, syntax, notation, axiom, sorry.
-/
import Derived.Test.YtjmacegibchplaaGreatDoorRows
import GoSem.ClaimSeven
namespace Go.Proofs.YtjmacegibchplaaGreatDoor
namespace Rows

/-- THE TIED CARD OF 'cellarlaw.Builds'. -/
def buildsCard : Claim7 := { stood := { row := buildsRow, standIns := [], harness := (true, "22a5ceb5c35344aad7dd4d18a5b60c34ba5f1fa1b3e0b7bc18a634ddd2a57718"), looks := false }, kinds := [], alts := [], laidByText := true, laidKinds := [.data, .pinned], laidTests := true, laidLooks := .later }
def BuildsCardSaid : Prop := Claim7.holds Tryz.pinned (.plain (OpenSpec.ofChange buildsSpec)) buildsCard

/-- THE TIED CARD OF 'cellarlaw.Clashes'. -/
def clashesCard : Claim7 := { stood := { row := clashesRow, standIns := [], harness := (true, "22a5ceb5c35344aad7dd4d18a5b60c34ba5f1fa1b3e0b7bc18a634ddd2a57718"), looks := false }, kinds := [], alts := [], laidByText := true, laidKinds := [.data, .pinned], laidTests := true, laidLooks := .later }
def ClashesCardSaid : Prop := Claim7.holds Tryz.pinned (.plain (OpenSpec.ofChange clashesSpec)) clashesCard

/-- THE TIED CARD OF 'cellarlaw.Stored'. -/
def storedCard : Claim7 := { stood := { row := storedRow, standIns := [], harness := (true, "22a5ceb5c35344aad7dd4d18a5b60c34ba5f1fa1b3e0b7bc18a634ddd2a57718"), looks := false }, kinds := [], alts := [], laidByText := true, laidKinds := [.data, .pinned], laidTests := true, laidLooks := .later }
def StoredCardSaid : Prop := Claim7.holds Tryz.pinned (.plain (OpenSpec.ofChange storedSpec)) storedCard

/-- THE TIED CARD OF 'cellarlaw.All'. -/
def allCard : Claim7 := { stood := { row := allRow, standIns := [], harness := (true, "22a5ceb5c35344aad7dd4d18a5b60c34ba5f1fa1b3e0b7bc18a634ddd2a57718"), looks := false }, kinds := [], alts := [], laidByText := true, laidKinds := [.data, .pinned], laidTests := true, laidLooks := .later }
def AllCardSaid : Prop := Claim7.holds Tryz.pinned (.plain (OpenSpec.ofChange allSpec)) allCard

/-- THE TIED CARD OF 'cellarkeep.Known'. -/
def knownCard : Claim7 := { stood := { row := knownRow, standIns := [], harness := (true, "22a5ceb5c35344aad7dd4d18a5b60c34ba5f1fa1b3e0b7bc18a634ddd2a57718"), looks := false }, kinds := [], alts := [], laidByText := true, laidKinds := [.data, .pinned], laidTests := true, laidLooks := .later }
def KnownCardSaid : Prop := Claim7.holds Tryz.pinned (.plain (OpenSpec.ofChange knownSpec)) knownCard

/-- THE TIED CARD OF 'cellarkeep.Alone'. -/
def aloneCard : Claim7 := { stood := { row := aloneRow, standIns := [], harness := (true, "22a5ceb5c35344aad7dd4d18a5b60c34ba5f1fa1b3e0b7bc18a634ddd2a57718"), looks := false }, kinds := [], alts := [], laidByText := true, laidKinds := [.data, .pinned], laidTests := true, laidLooks := .later }
def AloneCardSaid : Prop := Claim7.holds Tryz.pinned (.plain (OpenSpec.ofChange aloneSpec)) aloneCard

/-- THE TIED CARD OF 'cellarkeep.Parted'. -/
def partedCard : Claim7 := { stood := { row := partedRow, standIns := [], harness := (true, "22a5ceb5c35344aad7dd4d18a5b60c34ba5f1fa1b3e0b7bc18a634ddd2a57718"), looks := false }, kinds := [], alts := [], laidByText := true, laidKinds := [.data, .pinned], laidTests := true, laidLooks := .later }
def PartedCardSaid : Prop := Claim7.holds Tryz.pinned (.plain (OpenSpec.ofChange partedSpec)) partedCard

/-- THE TIED CARD OF 'cellarkeep.Rooted'. -/
def rootedCard : Claim7 := { stood := { row := rootedRow, standIns := [], harness := (true, "22a5ceb5c35344aad7dd4d18a5b60c34ba5f1fa1b3e0b7bc18a634ddd2a57718"), looks := false }, kinds := [], alts := [], laidByText := true, laidKinds := [.data, .pinned], laidTests := true, laidLooks := .later }
def RootedCardSaid : Prop := Claim7.holds Tryz.pinned (.plain (OpenSpec.ofChange rootedSpec)) rootedCard

/-- THE TIED CARD OF 'cellarkeep.Brought'. -/
def broughtCard : Claim7 := { stood := { row := broughtRow, standIns := [], harness := (true, "22a5ceb5c35344aad7dd4d18a5b60c34ba5f1fa1b3e0b7bc18a634ddd2a57718"), looks := false }, kinds := [], alts := [], laidByText := true, laidKinds := [.data, .pinned], laidTests := true, laidLooks := .later }
def BroughtCardSaid : Prop := Claim7.holds Tryz.pinned (.plain (OpenSpec.ofChange broughtSpec)) broughtCard

/-- THE SECOND FORM's CARD OF 'cellarlaw.Builds'. -/
def buildsUptoCard : Claim7 := { stood := { row := buildsUptoRow, standIns := [], harness := (true, "22a5ceb5c35344aad7dd4d18a5b60c34ba5f1fa1b3e0b7bc18a634ddd2a57718"), looks := false }, kinds := [], alts := [], laidByText := true, laidKinds := [.data, .pinned], laidTests := true, laidLooks := .later }
def BuildsUptoCardSaid : Prop := Claim7.holds Tryz.pinned (.plain (OpenSpec.upto buildsSpec)) buildsUptoCard

/-- THE SECOND FORM's CARD OF 'cellarlaw.Clashes'. -/
def clashesUptoCard : Claim7 := { stood := { row := clashesUptoRow, standIns := [], harness := (true, "22a5ceb5c35344aad7dd4d18a5b60c34ba5f1fa1b3e0b7bc18a634ddd2a57718"), looks := false }, kinds := [], alts := [], laidByText := true, laidKinds := [.data, .pinned], laidTests := true, laidLooks := .later }
def ClashesUptoCardSaid : Prop := Claim7.holds Tryz.pinned (.plain (OpenSpec.upto clashesSpec)) clashesUptoCard

/-- THE SECOND FORM's CARD OF 'cellarlaw.Stored'. -/
def storedUptoCard : Claim7 := { stood := { row := storedUptoRow, standIns := [], harness := (true, "22a5ceb5c35344aad7dd4d18a5b60c34ba5f1fa1b3e0b7bc18a634ddd2a57718"), looks := false }, kinds := [], alts := [], laidByText := true, laidKinds := [.data, .pinned], laidTests := true, laidLooks := .later }
def StoredUptoCardSaid : Prop := Claim7.holds Tryz.pinned (.plain (OpenSpec.upto storedSpec)) storedUptoCard

/-- THE SECOND FORM's CARD OF 'cellarlaw.All'. -/
def allUptoCard : Claim7 := { stood := { row := allUptoRow, standIns := [], harness := (true, "22a5ceb5c35344aad7dd4d18a5b60c34ba5f1fa1b3e0b7bc18a634ddd2a57718"), looks := false }, kinds := [], alts := [], laidByText := true, laidKinds := [.data, .pinned], laidTests := true, laidLooks := .later }
def AllUptoCardSaid : Prop := Claim7.holds Tryz.pinned (.plain (OpenSpec.upto allSpec)) allUptoCard

/-- THE SECOND FORM's CARD OF 'cellarkeep.Known'. -/
def knownUptoCard : Claim7 := { stood := { row := knownUptoRow, standIns := [], harness := (true, "22a5ceb5c35344aad7dd4d18a5b60c34ba5f1fa1b3e0b7bc18a634ddd2a57718"), looks := false }, kinds := [], alts := [], laidByText := true, laidKinds := [.data, .pinned], laidTests := true, laidLooks := .later }
def KnownUptoCardSaid : Prop := Claim7.holds Tryz.pinned (.plain (OpenSpec.upto knownSpec)) knownUptoCard

/-- THE SECOND FORM's CARD OF 'cellarkeep.Alone'. -/
def aloneUptoCard : Claim7 := { stood := { row := aloneUptoRow, standIns := [], harness := (true, "22a5ceb5c35344aad7dd4d18a5b60c34ba5f1fa1b3e0b7bc18a634ddd2a57718"), looks := false }, kinds := [], alts := [], laidByText := true, laidKinds := [.data, .pinned], laidTests := true, laidLooks := .later }
def AloneUptoCardSaid : Prop := Claim7.holds Tryz.pinned (.plain (OpenSpec.upto aloneSpec)) aloneUptoCard

/-- THE SECOND FORM's CARD OF 'cellarkeep.Parted'. -/
def partedUptoCard : Claim7 := { stood := { row := partedUptoRow, standIns := [], harness := (true, "22a5ceb5c35344aad7dd4d18a5b60c34ba5f1fa1b3e0b7bc18a634ddd2a57718"), looks := false }, kinds := [], alts := [], laidByText := true, laidKinds := [.data, .pinned], laidTests := true, laidLooks := .later }
def PartedUptoCardSaid : Prop := Claim7.holds Tryz.pinned (.plain (OpenSpec.upto partedSpec)) partedUptoCard

/-- THE SECOND FORM's CARD OF 'cellarkeep.Rooted'. -/
def rootedUptoCard : Claim7 := { stood := { row := rootedUptoRow, standIns := [], harness := (true, "22a5ceb5c35344aad7dd4d18a5b60c34ba5f1fa1b3e0b7bc18a634ddd2a57718"), looks := false }, kinds := [], alts := [], laidByText := true, laidKinds := [.data, .pinned], laidTests := true, laidLooks := .later }
def RootedUptoCardSaid : Prop := Claim7.holds Tryz.pinned (.plain (OpenSpec.upto rootedSpec)) rootedUptoCard

/-- THE SECOND FORM's CARD OF 'cellarkeep.Brought'. -/
def broughtUptoCard : Claim7 := { stood := { row := broughtUptoRow, standIns := [], harness := (true, "22a5ceb5c35344aad7dd4d18a5b60c34ba5f1fa1b3e0b7bc18a634ddd2a57718"), looks := false }, kinds := [], alts := [], laidByText := true, laidKinds := [.data, .pinned], laidTests := true, laidLooks := .later }
def BroughtUptoCardSaid : Prop := Claim7.holds Tryz.pinned (.plain (OpenSpec.upto broughtSpec)) broughtUptoCard
end Rows
end Go.Proofs.YtjmacegibchplaaGreatDoor
