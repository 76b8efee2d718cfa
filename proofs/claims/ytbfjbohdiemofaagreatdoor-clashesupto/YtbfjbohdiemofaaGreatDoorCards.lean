/-
  DERIVED. GIVEN WITH THE SEED: THE CARDS: each row of YtbfjbohdiemofaaGreatDoorRows.lean that lists a variable, with what it lists TIED to the program's text (the seventh form; the later family's looks); each row that meets fmt, with fmt's text TOLD by the authors' own Lean function (tested against real Go, not proved from fmt's source: count such statements apart). THE CARD IS WHAT COUNTS. Prove the row's statement (the work); the ties are given (YtbfjbohdiemofaaGreatDoorTie.lean); close each card by the builder's one call (the guide's Derived/Test/ToyasCard.lean, 'card_holds'). Laid BY PROGRAM, IN A SANDBOX (cutbox-door.mjs). By AI agents, Wed Nov 11 2026. No macro, syntax, notation, axiom, sorry.
-/
import Derived.Test.YtbfjbohdiemofaaGreatDoorRows
import GoSem.ClaimSeven
namespace Go.Proofs.YtbfjbohdiemofaaGreatDoor
namespace Rows

/-- THE TIED CARD OF 'cellarlaw.Builds'. -/
def buildsCard : Claim7 := { stood := { row := buildsRow, standIns := [], harness := (true, "5bbb987ebf613fbb783669ed4dd6a40131266396b453c7121807af501af0d9c5"), looks := false }, kinds := [], alts := [], laidByText := true, laidKinds := [.data, .pinned], laidTests := true, laidLooks := .later }
def BuildsCardSaid : Prop := Claim7.holds Tryz.pinned (.plain (OpenSpec.ofChange buildsSpec)) buildsCard

/-- THE TIED CARD OF 'cellarlaw.Clashes'. -/
def clashesCard : Claim7 := { stood := { row := clashesRow, standIns := [], harness := (true, "5bbb987ebf613fbb783669ed4dd6a40131266396b453c7121807af501af0d9c5"), looks := false }, kinds := [], alts := [], laidByText := true, laidKinds := [.data, .pinned], laidTests := true, laidLooks := .later }
def ClashesCardSaid : Prop := Claim7.holds Tryz.pinned (.plain (OpenSpec.ofChange clashesSpec)) clashesCard

/-- THE SECOND FORM's CARD OF 'cellarlaw.Builds'. -/
def buildsUptoCard : Claim7 := { stood := { row := buildsUptoRow, standIns := [], harness := (true, "5bbb987ebf613fbb783669ed4dd6a40131266396b453c7121807af501af0d9c5"), looks := false }, kinds := [], alts := [], laidByText := true, laidKinds := [.data, .pinned], laidTests := true, laidLooks := .later }
def BuildsUptoCardSaid : Prop := Claim7.holds Tryz.pinned (.plain (OpenSpec.upto buildsSpec)) buildsUptoCard

/-- THE SECOND FORM's CARD OF 'cellarlaw.Clashes'. -/
def clashesUptoCard : Claim7 := { stood := { row := clashesUptoRow, standIns := [], harness := (true, "5bbb987ebf613fbb783669ed4dd6a40131266396b453c7121807af501af0d9c5"), looks := false }, kinds := [], alts := [], laidByText := true, laidKinds := [.data, .pinned], laidTests := true, laidLooks := .later }
def ClashesUptoCardSaid : Prop := Claim7.holds Tryz.pinned (.plain (OpenSpec.upto clashesSpec)) clashesUptoCard
end Rows
end Go.Proofs.YtbfjbohdiemofaaGreatDoor
