/-
  The listed variables: a world that holds them; the library's variable that is not listed.
-/
import Derived.Test.YtjmacegibchplaaGreatDoorCards
import Derived.Test.YtjmacegibchplaaGreatDoorTie
import Derived.Test.YtjmacegibchplaaGreatDoorTWa
import Derived.WalkKit
import Derived.ProofKit
import Derived.OpenShut
import Derived.Deep.DeepHandedRow
import Derived.Shelf.Vars
namespace Go.Proofs.YtjmacegibchplaaGreatDoor
open Go.ChangeShapes Go.WideShapes Go.ChangeAt Go.RowKit
set_option linter.unusedVariables false

theorem glob_of_shape {w : World} (h : w.ShapedOpen Tryz.prog) : GlobOk w :=
  cell_of_shapedOpen_int h (t := 3) (zero := #[.int .i64 0]) (k := .i64) (of_decide_eq_true (by kernel_rfl)) (by kernel_rfl) rfl (by kernel_rfl) (by kernel_rfl) Tryz.underlying3
/-- the cells of the two listed variables -/
def firstCells : List Value := Go.Pinned.utf8FirstZ.map fun (n : Nat) => Value.int .u8 (n : Int)
def acceptCells : List Value := (([128, 191, 160, 191, 128, 159, 144, 191, 128, 143] ++ List.replicate 22 0 : List Nat)).map fun (n : Nat) => Value.int .u8 (n : Int)
def putAt (cs : List Value) : Obj → Obj
  | .cells _ t frozen => .cells cs.toArray t frozen
  | o => o
/-- a world that holds what the list says -/
def laidIn (w : World) : World :=
  { w with heap := (w.heap.modify 1 (putAt firstCells)).modify 2 (putAt acceptCells) }
theorem own : ownKnob Tryz.prog.godebug = none := by kernel_rfl
theorem laidOut : laidOutB Tryz.prog = true := by kernel_rfl
set_option maxRecDepth 100000 in
theorem laid_met1 (os : Os) : laidMet Tryz.prog Rows.buildsUptoRow.laid ((laidIn (World.holding Tryz.prog os ⟨#[], #[], []⟩)).forCall (fun _ _ => 0) ⟨#[], #[.slice none 0 0], []⟩).memory :=
  laidMet_of_run' 8 (by kernel_rfl) (by kernel_rfl)
end Go.Proofs.YtjmacegibchplaaGreatDoor
