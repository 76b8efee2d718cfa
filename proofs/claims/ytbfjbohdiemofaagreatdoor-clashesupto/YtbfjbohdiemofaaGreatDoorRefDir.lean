/-
  The document's test of a directory (the statements' own): its contract.
-/
import Derived.Test.YtbfjbohdiemofaaGreatDoorEncB
import Derived.Deep.DeepCutAuto
namespace Go.Proofs.YtbfjbohdiemofaaGreatDoor
open Go.RowKit
set_option linter.unusedVariables false

def refPlain (kd : Int) (dg : ByteArray) (sz : Int) (tg : ByteArray) : Bool :=
  decide (0 ≤ kd) && decide (kd ≤ 2) && P.isDigest dg.data.toList && tg.toList.isEmpty && decide (0 ≤ sz) && decide (sz ≤ 2000)
def refLink (kd : Int) (dg : ByteArray) (sz : Int) (tg : ByteArray) : Bool :=
  (kd == 3) && P.isTarget tg.data.toList && dg.toList.isEmpty && (sz == 0)
theorem itemOk_ref (nm : ByteArray) (kd : Int) (dg : ByteArray) (sz : Int) (tg : ByteArray) :
    P.itemOk ⟨nm, kd, dg, sz, tg⟩ = (P.isName nm.data.toList && (refPlain kd dg sz tg || refLink kd dg sz tg)) := by
  unfold P.itemOk P.plainOk P.linkOk refPlain refLink P.within P.shape
  congr 1
  by_cases h0 : kd = 0
  · subst h0; simp [Bool.and_comm, Bool.and_left_comm, Bool.and_assoc, Bool.decide_and]
  by_cases h1 : kd = 1
  · subst h1; simp [Bool.and_comm, Bool.and_left_comm, Bool.and_assoc, Bool.decide_and]
  by_cases h2 : kd = 2
  · subst h2; simp [Bool.and_comm, Bool.and_left_comm, Bool.and_assoc, Bool.decide_and]
  by_cases h3 : kd = 3
  · subst h3; simp
  have : ¬ (0 ≤ kd ∧ kd ≤ 2) := by omega
  have e : (decide (0 ≤ kd) && decide (kd ≤ 2)) = false := by rw [← Bool.decide_and]; exact decide_eq_false this
  simp [h0, h1, h2, h3, e]

end Go.Proofs.YtbfjbohdiemofaaGreatDoor
