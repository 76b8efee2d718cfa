/-
  The document's Decode (the statements' own): its contract.
-/
import Derived.Test.YtbfjbohdiemofaaGreatDoorDecP
import Derived.Test.YtbfjbohdiemofaaGreatDoorRefEnc
namespace Go.Proofs.YtbfjbohdiemofaaGreatDoor
open Go.RowKit
set_option linter.unusedVariables false

/-- what the loop carries -/
def RLoop (w : World) (L : List UInt8) (v i : Value) (wr : World) : Prop :=
  ∃ (items : List P.It) (p : Nat), i = .int .i64 p ∧ (p ≤ L.length ∨ p = 2) ∧ items.length ≤ 41 ∧ OwnsIt wr w.heap.size v items ∧ FitAll items ∧ Below w.heap.size w wr ∧ Track L items p
def posOf : Value → Nat
  | .int _ n => n.toNat
  | _ => 0
theorem bs_at (L : List UInt8) (p : Nat) (h : p < L.length) (h' : p < (bs L).size) : (bs L)[p]'h' = L[p] := rfl
theorem bs_int (L : List UInt8) (n : Int) (q : Nat) (hq : n.toNat = q) (h : q < L.length) (b : UInt8) (hb : L[q] = b) : ∃ h' : n.toNat < (bs L).size, (bs L)[n.toNat]'h' = b := by
  subst hq
  exact ⟨by rw [bs_size]; exact h, hb⟩
theorem fit_snoc {l : List P.It} (h : FitAll l) (x : P.It) (hx : Fits x) : FitAll (l ++ [x]) := fun i hi => by
  by_cases hlt : i < l.length
  · rw [List.getElem_append_left hlt]; exact h i hlt
  · rw [List.getElem_append_right (by omega)]
    have : i - l.length = 0 := by simp at hi; omega
    simp only [this, List.getElem_cons_zero]
    exact hx
end Go.Proofs.YtbfjbohdiemofaaGreatDoor
