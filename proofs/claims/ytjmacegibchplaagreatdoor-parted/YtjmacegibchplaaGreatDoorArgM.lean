import Derived.Test.YtjmacegibchplaaGreatDoorRows
import Derived.Test.YtjmacegibchplaaGreatDoorTreeC
import Derived.Test.YtjmacegibchplaaGreatDoorLnB
/-
  A list of entries that comes in and is of bounded bulk: its paths and data are.
-/
namespace Go.Proofs.YtjmacegibchplaaGreatDoor
open Go.RowKit
set_option linter.unusedVariables false
end Go.Proofs.YtjmacegibchplaaGreatDoor

/-
  Lists of texts and of numbers that come in and are of bounded bulk, opened.
-/
namespace Go.Proofs.YtjmacegibchplaaGreatDoor
open Go.RowKit
set_option linter.unusedVariables false
end Go.Proofs.YtjmacegibchplaaGreatDoor

/-
  Lists of texts and of numbers that come in, of whatever length, opened.
-/
namespace Go.Proofs.YtjmacegibchplaaGreatDoor
open Go.RowKit
set_option linter.unusedVariables false
set_option maxRecDepth 100000 in
theorem open_textsM {H : Type} {enc : TypeId × Value → H} {W : World} {base : Nat} {sp : Nat → Bool} {held : Bool} {fuel : Nat} {a : Option Addr} {len cap : Nat} {x : DataW H × List MemPlace}
    (h : DataW.trod enc Tryz.prog W base sp held fuel 23 [.slice a len cap] = some x) :
    ∃ l : List (List UInt8), l.length = len ∧ TextsAt W a l ∧ (∀ y ∈ l, y.length ≤ 9223372036854775807) ∧ len ≤ 9223372036854775807 ∧ (a = none → l = [] ∧ cap = 0) := by
  rcases Deep.open_slice Tryz.underlying23 h with ⟨hcs, rfl⟩ | ⟨ad, len', cap', m, n, D, Pl, hcs, _, hl, hm, hmm, rfl, hel⟩
  · simp at hcs
    obtain ⟨rfl, rfl, rfl⟩ := hcs
    exact ⟨[], rfl, .inl rfl, by simp, by decide, fun _ => ⟨rfl, rfl⟩⟩
  · simp at hcs
    obtain ⟨rfl, rfl, rfl⟩ := hcs
    have hlm : len ≤ m := by rw [hmm]; split <;> omega
    unfold maxLen at hm
    have hex : ∀ i, i < len → ∃ y : List UInt8, y.length ≤ 9223372036854775807 ∧ W.cell? (ad.add i) = some (strVal y) := by
      intro i hi
      obtain ⟨cs', hc, ht⟩ := hel i (by omega)
      obtain ⟨s0, e0, r0, z0⟩ := DataW.trod_string Tryz.underlying9 ht
      rw [cells_str] at hc
      obtain ⟨_, hlen, hcc⟩ := World.cells?_some hc
      have hcs : cs' = [.string s0] := e0
      refine ⟨s0.data.toList, ?_, ?_⟩
      · have h9 := z0
        unfold maxLen at h9
        rw [Array.length_toList]
        exact h9
      · have := hcc 0 (by omega)
        rw [hcs] at this
        rw [show strVal s0.data.toList = .string s0 by unfold strVal; rw [bs_of]]
        have h2 : ((ad.add i).add 0) = ad.add i := by unfold Addr.add; split <;> simp_all
        simp only [Nat.mul_one] at this
        rw [h2] at this
        simpa using this
    obtain ⟨l, hll, hp⟩ := list_choose hex
    refine ⟨l, hll, ?_, fun y hy => ?_, by omega, fun h => by simp at h⟩
    · rcases Nat.eq_zero_or_pos len with h0 | hpos
      · left; exact List.eq_nil_of_length_eq_zero (by omega)
      · right
        obtain ⟨b, o, spot⟩ := ad
        have hc := (hp 0 (by omega)).2
        have hspot : spot = none := by simpa [Addr.add] using World.cell?_spot hc
        subst hspot
        refine ⟨b, o, rfl, fun i hi => ?_⟩
        have := (hp i hi).2
        rw [add_off] at this
        exact this
    · obtain ⟨i, hi, rfl⟩ := List.getElem_of_mem hy
      exact (hp i hi).1
set_option maxRecDepth 100000 in
theorem open_intsM {H : Type} {enc : TypeId × Value → H} {W : World} {base : Nat} {sp : Nat → Bool} {held : Bool} {fuel : Nat} {a : Option Addr} {len cap : Nat} {x : DataW H × List MemPlace}
    (h : DataW.trod enc Tryz.prog W base sp held fuel 55 [.slice a len cap] = some x) :
    ∃ l : List Int, l.length = len ∧ IntsAt W a l ∧ (∀ r ∈ l, -9223372036854775808 ≤ r ∧ r ≤ 9223372036854775807) ∧ len ≤ 9223372036854775807 ∧ (a = none → l = [] ∧ cap = 0) := by
  rcases Deep.open_slice Tryz.underlying55 h with ⟨hcs, rfl⟩ | ⟨ad, len', cap', m, n, D, Pl, hcs, _, hl, hm, hmm, rfl, hel⟩
  · simp at hcs
    obtain ⟨rfl, rfl, rfl⟩ := hcs
    exact ⟨[], rfl, .inl rfl, by simp, by decide, fun _ => ⟨rfl, rfl⟩⟩
  · simp at hcs
    obtain ⟨rfl, rfl, rfl⟩ := hcs
    have hlm : len ≤ m := by rw [hmm]; split <;> omega
    unfold maxLen at hm
    have hmin : IntKind.i64.min = -9223372036854775808 := by decide
    have hmax : IntKind.i64.max = 9223372036854775807 := by decide
    have hex : ∀ i, i < len → ∃ y : Int, (-9223372036854775808 ≤ y ∧ y ≤ 9223372036854775807) ∧ W.cell? (ad.add i) = some (.int .i64 y) := by
      intro i hi
      obtain ⟨cs', hc, ht⟩ := hel i (by omega)
      obtain ⟨s0, e0, r0, z0⟩ := DataW.trod_int Tryz.underlying3 ht
      rw [cells_int] at hc
      obtain ⟨_, hlen, hcc⟩ := World.cells?_some hc
      have hcs : cs' = [.int .i64 s0] := e0
      refine ⟨s0, ?_, ?_⟩
      · have h1 := z0
        simp [Lit.wf] at h1
        omega
      · have := hcc 0 (by omega)
        rw [hcs] at this
        have h2 : ((ad.add i).add 0) = ad.add i := by unfold Addr.add; split <;> simp_all
        simp only [Nat.mul_one] at this
        rw [h2] at this
        simpa using this
    obtain ⟨l, hll, hp⟩ := list_choose hex
    refine ⟨l, hll, ?_, fun y hy => ?_, by omega, fun h => by simp at h⟩
    · rcases Nat.eq_zero_or_pos len with h0 | hpos
      · left; exact List.eq_nil_of_length_eq_zero (by omega)
      · right
        obtain ⟨b, o, spot⟩ := ad
        have hc := (hp 0 (by omega)).2
        have hspot : spot = none := by simpa [Addr.add] using World.cell?_spot hc
        subst hspot
        refine ⟨b, o, rfl, fun i hi => ?_⟩
        have := (hp i hi).2
        rw [add_off] at this
        exact this
    · obtain ⟨i, hi, rfl⟩ := List.getElem_of_mem hy
      exact (hp i hi).1
end Go.Proofs.YtjmacegibchplaaGreatDoor
