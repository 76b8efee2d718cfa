/-
  A list of items that comes in, opened.
-/
import Derived.Test.YtjmacegibchplaaGreatDoorItemC
import Derived.Deep.Slices
import Derived.ProofKit
import Derived.OpenShut
import Derived.SizedLaws
namespace Go.Proofs.YtjmacegibchplaaGreatDoor
open Go.RowKit
set_option linter.unusedVariables false

theorem list_choose {α : Type} {n : Nat} {p : Nat → α → Prop} (h : ∀ i, i < n → ∃ x, p i x) : ∃ l : List α, l.length = n ∧ ∀ i (hi : i < l.length), p i l[i] := by
  induction n with
  | zero => exact ⟨[], rfl, fun i hi => absurd hi (by simp)⟩
  | succ n ih =>
    obtain ⟨l, hl, hp⟩ := ih (fun i hi => h i (by omega))
    obtain ⟨x, hx⟩ := h n (by omega)
    refine ⟨l ++ [x], by simp [hl], fun i hi => ?_⟩
    by_cases hin : i < l.length
    · rw [List.getElem_append_left hin]; exact hp i hin
    · have : i = n := by simp at hi; omega
      subst this
      rw [List.getElem_append_right (by omega)]
      simpa using hx
theorem cells_item : Tryz.prog.cellsOf 47 = 5 := by kernel_rfl
theorem cells_str : Tryz.prog.cellsOf 9 = 1 := by kernel_rfl
theorem cells_int : Tryz.prog.cellsOf 3 = 1 := by kernel_rfl
theorem add_off (b o i : Nat) : (⟨b, o, none⟩ : Addr).add i = ⟨b, o + i, none⟩ := by unfold Addr.add; split <;> simp_all
set_option maxRecDepth 100000 in
theorem open_item {H : Type} {enc : TypeId × Value → H} {W : World} {base : Nat} {sp : Nat → Bool} {held : Bool} {fuel : Nat} {cs : List Value} {x : DataW H × List MemPlace}
    (h : DataW.trod enc Tryz.prog W base sp held fuel 47 cs = some x) : ∃ y : P.It, cs = itCells y ∧ Fits y := by
  obtain ⟨xs, n, _, rfl, hl, hlen, hf⟩ := DataW.trod_struct Tryz.underlying47 h
  rw [cells_item] at hl
  match cs, hl with
  | [v0, v1, v2, v3, v4], _ =>
    have h0 : DataW.trod enc Tryz.prog W base sp held n 9 (([v0, v1, v2, v3, v4].drop 0).take (Tryz.prog.cellsOf 9)) = xs[0]? := hf 0 _ rfl
    have h1 : DataW.trod enc Tryz.prog W base sp held n 3 (([v0, v1, v2, v3, v4].drop 1).take (Tryz.prog.cellsOf 3)) = xs[1]? := hf 1 _ rfl
    have h2 : DataW.trod enc Tryz.prog W base sp held n 9 (([v0, v1, v2, v3, v4].drop 2).take (Tryz.prog.cellsOf 9)) = xs[2]? := hf 2 _ rfl
    have h3 : DataW.trod enc Tryz.prog W base sp held n 3 (([v0, v1, v2, v3, v4].drop 3).take (Tryz.prog.cellsOf 3)) = xs[3]? := hf 3 _ rfl
    have h4 : DataW.trod enc Tryz.prog W base sp held n 9 (([v0, v1, v2, v3, v4].drop 4).take (Tryz.prog.cellsOf 9)) = xs[4]? := hf 4 _ rfl
    rw [cells_str] at h0 h2 h4
    rw [cells_int] at h1 h3
    match xs, hlen with
    | [y0, y1, y2, y3, y4], _ =>
      obtain ⟨s0, e0, _, z0⟩ := DataW.trod_string Tryz.underlying9 h0
      obtain ⟨s1, e1, _, z1⟩ := DataW.trod_int Tryz.underlying3 h1
      obtain ⟨s2, e2, _, z2⟩ := DataW.trod_string Tryz.underlying9 h2
      obtain ⟨s3, e3, _, z3⟩ := DataW.trod_int Tryz.underlying3 h3
      obtain ⟨s4, e4, _, z4⟩ := DataW.trod_string Tryz.underlying9 h4
      simp at e0 e1 e2 e3 e4
      subst e0 e1 e2 e3 e4
      exact ⟨⟨s0, s1, s2, s3, s4⟩, rfl, z0, z2, z4⟩
set_option maxRecDepth 100000 in
theorem open_items {H : Type} {enc : TypeId × Value → H} {W : World} {base : Nat} {sp : Nat → Bool} {held : Bool} {fuel : Nat} {a : Option Addr} {len cap : Nat} {x : DataW H × List MemPlace}
    (h : DataW.trod enc Tryz.prog W base sp held fuel 43 [.slice a len cap] = some x) :
    ∃ l : List P.It, l.length = len ∧ Lies W a l ∧ FitAll l ∧ len ≤ maxLen ∧ (a = none → cap = 0) ∧ ((x.1 = .nil ∧ a = none ∧ len = 0) ∨ ∃ elems spare, x.1 = .slice elems spare ∧ elems.length = len) := by
  rcases Deep.open_slice Tryz.underlying43 h with ⟨hcs, rfl⟩ | ⟨ad, len', cap', m, n, D, Pl, hcs, _, hl, hm, hmm, rfl, hel⟩
  · simp at hcs
    obtain ⟨rfl, rfl, rfl⟩ := hcs
    exact ⟨[], rfl, .inl rfl, fun i hi => absurd hi (by simp), by decide, fun _ => rfl, .inl ⟨rfl, rfl, rfl⟩⟩
  · simp at hcs
    obtain ⟨rfl, rfl, rfl⟩ := hcs
    have hlm : len ≤ m := by rw [hmm]; split <;> omega
    have hex : ∀ i, i < len → ∃ y : P.It, Fits y ∧ ∀ j v, (itCells y)[j]? = some v → W.cell? ((ad.add (i * 5)).add j) = some v := by
      intro i hi
      obtain ⟨cs', hc, ht⟩ := hel i (by omega)
      obtain ⟨y, rfl, hy⟩ := open_item ht
      rw [cells_item] at hc
      obtain ⟨_, hlen, hcc⟩ := World.cells?_some hc
      refine ⟨y, hy, fun j v hv => ?_⟩
      have hj : j < 5 := (List.getElem?_eq_some_iff.1 hv).1
      rw [← hv]
      exact hcc j hj
    obtain ⟨l, hll, hp⟩ := list_choose hex
    refine ⟨l, hll, ?_, fun i hi => (hp i hi).1, by omega, fun h => by simp at h, .inr ⟨_, _, rfl, by simp⟩⟩
    rcases Nat.eq_zero_or_pos len with h0 | hpos
    · left; exact List.eq_nil_of_length_eq_zero (by omega)
    · right
      obtain ⟨b, o, spot⟩ := ad
      have hc := (hp 0 (by omega)).2 0 _ rfl
      have hspot : spot = none := by simpa [Addr.add] using World.cell?_spot hc
      subst hspot
      refine ⟨b, o, rfl, ItemsAt.of_row ?_⟩
      intro i hi j v hv
      have := (hp i hi).2 j v hv
      rw [add_off, add_off] at this
      exact this
end Go.Proofs.YtjmacegibchplaaGreatDoor
