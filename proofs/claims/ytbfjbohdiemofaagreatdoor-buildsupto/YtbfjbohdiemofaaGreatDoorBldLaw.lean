/-
  One Build held against the document's, as the statements do: over any Build that answers as the document's.
-/
import Derived.Test.YtbfjbohdiemofaaGreatDoorTreeH
namespace Go.Proofs.YtbfjbohdiemofaaGreatDoor
open Go.RowKit
set_option linter.unusedVariables false

/-- what is asked of the world, and stays -/
def Stays (G : World → Prop) : Prop := ∀ w w', G w → Below w.heap.size w w' → G w'
/-- the program's Build answers as the document's, in every world of which G holds -/
def ProgBuild (G : World → Prop) : Prop := ∀ (l : List En) (a : Option Addr) (c : Nat) (w : World), G w → l.length ≤ maxLen → LiesE w a l → TFit l →
  Calls Tryz.prog 14 #[.slice a l.length c] w fun e w' => Below w.heap.size w w' ∧ BuildEnd l w.heap.size e w'
theorem entriesOf_any (l : List En) (a : Option Addr) (c : Nat) (w : World) (hl : l.length * 40 ≤ 140737488351232) (hi : LiesE w a l) (hn : a = none → l = [] ∧ c = 0) :
    Calls Tryz.prog 8 #[.slice a l.length c] w fun e w' => ∃ a' c', e = .returned (.slice a' l.length c') ∧ LiesE w' a' l ∧ Below w.heap.size w w' ∧
      ∀ w2, Below w'.heap.size w' w2 → Calls Tryz.prog 9 #[.slice a' l.length c', .slice a l.length c] w2 fun e w3 => e = .returned (.bool true) ∧ ∃ n, w3 = w2.drewN n := by
  cases a with
  | none =>
    obtain ⟨rfl, rfl⟩ := hn rfl
    refine (entriesOf_nil w).mono ?_
    rintro e w' ⟨rfl, rfl⟩
    exact ⟨none, 0, rfl, .inl rfl, Below.refl _ _, fun w2 _ => stillEntries_nil w2⟩
  | some ad =>
    refine (entriesOf_some l ad c w hl hi).mono ?_
    rintro e w' ⟨rfl, hm, hb⟩
    refine ⟨_, _, rfl, .inr ⟨w.heap.size, 0, rfl, fun i h => ?_⟩, hb, fun w2 h2 => ?_⟩
    · have := hm i (by rw [emarked_len l 8 (by omega)]; omega)
      rwa [emarked_lo l i h] at this
    · exact stillEntries_some l w.heap.size (some ad) c w2 hl (hm.below h2 (Nat.le_refl _)) ((hi.below hb (Nat.le_refl _)).below h2 (Nat.le_refl _))
def outOf (l : List En) : List (List UInt8) := if wrongP l = 0 then (builtP l).getD [] else []
theorem outG_len (A : List (List UInt8)) : ∀ f last out, outG A f last = some out → out.length ≤ f
  | 0, _, out, h => by simp [outG] at h; subst h; simp
  | f + 1, last, out, h => by
    simp only [outG] at h
    split at h
    · simp at h; subst h; simp
    · split at h
      · simp at h
      · cases ho : outG A f (P.digest (A.getD (nxtD A last).toNat [])) with
        | none => rw [ho] at h; simp at h
        | some r =>
          rw [ho] at h
          have := outG_len A f _ r ho
          simp at h; subst h; simp; omega
theorem builtP_len (l : List En) (ht : Tree l) (out : List (List UInt8)) (h : builtP l = some out) : out.length ≤ 100 := by
  have h1 := outG_len _ _ _ out h
  have h2 := allTo_len l l.length (Nat.le_refl _)
  have := ht.len
  unfold allP at h1
  omega
set_option maxRecDepth 100000 in
set_option maxHeartbeats 1000000 in
theorem built_law {G : World → Prop} (hS : Stays G) (hP : ProgBuild G) (l : List En) (a : Option Addr) (c : Nat) (w : World) (hG : G w) (hl : l.length * 40 ≤ 140737488351232) (hi : LiesE w a l) (hn : a = none → l = [] ∧ c = 0) (hf : TFit l) :
    Calls Tryz.prog 5 #[.slice a l.length c] w fun e w' => ∃ v, e = .returned (.tuple #[v, .bool true]) ∧ OwnsS w' w.heap.size v (outOf l) ∧ Below w.heap.size w w' := by
  have hlm : l.length ≤ maxLen := by unfold maxLen; omega
  go_enter Tryz.func5, Tryz.ntmps5
  go_wp2_with fail
  refine (entriesOf_any l a c w hl hi hn).mono ?_
  rintro e w1 ⟨a', c', rfl, hi1, hb1, hstill⟩
  have Hstill := hide hstill
  clear hstill
  go_wp2_with fail
  refine (hP l a' c' w1 (hS _ _ hG hb1) hlm hi1 hf).mono ?_
  rintro e w2 ⟨hb2, h2⟩
  have hw2 := hb1.trans (hb2.mono hb1.size)
  have hi2 := hi.below hw2 (Nat.le_refl _)
  have hsame := sameTexts_same
  rcases h2 with ⟨hw, rfl⟩ | ⟨hw, hbu, rfl⟩ | ⟨out, v, hw, hbu, rfl, ho⟩
  · have Hw := hide hw
    have Ho := hide (show outOf l = [] by unfold outOf; rw [if_neg hw])
    have g : (wrongP l != 0) = true := by simpa using hw
    clear hw hsame
    go_wp2_with fail
    refine (unhide Hstill w2 hb2).mono ?_
    rintro e w3 ⟨rfl, n3, hw3⟩
    have hb3 : Below w.heap.size w w3 := by rw [hw3]; exact below_drewN hw2 _
    clear hw3
    go_wp2_with fail
    refine (refBuild_any l a c w3 hlm (hi.below hb3 (Nat.le_refl _)) hf).mono ?_
    rintro e w4 ⟨hb4, h4⟩
    have hw4 := hb3.trans (hb4.mono hb3.size)
    rcases h4 with ⟨-, rfl⟩ | ⟨h0, -⟩ | ⟨_, _, h0, -⟩
    · generalize wrongP l = W at *
      go_wp2_with fail
      refine (sameTexts_same [] none none 0 0 w4 (by decide) (.inl rfl) (.inl rfl)).mono ?_
      rintro e w5 ⟨rfl, n5, hw5⟩
      have hb5 : Below w.heap.size w w5 := by rw [hw5]; exact below_drewN hw4 _
      clear hw5
      go_wp2_with fail
      go_ret2
      exact ⟨_, rfl, by rw [unhide Ho]; exact World.ownsRow_nil _ _ _ _, hb5⟩
    · exact absurd h0 (unhide Hw)
    · exact absurd h0 (unhide Hw)
  · have Hw := hide hw
    have Hbu := hide hbu
    have Ho := hide (show outOf l = [] by unfold outOf; rw [if_pos hw, hbu]; rfl)
    clear hw hbu hsame
    go_wp2_with fail
    refine (unhide Hstill w2 hb2).mono ?_
    rintro e w3 ⟨rfl, n3, hw3⟩
    have hb3 : Below w.heap.size w w3 := by rw [hw3]; exact below_drewN hw2 _
    clear hw3
    go_wp2_with fail
    refine (refBuild_any l a c w3 hlm (hi.below hb3 (Nat.le_refl _)) hf).mono ?_
    rintro e w4 ⟨hb4, h4⟩
    have hw4 := hb3.trans (hb4.mono hb3.size)
    rcases h4 with ⟨h0, -⟩ | ⟨-, -, rfl⟩ | ⟨_, _, -, h0, -⟩
    · exact absurd (unhide Hw) h0
    · go_wp2_with fail
      refine (sameTexts_same [] none none 0 0 w4 (by decide) (.inl rfl) (.inl rfl)).mono ?_
      rintro e w5 ⟨rfl, n5, hw5⟩
      have hb5 : Below w.heap.size w w5 := by rw [hw5]; exact below_drewN hw4 _
      clear hw5
      go_wp2_with fail
      go_ret2
      exact ⟨_, rfl, by rw [unhide Ho]; exact World.ownsRow_nil _ _ _ _, hb5⟩
    · rw [unhide Hbu] at h0; simp at h0
  · have Hw := hide hw
    have Hbu := hide hbu
    have hlen := builtP_len l (tree_of l hw) out hbu
    have Ho := hide (show outOf l = out by unfold outOf; rw [if_pos hw, hbu]; rfl)
    obtain ⟨ao, co, rfl, hto, -, -⟩ := ho.texts
    clear hw hbu hsame
    go_wp2_with fail
    refine (unhide Hstill w2 hb2).mono ?_
    rintro e w3 ⟨rfl, n3, hw3⟩
    have hb23 : Below w2.heap.size w2 w3 := by rw [hw3]; exact below_drewN (Below.refl _ _) _
    have hb3 := hw2.trans (hb23.mono hw2.size)
    clear hw3
    go_wp2_with fail
    refine (refBuild_any l a c w3 hlm (hi.below hb3 (Nat.le_refl _)) hf).mono ?_
    rintro e w4 ⟨hb4, h4⟩
    have hw4 := hb3.trans (hb4.mono hb3.size)
    have hb24 := hb23.trans (hb4.mono hb23.size)
    rcases h4 with ⟨h0, -⟩ | ⟨-, h0, -⟩ | ⟨out2, v2, -, h0, rfl, ho2⟩
    · exact absurd (unhide Hw) h0
    · rw [unhide Hbu] at h0; simp at h0
    · rw [unhide Hbu] at h0
      obtain rfl := Option.some.inj h0
      obtain ⟨a2, c2, rfl, ht2, -, -⟩ := ho2.texts
      generalize bs (P.digest (blobP l 6 [])) = R at *
      have gR : (R.toList == R.toList) = true := by simp
      clear h0
      go_wp2_with fail
      refine (sameTexts_same out ao a2 co c2 w4 (by unfold maxLen; omega) (hto.below hb24 (Nat.le_refl _)) ht2).mono ?_
      rintro e w5 ⟨rfl, n5, hw5⟩
      have hb25 : Below w2.heap.size w2 w5 := by rw [hw5]; exact below_drewN hb24 _
      have hb5 := hw2.trans (hb25.mono hw2.size)
      clear hw5
      go_wp2_with fail
      go_ret2
      exact ⟨_, rfl, by rw [unhide Ho]; exact (ho.below hb25).weak hb1.size, hb5⟩
end Go.Proofs.YtbfjbohdiemofaaGreatDoor
