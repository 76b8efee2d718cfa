/-
  The document's Build: its contract.
-/
import Derived.Test.YtbfjbohdiemofaaGreatDoorTreeF
import Derived.OwnWalk
namespace Go.Proofs.YtbfjbohdiemofaaGreatDoor
open Go.RowKit
set_option linter.unusedVariables false

theorem tree_of (l : List En) (h : wrongP l = 0) : Tree l := by
  rw [wrongP_eq] at h
  split at h
  · simp at h
  · rename_i h40
    split at h
    · simp at h
    · rename_i ha
      refine ⟨by omega, fun i hi => ?_⟩
      have : (List.range l.length).all (fineP l) = true := by simpa using ha
      exact List.all_eq_true.1 this i (by simpa using hi)
/-- how a Build of the document ends -/
def BuildEnd (l : List En) (base : Nat) (e : Ending) (w' : World) : Prop :=
  (wrongP l ≠ 0 ∧ e = .returned (.tuple #[.string ⟨#[]⟩, .slice none 0 0, .int .i64 (wrongP l)])) ∨
  (wrongP l = 0 ∧ builtP l = none ∧ e = .returned (.tuple #[.string ⟨#[]⟩, .slice none 0 0, .int .i64 3])) ∨
  ∃ out v, wrongP l = 0 ∧ builtP l = some out ∧ e = .returned (.tuple #[.string (bs (P.digest (blobP l 6 []))), v, .int .i64 0]) ∧ OwnsS w' base v out
set_option maxHeartbeats 1000000 in
theorem refBuild_any (l : List En) (a : Option Addr) (c : Nat) (w : World) (hl : l.length ≤ maxLen) (hi : LiesE w a l) (hf : TFit l) :
    Calls Tryz.prog 10 #[.slice a l.length c] w fun e w' => Below w.heap.size w w' ∧ BuildEnd l w.heap.size e w' := by
  go_enter Tryz.func10, Tryz.ntmps10
  go_wp2_with fail
  refine (wrong_any l a c w hl hi hf).mono ?_
  rintro e w1 ⟨rfl, hb1⟩
  obtain ⟨W, hW⟩ : ∃ W, wrongP l = W := ⟨_, rfl⟩
  by_cases h0 : W = 0
  · subst h0
    have ht := tree_of l hW
    have HW := hide hW
    rw [hW]
    clear hW
    go_wp2_with fail
    refine (built_any l ht (fun i h => (hf i h).2) a c w1 (hi.below hb1 (Nat.le_refl _))).mono ?_
    rintro e w2 ⟨hb2, h2⟩
    have hw2 := hb1.trans (hb2.mono hb1.size)
    rcases h2 with ⟨hn, rfl⟩ | ⟨out, v, hs, rfl, ho⟩
    · have Hn := hide hn
      clear hn
      go_wp2_with fail
      go_ret3
      exact ⟨hw2, .inr (.inl ⟨unhide HW, unhide Hn, rfl⟩)⟩
    · have Hs := hide hs
      clear hs
      go_wp2_with fail
      refine (blob_any l ht (fun i h => (hf i h).2) 6 [] a c w2 (hi.below hw2 (Nat.le_refl _)) (.inl rfl) (by simp) (by rw [dep_nil]; omega) (by rw [dep_nil]; omega)).mono ?_
      rintro e w3 ⟨rfl, hb3⟩
      have hw3 := hw2.trans (hb3.mono hw2.size)
      have ho3 := (ho.below hb3).weak hb1.size
      have hsm := blob_small l ht 6 [] (.inl rfl)
      clear ho hb3
      generalize hB : blobP l 6 [] = B at *
      have HB := hide hB
      clear hB
      go_wp2_with fail
      refine (refDigest_bs B _ (by omega)).mono ?_
      rintro e w4 ⟨rfl, n4, hw4⟩
      subst hw4
      go_wp2_with fail
      go_ret3
      exact ⟨below_drewN hw3 _, .inr (.inr ⟨out, v, unhide HW, unhide Hs, by rw [unhide HB]; rfl, ho3.below (below_drewN (Below.refl _ _) _)⟩)⟩
  · have g : (W != 0) = true := by simpa using h0
    have HW := hide hW
    rw [hW]
    clear hW
    go_wp2_with fail
    go_ret3
    exact ⟨hb1, .inl ⟨by rw [unhide HW]; exact h0, by rw [unhide HW]; rfl⟩⟩
set_option maxHeartbeats 1000000 in
theorem sameTexts_same (l : List (List UInt8)) (a1 a2 : Option Addr) (c1 c2 : Nat) (w : World) (hl : l.length ≤ maxLen) (h1 : TextsAt w a1 l) (h2 : TextsAt w a2 l) :
    Calls Tryz.prog 15 #[.slice a1 l.length c1, .slice a2 l.length c2] w fun e w' => e = .returned (.bool true) ∧ ∃ n, w' = w.drewN n := by
  unfold maxLen at hl
  have hb : ((l.length : Int) != (l.length : Int)) = false := by simp
  go_enter Tryz.func15, Tryz.ntmps15
  go_wp2_with fail
  go_loopw [5] (fun i wr => ∃ k : Nat, k ≤ l.length ∧ i = .int .i64 k ∧ ∃ n, wr = w.drewN n) (fun i _ => l.length - (intOf i).toNat)
  case atStart => exact ⟨0, by omega, rfl, 0, rfl⟩
  case round =>
    obtain ⟨k, hk, rfl, n, hwr⟩ := hrel
    subst hwr
    by_cases hlt : k < l.length
    · obtain ⟨b1, o1, rfl, i1⟩ : ∃ b o, a1 = some ⟨b, o, none⟩ ∧ ∀ i (h : i < l.length), w.cell? ⟨b, o + i, none⟩ = some (strVal l[i]) := by
        rcases h1 with h | h
        · subst h; simp at hlt
        · exact h
      obtain ⟨b2, o2, rfl, i2⟩ : ∃ b o, a2 = some ⟨b, o, none⟩ ∧ ∀ i (h : i < l.length), w.cell? ⟨b, o + i, none⟩ = some (strVal l[i]) := by
        rcases h2 with h | h
        · subst h; simp at hlt
        · exact h
      have p0 := i1 k hlt
      have r0 := i2 k hlt
      clear i1 i2
      generalize l[k] = x at *
      unfold strVal at p0 r0
      have hlt' : (k : Int) < (l.length : Int) := by omega
      have heq : ((bs x).toList == (bs x).toList) = true := by simp
      go_wp2_with fail
      go_quiet (fail)
      go_wp2
      go_roundw
      case rel => exact ⟨k + 1, by omega, by go_num, _, rfl⟩
      case measure => simp [intOf]; omega
    · obtain rfl : k = l.length := by omega
      go_wp2_with fail
      go_ret
      exact ⟨rfl, n, rfl⟩
end Go.Proofs.YtbfjbohdiemofaaGreatDoor
