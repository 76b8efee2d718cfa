/-
  The statement on Build: its body.
-/
import Derived.Test.YtbfjbohdiemofaaGreatDoorBldLaw
namespace Go.Proofs.YtbfjbohdiemofaaGreatDoor
open Go.RowKit
set_option linter.unusedVariables false

def smallL : List En := [⟨⟨#[100, 47, 102]⟩, 2, ⟨#[98, 121, 116, 101, 115]⟩⟩, ⟨⟨#[100]⟩, 0, ⟨#[]⟩⟩, ⟨⟨#[97]⟩, 3, ⟨#[100, 47, 102]⟩⟩]
theorem small_len : (outOf smallL).length = 3 := by kernel_rfl
set_option maxHeartbeats 1000000 in
theorem small_any (w : World) :
    Calls Tryz.prog 6 #[] w fun e w' => e = .returned (.slice (some ⟨w.heap.size, 0, none⟩) 3 3) ∧ EntsAt w' w.heap.size 0 smallL ∧ Below w.heap.size w w' := by
  go_enter Tryz.func6, Tryz.ntmps6
  go_wp2_with fail
  go_ret
  refine ⟨rfl, ?_, (Below.refl _ _).alloc (Nat.le_refl _) _⟩
  intro i hi
  have hb := heap_alloc_new w (.cells #[.string ⟨#[100, 47, 102]⟩, .int .i64 2, .string ⟨#[98, 121, 116, 101, 115]⟩, .string ⟨#[100]⟩, .int .i64 0, .string ⟨#[]⟩, .string ⟨#[97]⟩, .int .i64 3, .string ⟨#[100, 47, 102]⟩] 32)
  match i, hi with
  | 0, _ => exact ⟨cell_of_block hb, cell_of_block hb, cell_of_block hb⟩
  | 1, _ => exact ⟨cell_of_block hb, cell_of_block hb, cell_of_block hb⟩
  | 2, _ => exact ⟨cell_of_block hb, cell_of_block hb, cell_of_block hb⟩
theorem small_fit : TFit smallL := by
  intro i hi
  match i, hi with
  | 0, _ => show (3 : Nat) ≤ 1100000 ∧ (5 : Nat) ≤ maxLen; decide
  | 1, _ => show (1 : Nat) ≤ 1100000 ∧ (0 : Nat) ≤ maxLen; decide
  | 2, _ => show (1 : Nat) ≤ 1100000 ∧ (3 : Nat) ≤ maxLen; decide
set_option maxHeartbeats 1000000 in
theorem builds_law {G : World → Prop} (hS : Stays G) (hP : ProgBuild G) (l : List En) (a : Option Addr) (c : Nat) (w : World) (hG : G w) (hl : l.length * 40 ≤ 140737488351232) (hi : LiesE w a l) (hn : a = none → l = [] ∧ c = 0) (hf : TFit l) :
    Calls Tryz.prog 3 #[.slice a l.length c] w fun e w' => e = .returned (.bool true) ∧ Below w.heap.size w w' := by
  go_enter Tryz.func3, Tryz.ntmps3
  go_wp2_with fail
  refine (small_any w).mono ?_
  rintro e w1 ⟨rfl, hs1, hb1⟩
  go_wp2_with fail
  have hbl := built_law hS hP smallL (some ⟨w.heap.size, 0, none⟩) 3 w1 (hS _ _ hG hb1) (by decide) (.inr ⟨_, _, rfl, hs1⟩) (fun h => by simp at h) small_fit
  refine hbl.mono ?_
  clear hbl
  rintro e w2 ⟨v, rfl, ho2, hb2⟩
  have hw2 := hb1.trans (hb2.mono hb1.size)
  obtain ⟨a2, c2, rfl, -, -, -⟩ := ho2.texts
  rw [small_len]
  clear ho2
  go_wp2_with fail
  refine (built_law hS hP l a c w2 (hS _ _ hG hw2) hl (hi.below hw2 (Nat.le_refl _)) hn hf).mono ?_
  rintro e w3 ⟨v3, rfl, -, hb3⟩
  have hw3 := hw2.trans (hb3.mono hw2.size)
  go_wp2_with fail
  go_ret
  exact ⟨rfl, hw3⟩
end Go.Proofs.YtbfjbohdiemofaaGreatDoor
