/-
  The document's test of a tree: its contract.
-/
import Derived.Test.YtjmacegibchplaaGreatDoorTreeB
namespace Go.Proofs.YtjmacegibchplaaGreatDoor
open Go.RowKit
set_option linter.unusedVariables false

/-- does this entry lead out? -/
def escP (e : En) : Bool := e.kind == 3 && outP ((sp e.path.data.toList).length - 1) e.data.data.toList
theorem wrongP_eq (l : List En) : wrongP l = if 40 < l.length then 1 else if (List.range l.length).all (fineP l) = false then 1 else if l.any escP then 2 else 0 := rfl
theorem fineP_link (l : List En) (i : Nat) (h : i < l.length) (hf : fineP l i = true) (hk : l[i].kind = 3) : P.isTarget l[i].data.data.toList = true := by
  have e : l.getD i en0 = l[i] := by rw [List.getD_eq_getElem?_getD, List.getElem?_eq_getElem h]; rfl
  simp only [fineP, e, Bool.and_eq_true, Bool.not_eq_true'] at hf
  have hb := hf.1.1.2
  simp only [kindBad, hk, Bool.or_eq_false_iff] at hb
  simpa using hb.2
theorem fineP_deep (l : List En) (i : Nat) (h : i < l.length) (hf : fineP l i = true) : (sp l[i].path.data.toList).length ≤ 5 := by
  have e : l.getD i en0 = l[i] := by rw [List.getD_eq_getElem?_getD, List.getElem?_eq_getElem h]; rfl
  simp only [fineP, e, Bool.and_eq_true, decide_eq_true_eq] at hf
  exact hf.1.1.1.1
theorem any_take_succ {α : Type} (f : α → Bool) (S : List α) (k : Nat) (h : k < S.length) : (S.take (k + 1)).any f = ((S.take k).any f || f S[k]) := by
  rw [List.take_succ_eq_append_getElem h, List.any_append]; simp
theorem any_at {α : Type} (f : α → Bool) (S : List α) (k : Nat) (h : k < S.length) (hf : f S[k] = true) : S.any f = true := by
  rw [List.any_eq_true]; exact ⟨S[k], List.getElem_mem h, hf⟩
theorem range_all_succ (f : Nat → Bool) (k : Nat) : (List.range (k + 1)).all f = ((List.range k).all f && f k) := by
  rw [List.range_succ, List.all_append]; simp
theorem range_all_at (f : Nat → Bool) (n k : Nat) (h : k < n) (hf : f k = false) : (List.range n).all f = false := by
  rw [List.all_eq_false]; exact ⟨k, by simpa using h, by simp [hf]⟩
/-- what bounds a tree that comes in -/
def TFit (l : List En) : Prop := ∀ i (h : i < l.length), l[i].path.size ≤ 1100000 ∧ l[i].data.size ≤ maxLen
set_option maxRecDepth 100000 in
set_option maxHeartbeats 2000000 in
theorem wrong_any (l : List En) (a : Option Addr) (c : Nat) (w : World) (hl : l.length ≤ maxLen) (hi : LiesE w a l) (hf : TFit l) :
    Calls Tryz.prog 45 #[.slice a l.length c] w fun e w' => e = .returned (.int .i64 (wrongP l)) ∧ Below w.heap.size w w' := by
  have hl' := hl
  unfold maxLen at hl
  have Hw := hide (wrongP_eq l)
  by_cases h40 : (40 : Int) < (l.length : Int)
  · go_enter Tryz.func45, Tryz.ntmps45
    go_wp2_with fail
    go_ret
    exact ⟨ret_int (by rw [unhide Hw, if_pos (by omega)]), Below.refl _ _⟩
  have g40 : decide ((40 : Int) < (l.length : Int)) = false := by simpa using h40
  go_enter Tryz.func45, Tryz.ntmps45
  go_wp2_with fail
  go_loopw [3] (fun i wr => ∃ k : Nat, k ≤ l.length ∧ i = .int .i64 k ∧ Below w.heap.size w wr ∧ (List.range k).all (fineP l) = true) (fun i _ => l.length - (intOf i).toNat)
  case atStart => exact ⟨0, Nat.zero_le _, rfl, Below.refl _ _, rfl⟩
  case round =>
    obtain ⟨k, hk, rfl, hbel, hall⟩ := hrel
    have Hall := hide hall
    clear hall
    by_cases hlt : k < l.length
    · have q2 : (k : Int) < (l.length : Int) := by omega
      go_wp2_with fail
      refine (fine_any l a c k wr hl' (hi.below hbel (Nat.le_refl _)) hlt (hf k hlt).1 (hf k hlt).2).mono ?_
      rintro e w1 ⟨rfl, hb1⟩
      have hbw : Below w.heap.size w w1 := hbel.trans (hb1.mono hbel.size)
      generalize hfk : fineP l k = fk
      have Hfk := hide hfk
      clear hfk hb1 hbel
      cases fk with
      | false =>
        have Hr := hide (range_all_at (fineP l) l.length k hlt (unhide Hfk))
        go_wp2_with fail
        go_ret
        exact ⟨ret_int (by rw [unhide Hw, if_neg (by omega), if_pos (unhide Hr)]), hbw⟩
      | true =>
        have Hr := hide (show (List.range (k + 1)).all (fineP l) = true by rw [range_all_succ, unhide Hall, unhide Hfk]; rfl)
        go_wp2_with fail
        go_roundw
        case rel => exact ⟨k + 1, by omega, by go_num, hbw, unhide Hr⟩
        case measure => simp [intOf]; omega
    · obtain rfl : k = l.length := by omega
      have Hfin := hide (show ∀ i, i < l.length → fineP l i = true from fun i hi => by
        have := unhide Hall; rw [List.all_eq_true] at this; exact this i (by simpa using hi))
      have Hw2 := hide (show wrongP l = if l.any escP then 2 else 0 by rw [unhide Hw, if_neg (by omega), if_neg (by rw [unhide Hall]; simp)])
      clear Hall Hw
      go_wp2_with fail
      go_loopw [5] (fun i wr => ∃ k : Nat, k ≤ l.length ∧ i = .int .i64 k ∧ Below w.heap.size w wr ∧ (l.take k).any escP = false) (fun i _ => l.length - (intOf i).toNat)
      case atStart => exact ⟨0, Nat.zero_le _, rfl, hbel, rfl⟩
      case round =>
        clear hbel
        obtain ⟨k, hk, rfl, hbel, hany⟩ := hrel
        have Hany := hide hany
        clear hany
        by_cases hlt : k < l.length
        · have q2 : (k : Int) < (l.length : Int) := by omega
          obtain ⟨b, o, rfl, hc⟩ := EntsAt.get (hi.below hbel (Nat.le_refl _)) hlt
          obtain ⟨c0, c1, c2⟩ := hc k hlt
          obtain ⟨p, kd, dt, hx⟩ : ∃ p kd dt, l[k] = ⟨bs p, kd, bs dt⟩ := ⟨l[k].path.data.toList, l[k].kind, l[k].data.data.toList, by rw [bs_of, bs_of]⟩
          have Hs := hide (any_take_succ escP l k hlt)
          have Ha := hide (any_at escP l k hlt)
          have Hlink := hide (fineP_link l k hlt (unhide Hfin k hlt))
          have Hdeep := hide (fineP_deep l k hlt (unhide Hfin k hlt))
          have hp := (hf k hlt).1
          rw [hx] at c0 c1 c2 Hs Ha Hlink Hdeep hp
          simp only [bs_size, bs_data] at c0 c1 c2 hp Hlink Hdeep
          clear hx
          have hes : escP ⟨bs p, kd, bs dt⟩ = (kd == 3 && outP ((sp p).length - 1) dt) := by simp only [escP, bs_data]
          rw [hes] at Hs Ha
          clear hes hc
          go_wp2_with fail
          refine (split_any p _ hp).mono ?_
          rintro e w1 ⟨v, rfl, ho1, hb1⟩
          have hbw : Below w.heap.size w w1 := hbel.trans (hb1.mono hbel.size)
          have e1 := (hb1.cell (p := ⟨b, o + k * 3 + 1, none⟩) (block_lt c1)).trans c1
          have e2 := (hb1.cell (p := ⟨b, o + k * 3 + 2, none⟩) (block_lt c2)).trans c2
          obtain ⟨a1, cc, rfl, ht1, _⟩ := ho1.texts
          have hsn : 1 ≤ (sp p).length := by
            have := sp_ne p
            cases hs : sp p with
            | nil => exact absurd hs this
            | cons _ _ => simp
          clear ho1 ht1 hb1 c0 c1 c2
          by_cases h3 : kd = 3
          · subst h3
            have ht := unhide Hlink rfl
            have htn : dt ≠ [] ∧ dt.length ≤ 30 := by
              simp only [P.isTarget, Bool.and_eq_true, decide_eq_true_eq] at ht
              refine ⟨fun h => ?_, ht.1.2⟩
              subst h; simp at ht
            have hdp := unhide Hdeep
            clear ht Hlink Hdeep
            generalize (sp p).length = n at *
            have q3 : (n : Int) ≤ 5 := by omega
            have q4 : 0 ≤ (n : Int) - 1 := by omega
            go_wp2_with fail
            refine (out_any _ dt _ (by omega) (by omega) htn.1 (by omega)).mono ?_
            rintro e w2 ⟨rfl, hb2⟩
            have hbw2 : Below w.heap.size w w2 := hbw.trans (hb2.mono hbw.size)
            generalize hob : outP ((n : Int) - 1) dt = ob at *
            have Hob := hide hob
            clear hob hb2 hbw e1 e2
            cases ob with
            | true =>
              have Hr := hide (show l.any escP = true from unhide Ha (by simp))
              go_wp2_with fail
              go_ret
              exact ⟨ret_int (by rw [unhide Hw2, unhide Hr]; rfl), hbw2⟩
            | false =>
              have Hr := hide (show (l.take (k + 1)).any escP = false by rw [unhide Hs, unhide Hany]; rfl)
              go_wp2_with fail
              go_roundw
              case rel => exact ⟨k + 1, by omega, by go_num, hbw2, unhide Hr⟩
              case measure => simp [intOf]; omega
          · have g3 : (kd == 3) = false := by simpa using h3
            have Hr := hide (show (l.take (k + 1)).any escP = false by rw [unhide Hs, unhide Hany, g3]; rfl)
            clear Hs Ha Hlink
            go_wp2_with fail
            go_roundw
            case rel => exact ⟨k + 1, by omega, by go_num, hbw, unhide Hr⟩
            case measure => simp [intOf]; omega
        · obtain rfl : k = l.length := by omega
          have Hr := hide (show l.any escP = false by have := unhide Hany; rwa [List.take_length] at this)
          go_wp2_with fail
          go_ret
          exact ⟨ret_int (by rw [unhide Hw2, unhide Hr]; rfl), hbel⟩
end Go.Proofs.YtjmacegibchplaaGreatDoor
