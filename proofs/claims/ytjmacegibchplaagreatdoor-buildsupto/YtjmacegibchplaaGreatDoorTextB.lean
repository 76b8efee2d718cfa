/-
  The document's small tests of texts (the statements' own): their contracts.
-/
import Derived.Test.YtjmacegibchplaaGreatDoorTextA
import Derived.Laws.BytesArg
namespace Go.Proofs.YtjmacegibchplaaGreatDoor
open Go.RowKit
set_option linter.unusedVariables false

theorem u8_eq_int (a b : UInt8) : ((a.toNat : Int) == (b.toNat : Int)) = (a == b) := by
  rw [Bool.eq_iff_iff]
  simp only [beq_iff_eq]
  exact ⟨fun h => UInt8.toNat_inj.1 (by omega), fun h => by rw [h]⟩
set_option maxHeartbeats 400000 in
theorem refHas (s : ByteArray) (c : UInt8) (w : World) (hs : s.size ≤ maxLen) :
    Calls Tryz.prog 110 #[.string s, .int .u8 c.toNat] w fun e w' => e = .returned (.bool (P.has s.data.toList c)) ∧ w' = w := by
  unfold maxLen at hs
  go_enter Tryz.func110, Tryz.ntmps110
  go_wp2
  go_loop [5] (fun i => ∃ k : Nat, k ≤ s.size ∧ i = .int .i64 k ∧ P.has (s.data.toList.take k) c = false) (fun i => s.size - (intOf i).toNat)
  case atStart => exact ⟨0, Nat.zero_le _, rfl, by simp [P.has]⟩
  case round =>
    obtain ⟨k, hk, rfl, hno⟩ := hrel
    have Hno := hide hno
    clear hno
    by_cases hlt : k < s.size
    · by_cases hc : s[k] = c
      · have hb : ((s[k].toNat : Int) == (c.toNat : Int)) = true := by rw [hc]; simp
        have Hc := hide hc
        clear hc
        go_wp2
        go_ret
        exact ⟨ret_bool (P.has_at s.data.toList c k (by simpa using hlt) (unhide Hc)).symm, rfl⟩
      · have hb : ((s[k].toNat : Int) == (c.toNat : Int)) = false := by rw [u8_eq_int]; simp [hc]
        have Hc := hide hc
        clear hc
        go_wp2
        go_round
        case rel => exact ⟨k + 1, by omega, by go_num, P.has_take_succ s.data.toList c k (by simpa using hlt) (unhide Hno) (unhide Hc)⟩
        case measure => simp [intOf]; omega
    · obtain rfl : k = s.size := by omega
      go_wp2
      go_ret
      exact ⟨ret_bool (by rw [← unhide Hno, List.take_of_length_le (by simp)]), rfl⟩
theorem refHas47 (s : ByteArray) (w : World) (hs : s.size ≤ maxLen) :
    Calls Tryz.prog 110 #[.string s, .int .u8 47] w fun e w' => e = .returned (.bool (P.has s.data.toList 47)) ∧ w' = w := refHas s 47 w hs
theorem refHas0 (s : ByteArray) (w : World) (hs : s.size ≤ maxLen) :
    Calls Tryz.prog 110 #[.string s, .int .u8 0] w fun e w' => e = .returned (.bool (P.has s.data.toList 0)) ∧ w' = w := refHas s 0 w hs

theorem isName_ref (s : ByteArray) : P.isName s.data.toList = (!s.toList.isEmpty && decide ((s.size : Int) ≤ 12) && !P.has s.data.toList 47 && !P.has s.data.toList 0 && !(s.toList == [46]) && !(s.toList == [46, 46])) := by
  rw [isName_eq]
  have : P.within (s.size : Int) 1 12 = (!s.toList.isEmpty && decide ((s.size : Int) ≤ 12)) := by
    rw [Bool.eq_iff_iff, ByteArray.toList_eq]
    have h := len_eq s
    cases hl : s.data.toList with
    | nil => rw [hl] at h; simp [P.within] at *; omega
    | cons a l => rw [hl] at h; simp [P.within] at *; omega
  rw [this]
theorem isTarget_ref (s : ByteArray) : P.isTarget s.data.toList = (!s.toList.isEmpty && decide ((s.size : Int) ≤ 30) && !P.has s.data.toList 0) := by
  rw [isTarget_eq]
  have : P.within (s.size : Int) 1 30 = (!s.toList.isEmpty && decide ((s.size : Int) ≤ 30)) := by
    rw [Bool.eq_iff_iff, ByteArray.toList_eq]
    have h := len_eq s
    cases hl : s.data.toList with
    | nil => rw [hl] at h; simp [P.within] at *; omega
    | cons a l => rw [hl] at h; simp [P.within] at *; omega
  rw [this]
set_option maxHeartbeats 400000 in
theorem refName (s : ByteArray) (w : World) (hs : s.size ≤ maxLen) :
    Calls Tryz.prog 108 #[.string s] w fun e w' => e = .returned (.bool (P.isName s.data.toList)) ∧ w' = w := by
  have hs2 := hs
  unfold maxLen at hs2
  go_enter Tryz.func108, Tryz.ntmps108
  go_wp2_with fail
  refine (refHas47 _ _ hs).mono ?_
  rintro e w' ⟨rfl, rfl⟩
  go_wp2_with fail
  refine (refHas0 _ _ hs).mono ?_
  rintro e w' ⟨rfl, rfl⟩
  go_wp2_with fail
  all_goals
    go_ret
    refine ⟨ret_bool ?_, rfl⟩
    rw [isName_ref s]
    first | (simp_all; done) | (simp_all; intro h; exfalso; omega)
set_option maxHeartbeats 400000 in
theorem refTarget (s : ByteArray) (w : World) (hs : s.size ≤ maxLen) :
    Calls Tryz.prog 109 #[.string s] w fun e w' => e = .returned (.bool (P.isTarget s.data.toList)) ∧ w' = w := by
  have hs2 := hs
  unfold maxLen at hs2
  go_enter Tryz.func109, Tryz.ntmps109
  go_wp2_with fail
  refine (refHas0 _ _ hs).mono ?_
  rintro e w' ⟨rfl, rfl⟩
  go_wp2_with fail
  all_goals
    go_ret
    refine ⟨ret_bool ?_, rfl⟩
    rw [isTarget_ref s]
    first | (simp_all; done) | (simp_all; intro h; exfalso; omega)
set_option maxHeartbeats 400000 in
theorem refDigestIs (s : ByteArray) (w : World) (hs : s.size ≤ maxLen) :
    Calls Tryz.prog 190 #[.string s] w fun e w' => e = .returned (.bool (P.isDigest s.data.toList)) ∧ w' = w := by
  unfold maxLen at hs
  by_cases h3 : s.size = 3
  · have H3 := hide h3
    have b3 : ((s.size : Int) != 3) = false := by simp [h3]
    have c3 : s.size ≤ 3 := by omega
    have d3 : 3 ≤ s.size := by omega
    clear h3
    go_enter Tryz.func190, Tryz.ntmps190
    go_wp2
    go_loop [3] (fun i => ∃ k : Nat, k ≤ 3 ∧ i = .int .i64 k ∧ (s.data.toList.take k).all (fun c => P.has P.hexd c) = true) (fun i => 3 - (intOf i).toNat)
    case atStart => exact ⟨0, Nat.zero_le _, rfl, by simp⟩
    case round =>
      obtain ⟨k, hk, rfl, hall⟩ := hrel
      have Hall := hide hall
      clear hall
      by_cases hlt3 : k < 3
      · have hlt : k < s.size := by omega
        by_cases hh : P.has P.hexd s[k] = true
        · have HH := hide hh
          clear hh
          go_wp2_with fail
          refine (refHas P.hexb s[k] _ (by decide)).mono ?_
          rintro e w' ⟨rfl, rfl⟩
          have hh : P.has P.hexb.data.toList s[k] = true := unhide HH
          rw [hh]
          clear hh
          go_wp2
          go_round
          case rel => exact ⟨k + 1, by omega, by go_num, all_take_succ s k hlt _ (unhide Hall) (unhide HH)⟩
          case measure => simp [intOf]; omega
        · have hf : P.has P.hexd s[k] = false := by simpa using hh
          have HH := hide hf
          clear hh hf
          go_wp2_with fail
          refine (refHas P.hexb s[k] _ (by decide)).mono ?_
          rintro e w' ⟨rfl, rfl⟩
          have hh : P.has P.hexb.data.toList s[k] = false := unhide HH
          rw [hh]
          clear hh
          go_wp2
          go_ret
          exact ⟨ret_bool (by rw [isDigest_yes s (unhide H3), all_not s k hlt _ (unhide HH)]), rfl⟩
      · obtain rfl : k = 3 := by omega
        go_wp2
        go_ret
        exact ⟨ret_bool (by rw [isDigest_yes s (unhide H3), ← unhide Hall, List.take_of_length_le (by simp; omega)]), rfl⟩
  · have b3 : ((s.size : Int) != 3) = true := by simp; omega
    go_enter Tryz.func190, Tryz.ntmps190
    go_wp2
    go_ret
    exact ⟨ret_bool (isDigest_no s h3).symm, rfl⟩
theorem conv_one (w : World) (x : Int) :
    (convert 102 9 (.slice (some ⟨w.heap.size, 0, none⟩) 1 1)).run Tryz.prog (w.alloc (.cells #[.int .u8 x] 5)) = .ok (.string (strOfNums [x])) (w.alloc (.cells #[.int .u8 x] 5)) := by
  refine run_convert_bytes_arg _ 102 5 Tryz.underlying102 Tryz.underlying5 _ 0 1 1 [x] rfl ?_ 9 Tryz.underlying9
  intro i hi
  match i, hi with
  | 0, _ => simp
/-- one(n), for a number of one byte -/
theorem refOne (n : Int) (h0 : 0 ≤ n) (hn : n < 256) (w : World) :
    Calls Tryz.prog 111 #[.int .i64 n] w fun e w' => e = .returned (.string ⟨#[UInt8.ofNat n.toNat]⟩) ∧ Below w.heap.size w w' := by
  have hcv := conv_one w
  go_enter Tryz.func111, Tryz.ntmps111
  go_wp2
  go_ret
  exact ⟨ret_string (by simp [strOfNums]), (Below.refl _ _).alloc (Nat.le_refl _) _⟩
theorem shapeOf_any (k : Int) (w : World) :
    Calls Tryz.prog 144 #[.int .i64 k] w fun e w' => e = .returned (.int .i64 (P.shape k)) ∧ w' = w := by
  by_cases h0 : k = 0
  · subst h0
    go_enter Tryz.func144, Tryz.ntmps144
    go_wp2
    go_ret
    exact ⟨rfl, rfl⟩
  by_cases h1 : k = 1
  · subst h1
    go_enter Tryz.func144, Tryz.ntmps144
    go_wp2
    go_ret
    exact ⟨rfl, rfl⟩
  by_cases h2 : k = 2
  · subst h2
    go_enter Tryz.func144, Tryz.ntmps144
    go_wp2
    go_ret
    exact ⟨rfl, rfl⟩
  by_cases h3 : k = 3
  · subst h3
    go_enter Tryz.func144, Tryz.ntmps144
    go_wp2
    go_ret
    exact ⟨rfl, rfl⟩
  have b0 : (k == 0) = false := by simp [h0]
  have b1 : (k == 1) = false := by simp [h1]
  have b2 : (k == 2) = false := by simp [h2]
  have b3 : (k == 3) = false := by simp [h3]
  have hs := hide (show P.shape k = 0 by simp [P.shape, h0, h1, h2, h3])
  clear h0 h1 h2 h3
  go_enter Tryz.func144, Tryz.ntmps144
  go_wp2
  go_ret
  exact ⟨ret_int (unhide hs).symm, rfl⟩
end Go.Proofs.YtjmacegibchplaaGreatDoor
