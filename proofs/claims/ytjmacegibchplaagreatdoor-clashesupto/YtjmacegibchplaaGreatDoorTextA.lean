/-
  The program's small tests of texts: their contracts.
-/
import Derived.Test.YtjmacegibchplaaGreatDoorKit
import Derived.Test.YtjmacegibchplaaGreatDoorPlain
import Derived.Lib.Bytealg
import Derived.Laws.Externs
namespace Go.Proofs.YtjmacegibchplaaGreatDoor
open Go.RowKit
set_option linter.unusedVariables false

theorem idx_ge : ∀ (l : List UInt8) (c : UInt8), (0 ≤ Lib.indexByte l c) = (P.has l c = true)
  | [], _ => by simp [Lib.indexByte, P.has]
  | b :: l, c => by
    have ih := idx_ge l c
    unfold Lib.indexByte P.has
    by_cases e : b == c
    · simp [e]
    · simp only [e, Bool.false_eq_true, if_false]
      have hg := Lib.indexByte_ge l c
      by_cases f : Lib.indexByte l c == -1
      · simp only [f, if_true]; simp at f; rw [f] at ih; simpa using ih
      · simp only [f, Bool.false_eq_true, if_false]; simp at f; rw [← ih]; apply propext; omega
theorem idx_bd : ∀ (l : List UInt8) (c : UInt8), -1 ≤ Lib.indexByte l c ∧ Lib.indexByte l c ≤ l.length
  | [], _ => by simp [Lib.indexByte]
  | b :: l, c => by
    have ih := idx_bd l c
    unfold Lib.indexByte
    split
    · simp; omega
    · split
      · simp; omega
      · simp; omega

theorem run_idx (s : ByteArray) (c : Int) (w : World) :
    (callFunc 234 #[.string s, .int .u8 c]).run Tryz.prog w = .ok (.value (.int .i64 (Lib.indexByte s.data.toList c.toNat.toUInt8))) w := by
  rw [run_callFunc_extern Tryz.func234 (by kernel_rfl) (by kernel_rfl) (by kernel_rfl) (e := Extern.BytealgIndexByte.indexByte) (by kernel_rfl), Lib.run_indexByteString]
  rfl

theorem indexByteLite (s : ByteArray) (c : Int) (w : World) :
    Calls Tryz.prog 219 #[.string s, .int .u8 c] w fun e w' => e = .returned (.int .i64 (Lib.indexByte s.data.toList c.toNat.toUInt8)) ∧ w' = w := by
  have h := run_idx s c
  go_enter Tryz.func219, Tryz.ntmps219
  go_wp2
  go_ret
  exact ⟨rfl, rfl⟩
theorem indexByte_any (s : ByteArray) (c : Int) (w : World) :
    Calls Tryz.prog 195 #[.string s, .int .u8 c] w fun e w' => e = .returned (.int .i64 (Lib.indexByte s.data.toList c.toNat.toUInt8)) ∧ w' = w := by
  go_enter Tryz.func195, Tryz.ntmps195
  go_wp2_with (go_at_call 219; refine (indexByteLite _ _ _).mono ?_; rintro e w' ⟨rfl, rfl⟩)
  go_ret
  exact ⟨rfl, rfl⟩
theorem textHas (s : ByteArray) (c : Int) (w : World) :
    Calls Tryz.prog 194 #[.string s, .int .u8 c] w fun e w' => e = .returned (.bool (P.has s.data.toList c.toNat.toUInt8)) ∧ w' = w := by
  have hi := idx_ge s.data.toList c.toNat.toUInt8
  have Hi := hide hi
  clear hi
  go_enter Tryz.func194, Tryz.ntmps194
  go_wp2_with (go_at_call 195; refine (indexByte_any _ _ _).mono ?_; rintro e w' ⟨rfl, rfl⟩)
  go_ret
  refine ⟨ret_bool ?_, rfl⟩
  simp only [unhide Hi]
  simp
theorem within_any (a b c : Int) (w : World) (hbc : b ≤ c) :
    Calls Tryz.prog 86 #[.int .i64 a, .int .i64 b, .int .i64 c] w fun e w' => e = .returned (.bool (P.within a b c)) ∧ w' = w := by
  by_cases h1 : c < a
  · by_cases h2 : b < c
    · go_enter Tryz.func86, Tryz.ntmps86
      go_wp2
      go_ret
      exact ⟨ret_bool (by rw [Bool.eq_iff_iff]; simp [P.within]; omega), rfl⟩
    · go_enter Tryz.func86, Tryz.ntmps86
      go_wp2
      go_ret
      exact ⟨ret_bool (by rw [Bool.eq_iff_iff]; simp [P.within]; omega), rfl⟩
  · by_cases h2 : b < a
    · go_enter Tryz.func86, Tryz.ntmps86
      go_wp2
      go_ret
      exact ⟨ret_bool (by rw [Bool.eq_iff_iff]; simp [P.within]; omega), rfl⟩
    · go_enter Tryz.func86, Tryz.ntmps86
      go_wp2
      go_ret
      exact ⟨ret_bool (by rw [Bool.eq_iff_iff]; simp [P.within]; omega), rfl⟩

theorem len_eq (s : ByteArray) : s.data.toList.length = s.size := by simp
theorem within_len (s : ByteArray) (c : Nat) : P.within (s.size : Int) 1 (c : Int) = decide (1 ≤ s.data.toList.length ∧ s.data.toList.length ≤ c) := by
  rw [Bool.eq_iff_iff]
  simp only [P.within, decide_eq_true_eq, ByteArray.size, Array.length_toList]
  omega
theorem isName_eq (s : ByteArray) : P.isName s.data.toList = (P.within (s.size : Int) 1 12 && !P.has s.data.toList 47 && !P.has s.data.toList 0 && !(s.toList == [46]) && !(s.toList == [46, 46])) := by
  have e := within_len s 12
  unfold P.isName
  rw [ByteArray.toList_eq, ← e]
  rfl
theorem isTarget_eq (s : ByteArray) : P.isTarget s.data.toList = (P.within (s.size : Int) 1 30 && !P.has s.data.toList 0) := by
  have e := within_len s 30
  unfold P.isTarget
  rw [← e]
  rfl
set_option maxHeartbeats 400000 in
theorem isName_any (s : ByteArray) (w : World) (hs : s.size ≤ maxLen) :
    Calls Tryz.prog 170 #[.string s] w fun e w' => e = .returned (.bool (P.isName s.data.toList)) ∧ w' = w := by
  unfold maxLen at hs
  go_enter Tryz.func170, Tryz.ntmps170
  go_wp2_with (first | (go_at_call 86; refine (within_any _ _ _ _ (by decide)).mono ?_; rintro e w' ⟨rfl, rfl⟩) | (go_at_call 194; refine (textHas _ _ _).mono ?_; rintro e w' ⟨rfl, rfl⟩))
  all_goals
    go_ret
    refine ⟨ret_bool ?_, rfl⟩
    rw [isName_eq s]
    simp_all
set_option maxHeartbeats 400000 in
theorem isTarget_any (s : ByteArray) (w : World) (hs : s.size ≤ maxLen) :
    Calls Tryz.prog 172 #[.string s] w fun e w' => e = .returned (.bool (P.isTarget s.data.toList)) ∧ w' = w := by
  unfold maxLen at hs
  go_enter Tryz.func172, Tryz.ntmps172
  go_wp2_with (first | (go_at_call 86; refine (within_any _ _ _ _ (by decide)).mono ?_; rintro e w' ⟨rfl, rfl⟩) | (go_at_call 194; refine (textHas _ _ _).mono ?_; rintro e w' ⟨rfl, rfl⟩))
  all_goals
    go_ret
    refine ⟨ret_bool ?_, rfl⟩
    rw [isTarget_eq s]
    simp_all

theorem all_take_succ (s : ByteArray) (k : Nat) (h : k < s.size) (p : UInt8 → Bool) (ha : (s.data.toList.take k).all p = true) (hp : p s[k] = true) : (s.data.toList.take (k + 1)).all p = true := by
  rw [P.take_snoc s k h, List.all_append, ha]; simp [hp]
theorem all_not (s : ByteArray) (k : Nat) (h : k < s.size) (p : UInt8 → Bool) (hp : p s[k] = false) : s.data.toList.all p = false := by
  rw [List.all_eq_false]
  exact ⟨s[k], List.getElem_mem (l := s.data.toList) (n := k) (by simpa using h), by simp [hp]⟩
theorem isDigest_no (s : ByteArray) (h : ¬ s.size = 3) : P.isDigest s.data.toList = false := by
  unfold P.isDigest
  rw [len_eq, decide_eq_false h]; rfl
theorem isDigest_yes (s : ByteArray) (h : s.size = 3) : P.isDigest s.data.toList = s.data.toList.all (fun c => P.has P.hexd c) := by
  unfold P.isDigest
  rw [len_eq, decide_eq_true h]; rfl
set_option maxHeartbeats 400000 in
theorem isDigest_any (s : ByteArray) (w : World) (hs : s.size ≤ maxLen) :
    Calls Tryz.prog 171 #[.string s] w fun e w' => e = .returned (.bool (P.isDigest s.data.toList)) ∧ w' = w := by
  unfold maxLen at hs
  by_cases h3 : s.size = 3
  · have H3 := hide h3
    have b3 : ((s.size : Int) != 3) = false := by simp [h3]
    have c3 : s.size ≤ 3 := by omega
    have d3 : 3 ≤ s.size := by omega
    clear h3
    go_enter Tryz.func171, Tryz.ntmps171
    go_wp2
    go_loop [9] (fun i => ∃ k : Nat, k ≤ s.size ∧ i = .int .i64 k ∧ (s.data.toList.take k).all (fun c => P.has P.hexd c) = true) (fun i => s.size - (intOf i).toNat)
    case atStart => exact ⟨0, Nat.zero_le _, rfl, by simp⟩
    case round =>
      obtain ⟨k, hk, rfl, hall⟩ := hrel
      have Hall := hide hall
      clear hall
      by_cases hlt : k < s.size
      · go_wp2_with (go_at_call 195; refine (indexByte_any _ _ _).mono ?_; rintro e w' ⟨rfl, rfl⟩)
        · have hn : Lib.indexByte P.hexd s[k] < 0 := by assumption
          go_ret
          have hf : P.has P.hexd s[k] = false := by
            rw [Bool.eq_false_iff, Ne, ← idx_ge]; omega
          exact ⟨ret_bool (by rw [isDigest_yes s (unhide H3), all_not s k hlt _ hf]), rfl⟩
        · have hn : 0 ≤ Lib.indexByte P.hexd s[k] := by assumption
          have hf : P.has P.hexd s[k] = true := by rw [← idx_ge]; exact hn
          go_round
          case rel => exact ⟨k + 1, by omega, by go_num, all_take_succ s k hlt _ (unhide Hall) hf⟩
          case measure => simp [intOf]; omega
      · obtain rfl : k = s.size := by omega
        go_wp2
        go_ret
        exact ⟨ret_bool (by rw [isDigest_yes s (unhide H3), ← unhide Hall, List.take_of_length_le (by simp)]), rfl⟩
  · have b3 : ((s.size : Int) != 3) = true := by simp; omega
    go_enter Tryz.func171, Tryz.ntmps171
    go_wp2
    go_ret
    exact ⟨ret_bool (isDigest_no s h3).symm, rfl⟩
end Go.Proofs.YtjmacegibchplaaGreatDoor
