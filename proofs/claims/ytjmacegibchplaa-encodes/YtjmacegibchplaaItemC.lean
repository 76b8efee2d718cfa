/-
  The statements' own comparisons of lists of items, where they are the same.
-/
import Derived.Test.YtjmacegibchplaaItemB
import Derived.Laws.StructEq
namespace Go.Proofs.Ytjmacegibchplaa
open Go.RowKit
set_option linter.unusedVariables false

theorem eq_item (n1 d1 t1 n2 d2 t2 : ByteArray) (k1 s1 k2 s2 : Int) (w : World) :
    (Op.equalIn 10000 35 (.agg #[.string n1, .int .i64 k1, .string d1, .int .i64 s1, .string t1]) (.agg #[.string n2, .int .i64 k2, .string d2, .int .i64 s2, .string t2])).run Try.prog w
      = .ok (n1.toList == n2.toList && (k1 == k2 && (d1.toList == d2.toList && (s1 == s2 && t1.toList == t2.toList)))) w := by
  have u3 := Try.underlying3
  have u9 := Try.underlying9
  have a3 := Try.isAgg3
  have a9 := Try.isAgg9
  have z3 := Try.sizeOf3
  have z9 := Try.sizeOf9
  have hS : Try.prog.underlying 35 = some (.struct (Try.prog.fieldsOf 35)) := by kernel_rfl
  have hp : Try.prog.stoodInHeld 35 = false := by kernel_rfl
  rw [show (10000 : Nat) = 9999 + 1 from rfl, run_equalIn_agg w 9999 35 _ _ hS hp]
  simp only [Program.fieldsOf, Try.underlying35]
  go_simp
  by_cases h1 : n1.toList = n2.toList <;> by_cases h2 : k1 = k2 <;> by_cases h3 : d1.toList = d2.toList <;> by_cases h4 : s1 = s2 <;> by_cases h5 : t1.toList = t2.toList <;> simp [h1, h2, h3, h4, h5]
set_option maxHeartbeats 1000000 in
theorem sameItems_same (l : List P.It) (a1 a2 : Option Addr) (c1 c2 : Nat) (w : World) (hl : l.length ≤ maxLen) (h1 : Lies w a1 l) (h2 : Lies w a2 l) :
    Calls Try.prog 16 #[.slice a1 l.length c1, .slice a2 l.length c2] w fun e w' => e = .returned (.bool true) ∧ ∃ n, w' = w.drewN n := by
  unfold maxLen at hl
  have hb : ((l.length : Int) != (l.length : Int)) = false := by simp
  go_enter Try.func16, Try.ntmps16
  go_wp2_with fail
  go_loopw [5] (fun i wr => ∃ k : Nat, k ≤ l.length ∧ i = .int .i64 k ∧ ∃ n, wr = w.drewN n) (fun i _ => l.length - (intOf i).toNat)
  case atStart => exact ⟨0, by omega, rfl, 0, rfl⟩
  case round =>
    obtain ⟨k, hk, rfl, n, hwr⟩ := hrel
    subst hwr
    by_cases hlt : k < l.length
    · obtain ⟨b1, o1, rfl, i1⟩ : ∃ b o, a1 = some ⟨b, o, none⟩ ∧ ItemsAt w b o l := by
        rcases h1 with h | h
        · subst h; simp at hlt
        · exact h
      obtain ⟨b2, o2, rfl, i2⟩ : ∃ b o, a2 = some ⟨b, o, none⟩ ∧ ItemsAt w b o l := by
        rcases h2 with h | h
        · subst h; simp at hlt
        · exact h
      obtain ⟨p0, p1, p2, p3, p4⟩ := i1 k hlt
      obtain ⟨q0, q1, q2, q3, q4⟩ := i2 k hlt
      generalize l[k] = x at *
      obtain ⟨nm, kd, dg, sz, tg⟩ := x
      simp only at p0 p1 p2 p3 p4 q0 q1 q2 q3 q4
      have hlt' : (k : Int) < (l.length : Int) := by omega
      have heq : ∀ w, (Op.equalIn 10000 35 (.agg #[.string nm, .int .i64 kd, .string dg, .int .i64 sz, .string tg]) (.agg #[.string nm, .int .i64 kd, .string dg, .int .i64 sz, .string tg])).run Try.prog w = .ok true w := fun w => by
        rw [eq_item]; simp
      go_wp2_with fail
      go_quiet (fail)
      go_wp2
      go_roundw
      case rel => exact ⟨k + 1, by omega, by go_num, _, rfl⟩
      case measure => simp [intOf]; omega
    · obtain rfl : k = l.length := by omega
      go_wp2_with fail
      go_ret
      exact ⟨rfl, n, rfl⟩
theorem marked_at (l : List P.It) (j : Nat) (hj : l.length ≤ j) (h : j < (marked l 8).length) : (marked l 8)[j] = itMark := by
  have hl := marked_len l 8 (by omega)
  have e : (marked l 8)[j]? = some itMark := by
    unfold marked
    rw [List.getElem?_append_right hj, List.getElem?_append_left (by simp; omega), List.getElem?_replicate, if_pos (by omega)]
  rw [List.getElem?_eq_getElem h] at e
  exact Option.some.inj e
theorem marked_lo (l : List P.It) (j : Nat) (hj : j < l.length) (h : j < (marked l 8).length) : (marked l 8)[j] = l[j] := by
  have e : (marked l 8)[j]? = some l[j] := by
    unfold marked
    rw [List.getElem?_append_left hj, List.getElem?_eq_getElem hj]
  rw [List.getElem?_eq_getElem h] at e
  exact Option.some.inj e
theorem stillItems_nil (w : World) :
    Calls Try.prog 10 #[.slice none 0 0, .slice none 0 0] w fun e w' => e = .returned (.bool true) ∧ ∃ n, w' = w.drewN n := by
  have hq := eql_nil
  go_enter Try.func10, Try.ntmps10
  go_wp2_with fail
  refine (sameItems_same [] none none 0 0 w (by decide) (.inl rfl) (.inl rfl)).mono ?_
  rintro e w1 ⟨rfl, n, hw⟩
  subst hw
  go_wp2_with fail
  go_ret
  exact ⟨rfl, n, rfl⟩
set_option maxHeartbeats 1000000 in
theorem stillItems_some (l : List P.It) (g : Nat) (a2 : Option Addr) (c2 : Nat) (w : World) (hl : l.length * 64 ≤ 140737488351232) (h1 : ItemsAt w g 0 (marked l 8)) (h2 : Lies w a2 l) :
    Calls Try.prog 10 #[.slice (some ⟨g, 0, none⟩) l.length (l.length + 8), .slice a2 l.length c2] w fun e w' => e = .returned (.bool true) ∧ ∃ n, w' = w.drewN n := by
  have hq := eql_nil
  have h1l : ItemsAt w g 0 l := fun i hi => by
    have := h1 i (by rw [marked_len l 8 (by omega)]; omega)
    rw [marked_lo l i hi] at this
    exact this
  go_enter Try.func10, Try.ntmps10
  go_wp2_with fail
  refine (sameItems_same l (some ⟨g, 0, none⟩) a2 _ _ w (by unfold maxLen; omega) (.inr ⟨g, 0, rfl, h1l⟩) h2).mono ?_
  rintro e w1 ⟨rfl, n, hw⟩
  subst hw
  have hle : (l.length : Int) + 8 ≤ ((l.length + 8 : Nat) : Int) := by omega
  go_wp2_with fail
  clear hq
  go_loop [7] (fun i => ∃ j : Nat, l.length ≤ j ∧ j ≤ l.length + 8 ∧ i = .int .i64 j) (fun i => l.length + 8 - (intOf i).toNat)
  case atStart => exact ⟨l.length, by omega, by omega, rfl⟩
  case round =>
    obtain ⟨j, hj1, hj2, rfl⟩ := hrel
    by_cases hlt : j < l.length + 8
    · have hjm : j < (marked l 8).length := by rw [marked_len l 8 (by omega)]; exact hlt
      have hmk := marked_at l j hj1 hjm
      obtain ⟨c0, c1, c2, c3, c4⟩ := h1 j hjm
      rw [hmk] at c0 c1 c2 c3 c4
      simp only [itMark, Nat.zero_add] at c0 c1 c2 c3 c4
      have hlt' : (j : Int) < ((l.length + 8 : Nat) : Int) := by omega
      clear hmk
      go_wp2_with fail
      go_round
      case rel => exact ⟨j + 1, by omega, by omega, by go_num⟩
      case measure => simp [intOf]; omega
    · obtain rfl : j = l.length + 8 := by omega
      go_wp2_with fail
      go_ret
      exact ⟨rfl, n, rfl⟩
end Go.Proofs.Ytjmacegibchplaa
