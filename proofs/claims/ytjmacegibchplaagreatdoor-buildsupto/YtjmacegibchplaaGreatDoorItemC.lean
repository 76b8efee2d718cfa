/-
  The statements' own comparisons of lists of items, where they are the same.
-/
import Derived.Test.YtjmacegibchplaaGreatDoorItemB
import Derived.Laws.StructEq
namespace Go.Proofs.YtjmacegibchplaaGreatDoor
open Go.RowKit
set_option linter.unusedVariables false

theorem eq_item (n1 d1 t1 n2 d2 t2 : ByteArray) (k1 s1 k2 s2 : Int) (w : World) :
    (Op.equalIn 10000 47 (.agg #[.string n1, .int .i64 k1, .string d1, .int .i64 s1, .string t1]) (.agg #[.string n2, .int .i64 k2, .string d2, .int .i64 s2, .string t2])).run Tryz.prog w
      = .ok (n1.toList == n2.toList && (k1 == k2 && (d1.toList == d2.toList && (s1 == s2 && t1.toList == t2.toList)))) w := by
  have u3 := Tryz.underlying3
  have u9 := Tryz.underlying9
  have a3 := Tryz.isAgg3
  have a9 := Tryz.isAgg9
  have z3 := Tryz.sizeOf3
  have z9 := Tryz.sizeOf9
  have hS : Tryz.prog.underlying 47 = some (.struct (Tryz.prog.fieldsOf 47)) := by kernel_rfl
  have hp : Tryz.prog.stoodInHeld 47 = false := by kernel_rfl
  rw [show (10000 : Nat) = 9999 + 1 from rfl, run_equalIn_agg w 9999 47 _ _ hS hp]
  simp only [Program.fieldsOf, Tryz.underlying47]
  go_simp
  by_cases h1 : n1.toList = n2.toList <;> by_cases h2 : k1 = k2 <;> by_cases h3 : d1.toList = d2.toList <;> by_cases h4 : s1 = s2 <;> by_cases h5 : t1.toList = t2.toList <;> simp [h1, h2, h3, h4, h5]
set_option maxHeartbeats 1000000 in
theorem sameItems_same (l : List P.It) (a1 a2 : Option Addr) (c1 c2 : Nat) (w : World) (hl : l.length ≤ maxLen) (h1 : Lies w a1 l) (h2 : Lies w a2 l) :
    Calls Tryz.prog 79 #[.slice a1 l.length c1, .slice a2 l.length c2] w fun e w' => e = .returned (.bool true) ∧ ∃ n, w' = w.drewN n := by
  unfold maxLen at hl
  have hb : ((l.length : Int) != (l.length : Int)) = false := by simp
  go_enter Tryz.func79, Tryz.ntmps79
  go_wp2_with fail
  go_loopw [5] (fun i wr => ∃ k : Nat, k ≤ l.length ∧ i = .int .i64 k ∧ ∃ n, wr = w.drewN n) (fun i _ => l.length - (intOf i).toNat)
  case atStart => exact ⟨0, by omega, rfl, 0, rfl⟩
  case round =>
    obtain ⟨k, hk, rfl, n, hwr⟩ := hrel
    subst hwr
    by_cases hlt : k < l.length
    · obtain ⟨b1, o1, rfl, i1⟩ : ∃ b o, a1 = some ⟨b, o, none⟩ ∧ ItemsAt w b o l := by
        rcases h1 with h | h
        · subst h; simp at hlt
        · exact h
      obtain ⟨b2, o2, rfl, i2⟩ : ∃ b o, a2 = some ⟨b, o, none⟩ ∧ ItemsAt w b o l := by
        rcases h2 with h | h
        · subst h; simp at hlt
        · exact h
      obtain ⟨p0, p1, p2, p3, p4⟩ := i1 k hlt
      obtain ⟨q0, q1, q2, q3, q4⟩ := i2 k hlt
      generalize l[k] = x at *
      obtain ⟨nm, kd, dg, sz, tg⟩ := x
      simp only at p0 p1 p2 p3 p4 q0 q1 q2 q3 q4
      have hlt' : (k : Int) < (l.length : Int) := by omega
      have heq : ∀ w, (Op.equalIn 10000 47 (.agg #[.string nm, .int .i64 kd, .string dg, .int .i64 sz, .string tg]) (.agg #[.string nm, .int .i64 kd, .string dg, .int .i64 sz, .string tg])).run Tryz.prog w = .ok true w := fun w => by
        rw [eq_item]; simp
      go_wp2_with fail
      go_quiet (fail)
      go_wp2
      go_roundw
      case rel => exact ⟨k + 1, by omega, by go_num, _, rfl⟩
      case measure => simp [intOf]; omega
    · obtain rfl : k = l.length := by omega
      go_wp2_with fail
      go_ret
      exact ⟨rfl, n, rfl⟩
theorem marked_at (l : List P.It) (j : Nat) (hj : l.length ≤ j) (h : j < (marked l 8).length) : (marked l 8)[j] = itMark := by
  have hl := marked_len l 8 (by omega)
  have e : (marked l 8)[j]? = some itMark := by
    unfold marked
    rw [List.getElem?_append_right hj, List.getElem?_append_left (by simp; omega), List.getElem?_replicate, if_pos (by omega)]
  rw [List.getElem?_eq_getElem h] at e
  exact Option.some.inj e
theorem marked_lo (l : List P.It) (j : Nat) (hj : j < l.length) (h : j < (marked l 8).length) : (marked l 8)[j] = l[j] := by
  have e : (marked l 8)[j]? = some l[j] := by
    unfold marked
    rw [List.getElem?_append_left hj, List.getElem?_eq_getElem hj]
  rw [List.getElem?_eq_getElem h] at e
  exact Option.some.inj e
end Go.Proofs.YtjmacegibchplaaGreatDoor
