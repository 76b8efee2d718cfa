/-
  The statements' own comparisons of lists of items, where they are the same.
-/
import Derived.Test.YtbfjbohdiemofaaGreatDoorItemB
import Derived.Laws.StructEq
namespace Go.Proofs.YtbfjbohdiemofaaGreatDoor
open Go.RowKit
set_option linter.unusedVariables false

theorem eq_item (n1 d1 t1 n2 d2 t2 : ByteArray) (k1 s1 k2 s2 : Int) (w : World) :
    (Op.equalIn 10000 61 (.agg #[.string n1, .int .i64 k1, .string d1, .int .i64 s1, .string t1]) (.agg #[.string n2, .int .i64 k2, .string d2, .int .i64 s2, .string t2])).run Tryz.prog w
      = .ok (n1.toList == n2.toList && (k1 == k2 && (d1.toList == d2.toList && (s1 == s2 && t1.toList == t2.toList)))) w := by
  have u3 := Tryz.underlying3
  have u9 := Tryz.underlying9
  have a3 := Tryz.isAgg3
  have a9 := Tryz.isAgg9
  have z3 := Tryz.sizeOf3
  have z9 := Tryz.sizeOf9
  have hS : Tryz.prog.underlying 61 = some (.struct (Tryz.prog.fieldsOf 61)) := by kernel_rfl
  have hp : Tryz.prog.stoodInHeld 61 = false := by kernel_rfl
  rw [show (10000 : Nat) = 9999 + 1 from rfl, run_equalIn_agg w 9999 61 _ _ hS hp]
  simp only [Program.fieldsOf, Tryz.underlying61]
  go_simp
  by_cases h1 : n1.toList = n2.toList <;> by_cases h2 : k1 = k2 <;> by_cases h3 : d1.toList = d2.toList <;> by_cases h4 : s1 = s2 <;> by_cases h5 : t1.toList = t2.toList <;> simp [h1, h2, h3, h4, h5]
theorem marked_at (l : List P.It) (j : Nat) (hj : l.length ≤ j) (h : j < (marked l 8).length) : (marked l 8)[j] = itMark := by
  have hl := marked_len l 8 (by omega)
  have e : (marked l 8)[j]? = some itMark := by
    unfold marked
    rw [List.getElem?_append_right hj, List.getElem?_append_left (by simp; omega), List.getElem?_replicate, if_pos (by omega)]
  rw [List.getElem?_eq_getElem h] at e
  exact Option.some.inj e
theorem marked_lo (l : List P.It) (j : Nat) (hj : j < l.length) (h : j < (marked l 8).length) : (marked l 8)[j] = l[j] := by
  have e : (marked l 8)[j]? = some l[j] := by
    unfold marked
    rw [List.getElem?_append_left hj, List.getElem?_eq_getElem hj]
  rw [List.getElem?_eq_getElem h] at e
  exact Option.some.inj e
end Go.Proofs.YtbfjbohdiemofaaGreatDoor
