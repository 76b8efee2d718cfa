/-
  The program's reading of a directory's bytes: its contract.
-/
import Derived.Test.YtbfjbohdiemofaaGreatDoorReadB
import Derived.Test.YtbfjbohdiemofaaGreatDoorItemB
namespace Go.Proofs.YtbfjbohdiemofaaGreatDoor
open Go.RowKit
set_option linter.unusedVariables false

/-- the reader behind k items -/
def rAt (s : RS) : Nat → RS
  | 0 => s
  | k + 1 => (rItem (rAt s k)).2
/-- k items -/
def rGot (s : RS) : Nat → List P.It
  | 0 => []
  | k + 1 => rGot s k ++ [(rItem (rAt s k)).1]
theorem rGot_len (s : RS) : ∀ k, (rGot s k).length = k
  | 0 => rfl
  | k + 1 => by simp [rGot, rGot_len s k]
theorem rItem_len (s : RS) : (rItem s).2.rest.length ≤ s.rest.length := by
  unfold rItem
  simp only
  have z1 := rOne_len s
  have z2 := rOne_len (rOne s).2
  have z3 := rTake_len (rOne (rOne s).2).2 (rOne (rOne s).2).1
  split
  · have z4 := rOne_len (rTake (rOne (rOne s).2).2 (rOne (rOne s).2).1).2
    have z5 := rTake_len (rOne (rTake (rOne (rOne s).2).2 (rOne (rOne s).2).1).2).2 (rOne (rTake (rOne (rOne s).2).2 (rOne (rOne s).2).1).2).1
    simp only; omega
  · have z4 := rTake_len (rTake (rOne (rOne s).2).2 (rOne (rOne s).2).1).2 3
    have z5 := rOne_len (rTake (rTake (rOne (rOne s).2).2 (rOne (rOne s).2).1).2 3).2
    have z6 := rOne_len (rOne (rTake (rTake (rOne (rOne s).2).2 (rOne (rOne s).2).1).2 3).2).2
    simp only; omega
theorem rAt_len (s : RS) : ∀ k, (rAt s k).rest.length ≤ s.rest.length
  | 0 => Nat.le_refl _
  | k + 1 => Nat.le_trans (rItem_len _) (rAt_len s k)
theorem take_part (s : RS) (n : Nat) : (rTake s n).1.length ≤ s.rest.length := by
  unfold rTake; split <;> simp; omega
theorem rItem_fits (s : RS) (h : s.rest.length ≤ maxLen) : Fits (rItem s).1 := by
  unfold rItem
  simp only
  have z1 := rOne_len s
  have z2 := rOne_len (rOne s).2
  have z3 := rTake_len (rOne (rOne s).2).2 (rOne (rOne s).2).1
  have p3 := take_part (rOne (rOne s).2).2 (rOne (rOne s).2).1
  split
  · have z4 := rOne_len (rTake (rOne (rOne s).2).2 (rOne (rOne s).2).1).2
    have p5 := take_part (rOne (rTake (rOne (rOne s).2).2 (rOne (rOne s).2).1).2).2 (rOne (rTake (rOne (rOne s).2).2 (rOne (rOne s).2).1).2).1
    exact ⟨by simp only [bs_size]; omega, Nat.zero_le _, by simp only [bs_size]; omega⟩
  · have p4 := take_part (rTake (rOne (rOne s).2).2 (rOne (rOne s).2).1).2 3
    exact ⟨by simp only [bs_size]; omega, by simp only [bs_size]; omega, Nat.zero_le _⟩
theorem rGot_fits (s : RS) (h : s.rest.length ≤ maxLen) : ∀ k, FitAll (rGot s k)
  | 0 => fun i hi => absurd hi (by simp [rGot])
  | k + 1 => fun i hi => by
    have ih := rGot_fits s h k
    simp only [rGot] at hi ⊢
    by_cases hlt : i < (rGot s k).length
    · rw [List.getElem_append_left hlt]; exact ih i hlt
    · rw [List.getElem_append_right (by omega)]
      have : i - (rGot s k).length = 0 := by simp at hi; omega
      simp only [this, List.getElem_cons_zero]
      exact rItem_fits _ (Nat.le_trans (rAt_len s k) h)
/-- what the bytes come to: their items, if just these bytes were needed -/
def readOk (l : List UInt8) : Option (List P.It) :=
  if (rOne ⟨l, false⟩).1 = 84 then
    let c := rOne (rOne ⟨l, false⟩).2
    if c.2.short = false ∧ (rAt c.2 c.1).short = false ∧ (rAt c.2 c.1).rest = [] then some (rGot c.2 c.1) else none
  else none
theorem rTake_stays (s : RS) (n : Nat) (h : s.short = true) : (rTake s n).2.short = true := by
  unfold rTake; split
  · rfl
  · exact h
theorem rOne_stays (s : RS) (h : s.short = true) : (rOne s).2.short = true := by
  have := rTake_stays s 1 h
  unfold rOne; split <;> exact this
theorem rItem_stays (s : RS) (h : s.short = true) : (rItem s).2.short = true := by
  unfold rItem
  simp only
  have z1 := rOne_stays s h
  have z2 := rOne_stays (rOne s).2 z1
  have z3 := rTake_stays (rOne (rOne s).2).2 (rOne (rOne s).2).1 z2
  generalize rTake (rOne (rOne s).2).2 (rOne (rOne s).2).1 = nm at *
  split
  · have z4 := rOne_stays nm.2 z3
    have z5 := rTake_stays (rOne nm.2).2 (rOne nm.2).1 z4
    simp only; exact z5
  · have z4 := rTake_stays nm.2 3 z3
    have z5 := rOne_stays (rTake nm.2 3).2 z4
    have z6 := rOne_stays (rOne (rTake nm.2 3).2).2 z5
    simp only; exact z6
theorem rAt_stays (s : RS) (k : Nat) (h : (rAt s k).short = true) : ∀ n, k ≤ n → (rAt s n).short = true
  | 0, hn => by obtain rfl : k = 0 := by omega
                exact h
  | n + 1, hn => by
    by_cases e : k = n + 1
    · subst e; exact h
    · exact rItem_stays _ (rAt_stays s k h n (by omega))
def OwnsIt (w : World) (base : Nat) (v : Value) (l : List P.It) : Prop := w.ownsRow base 61 5 v l.length (rowCells itCells l)
theorem OwnsIt.lies {w : World} {base : Nat} {v : Value} {l : List P.It} (h : OwnsIt w base v l) : ∃ a c, v = .slice a l.length c ∧ Lies w a l ∧ (a = none → c = 0) := by
  rcases h.2 with ⟨rfl, hn⟩ | ⟨g, cap, cur, rfl, _, hg, hnc, hcm, hcs, htake⟩
  · exact ⟨none, 0, by rw [hn], .inl (List.eq_nil_of_length_eq_zero hn), fun _ => rfl⟩
  · refine ⟨some ⟨g, 0, none⟩, cap, rfl, .inr ⟨g, 0, rfl, ItemsAt.of_row ?_⟩, fun h => by simp at h⟩
    intro i hi j v hv
    have hj : j < 5 := (List.getElem?_eq_some_iff.1 hv).1
    have := World.ownsRow.cells h (g := g) rfl (i * 5 + j) v (by rw [rowCells_at itCells_len l i hi j hj]; exact hv)
    have hadd : (⟨g, 0, none⟩ : Addr).add (i * 5 + j) = ⟨g, 0 + i * 5 + j, none⟩ := by
      unfold Addr.add; split <;> simp_all
    rw [hadd] at this
    exact this
/-- 'append(items, x)', items the call's own -/
theorem app_item {w : World} {ops : Array Oper} {rest : List Oper} {o : Oper} {a : Act} {Q : Exit → Act → World → Prop} (hgd : o.guard = none) (s x : Operand)
    (ho : o.op = .call { callee := .builtin .append, args := #[s, x], argTypes := #[59, 59] }) (base : Nat) (v : Value) (l : List P.It) (hs : a.eval s = v) (hown : OwnsIt w base v l)
    (ad : Addr) (y : P.It) (hx : a.eval x = .slice (some ad) 1 1) (hnews : ∀ j u, (itCells y)[j]? = some u → w.cell? (ad.add j) = some u)
    (hlen : l.length ≤ 1000000) (hbase : base ≤ w.heap.size)
    (h : ∀ v' w', OwnsIt w' base v' (l ++ [y]) → w.grownBy w' v.ownBlock → wpList Tryz.prog ops Q rest (a.put o.dst v') w') : wpList Tryz.prog ops Q (o :: rest) a w := by
  obtain ⟨i0, hi, hz0, hz1, hz2⟩ := info_parts info_item
  refine wpList_append_own w hgd s x 59 ho base 61 i0 _ 5 64 Tryz.underlying59 hi hz0 hz1 hz2 rfl (by decide) v l.length (rowCells itCells l) hs hown ad 1 1 (itCells y) hx rfl hnews ?_ (by unfold maxLen; omega) (by omega) hbase ?_
  · intro u hu
    exact itCells_one [y] u (by simpa [rowCells] using hu)
  · intro v' w' h2 h3 _
    refine h v' w' ?_ h3
    unfold OwnsIt
    rw [show rowCells itCells (l ++ [y]) = rowCells itCells l ++ itCells y by simp [rowCells], List.length_append]
    exact h2
/-- what Decode answers -/
def decOk (l : List UInt8) : Option (List P.It) := (readOk l).bind fun items => if dirOk items = true then some items else none
end Go.Proofs.YtbfjbohdiemofaaGreatDoor
