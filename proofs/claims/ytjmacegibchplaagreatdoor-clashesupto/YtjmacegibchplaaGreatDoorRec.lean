/-
  Rows of records in memory: n cells a record; made, copied, stored.
-/
import Derived.Test.YtjmacegibchplaaGreatDoorKit
import Derived.Laws.IdiomCopy
namespace Go.Proofs.YtjmacegibchplaaGreatDoor
open Go.RowKit
set_option linter.unusedVariables false

section
variable {α : Type} (enc : α → List Value) (n : Nat)

/-- the cells of some records -/
def rowCells (l : List α) : List Value := (l.map enc).flatten
/-- records in a row of memory -/
def RowAt (w : World) (b o : Nat) (l : List α) : Prop :=
  ∀ i (h : i < l.length) j (v : Value), (enc l[i])[j]? = some v → w.cell? ⟨b, o + i * n + j, none⟩ = some v

variable {enc n}
theorem rowCells_length (hn : ∀ x, (enc x).length = n) (l : List α) : (rowCells enc l).length = l.length * n := by
  induction l with
  | nil => simp [rowCells]
  | cons x l ih =>
    have e : rowCells enc (x :: l) = enc x ++ rowCells enc l := by simp [rowCells]
    rw [e, List.length_append, hn, ih, List.length_cons, Nat.add_mul, Nat.one_mul, Nat.add_comm]
theorem rowCells_at (hn : ∀ x, (enc x).length = n) : ∀ (l : List α) (i : Nat) (h : i < l.length) (j : Nat), j < n → (rowCells enc l)[i * n + j]? = (enc l[i])[j]?
  | [], i, h, _, _ => absurd h (by simp)
  | x :: l, 0, _, j, hj => by
    have e : rowCells enc (x :: l) = enc x ++ rowCells enc l := by simp [rowCells]
    rw [e, Nat.zero_mul, Nat.zero_add, List.getElem?_append_left (by rw [hn]; exact hj)]; rfl
  | x :: l, i + 1, h, j, hj => by
    have e : rowCells enc (x :: l) = enc x ++ rowCells enc l := by simp [rowCells]
    rw [e, List.getElem?_append_right (by rw [hn, Nat.add_mul]; omega), hn]
    have := rowCells_at hn l i (by simpa using h) j hj
    rw [show (i + 1) * n + j - n = i * n + j by rw [Nat.add_mul]; omega, this]; rfl
theorem RowAt.below {B : Nat} {w w' : World} {b o : Nat} {l : List α} (h : RowAt enc n w b o l) (hb : Below B w w') (hB : w.heap.size ≤ B) : RowAt enc n w' b o l := by
  intro i hi j v hv
  have h1 := h i hi j v hv
  have hl : b < w.heap.size := by
    rcases Nat.lt_or_ge b w.heap.size with hl | hl
    · exact hl
    · have hz : w.heap[b]? = none := by simp [hl]
      simp [World.cell?, hz] at h1
  exact (hb.cell (p := ⟨b, _, none⟩) (Nat.lt_of_lt_of_le hl hB)).trans h1
theorem RowAt.of_cells {w w' : World} {b o : Nat} {l : List α} (h : RowAt enc n w b o l) (hc : ∀ k v, w.cell? ⟨b, k, none⟩ = some v → w'.cell? ⟨b, k, none⟩ = some v) : RowAt enc n w' b o l :=
  fun i hi j v hv => hc _ v (h i hi j v hv)
/-- a new row of zeros -/
theorem RowAt.made (hn : ∀ x, (enc x).length = n) (x0 : α) (z : Array Value) (hz : z.toList = enc x0) (N : Nat) (w : World) (e : TypeId) :
    RowAt enc n (w.alloc (.cells (madeCells z (N * n)) e)) w.heap.size 0 (List.replicate N x0) := by
  intro i hi j v hv
  have hiN : i < N := by simpa using hi
  rw [List.getElem_replicate] at hv
  have hjn : j < n := by
    have := (List.getElem?_eq_some_iff.1 hv).1
    rwa [hn] at this
  have hzs : z.size = n := by rw [← Array.length_toList, hz, hn]
  have hlt : i * n + j < N * n := by
    have : (i + 1) * n ≤ N * n := Nat.mul_le_mul_right _ (by omega)
    rw [Nat.add_mul] at this; omega
  rw [cell_of_block (heap_alloc_new w _), Nat.zero_add]
  have hm : (madeCells z (N * n))[i * n + j]? = some z[(i * n + j) % z.size]! := by
    unfold madeCells
    simp [hlt]
  rw [hm, hzs, Nat.mul_add_mod', Nat.mod_eq_of_lt hjn]
  rw [← hz] at hv
  simp at hv
  simp [getElem!_def, hv]
/-- one record stored -/
theorem RowAt.store (hn : ∀ x, (enc x).length = n) {w : World} {b o : Nat} {l : List α} (h : RowAt enc n w b o l) (i : Nat) (hi : i < l.length) (x : α) :
    RowAt enc n (w.setCells b (o + i * n) (enc x)) b o (l.set i x) := by
  intro k hk j v hv
  have hkl : k < l.length := by simpa using hk
  by_cases hik : i = k
  · subst hik
    rw [List.getElem_set_self] at hv
    obtain ⟨hj, hjv⟩ := List.getElem?_eq_some_iff.1 hv
    have := World.cell?_setCells_in b (enc x) (o + i * n) w (fun j' hj' => by
      have hj2 : j' < (enc l[i]).length := by rw [hn]; rw [hn] at hj'; exact hj'
      rw [h i hi j' (enc l[i])[j'] (List.getElem?_eq_getElem hj2)]; rfl) j hj
    rw [this, hjv]
  · rw [List.getElem_set_ne hik] at hv
    have hjn : j < n := by
      have := (List.getElem?_eq_some_iff.1 hv).1
      rwa [hn] at this
    rw [World.cell?_setCells_out b (enc x) _ w _ (fun _ _ => ?_)]
    · exact h k hkl j v hv
    · simp only [hn]
      rcases Nat.lt_or_ge k i with hlt | hge
      · left
        have : (k + 1) * n ≤ i * n := Nat.mul_le_mul_right _ hlt
        rw [Nat.add_mul] at this; omega
      · right
        have : (i + 1) * n ≤ k * n := Nat.mul_le_mul_right _ (by omega)
        rw [Nat.add_mul] at this; omega
/-- any cell of the row -/
theorem RowAt.cell (hn : ∀ x, (enc x).length = n) {w : World} {b o : Nat} {l : List α} (h : RowAt enc n w b o l) (j : Nat) (hj : j < l.length * n) : ∃ v, (rowCells enc l)[j]? = some v ∧ w.cell? ⟨b, o + j, none⟩ = some v := by
  have hnp : 0 < n := by
    rcases Nat.eq_zero_or_pos n with h0 | h0
    · subst h0; simp at hj
    · exact h0
  have hq : j / n < l.length := Nat.div_lt_of_lt_mul (by rw [Nat.mul_comm]; exact hj)
  have hr : j % n < n := Nat.mod_lt _ hnp
  have hj2 : j % n < (enc l[j / n]).length := by rw [hn]; exact hr
  have e := Nat.div_add_mod j n
  rw [Nat.mul_comm] at e
  refine ⟨(enc l[j / n])[j % n], ?_, ?_⟩
  · have := rowCells_at hn l (j / n) hq (j % n) hr
    rw [e] at this
    rw [this]; exact List.getElem?_eq_getElem hj2
  · have := h (j / n) hq (j % n) _ (List.getElem?_eq_getElem hj2)
    rw [Nat.add_assoc, e] at this
    exact this
theorem RowAt.src (hn : ∀ x, (enc x).length = n) {w : World} {b o : Nat} {l : List α} (h : RowAt enc n w b o l) : ∀ j v, (rowCells enc l)[j]? = some v → w.cell? ((⟨b, o, none⟩ : Addr).add j) = some v := by
  intro j v hv
  have hj : j < l.length * n := by
    have := (List.getElem?_eq_some_iff.1 hv).1
    rwa [rowCells_length hn] at this
  obtain ⟨u, hu, hc⟩ := h.cell hn j hj
  rw [hv] at hu
  have hadd : (⟨b, o, none⟩ : Addr).add j = ⟨b, o + j, none⟩ := by unfold Addr.add; split <;> simp_all
  rw [hadd, hc, hu]
theorem RowAt.there (hn : ∀ x, (enc x).length = n) {w : World} {b o : Nat} {l : List α} (h : RowAt enc n w b o l) (j : Nat) (hj : j < l.length * n) : (w.cell? ⟨b, o + j, none⟩).isSome = true := by
  obtain ⟨v, _, hc⟩ := h.cell hn j hj
  rw [hc]; rfl
/-- records copied to a row's head -/
theorem RowAt.copied (hn : ∀ x, (enc x).length = n) {w : World} {b o : Nat} {L : List α} (h : RowAt enc n w b o L) (l : List α) (hl : l.length ≤ L.length) :
    RowAt enc n (w.setCells b o (rowCells enc l)) b o (l ++ L.drop l.length) := by
  intro k hk j v hv
  have hjn : j < n := by
    have := (List.getElem?_eq_some_iff.1 hv).1
    rwa [hn] at this
  by_cases hkl : k < l.length
  · rw [List.getElem_append_left hkl] at hv
    have hlt : k * n + j < (rowCells enc l).length := by
      rw [rowCells_length hn]
      have : (k + 1) * n ≤ l.length * n := Nat.mul_le_mul_right _ hkl
      rw [Nat.add_mul] at this; omega
    have := World.cell?_setCells_in b (rowCells enc l) o w (fun j' hj' => by
      rw [rowCells_length hn] at hj'
      have hnp : 0 < n := by omega
      have hq : j' / n < L.length := by
        have : j' / n < l.length := Nat.div_lt_of_lt_mul (by rw [Nat.mul_comm]; exact hj')
        omega
      have hr : j' % n < n := Nat.mod_lt _ hnp
      have hj2 : j' % n < (enc L[j' / n]).length := by rw [hn]; exact hr
      have := h (j' / n) hq (j' % n) _ (List.getElem?_eq_getElem hj2)
      rw [show o + j' = o + j' / n * n + j' % n by have := Nat.div_add_mod j' n; rw [Nat.mul_comm] at this; omega, this]; rfl) (k * n + j) hlt
    rw [Nat.add_assoc, this]
    have e := rowCells_at hn l k hkl j hjn
    rw [List.getElem?_eq_getElem hlt, hv] at e
    exact e
  · have hk2 : k < L.length := by simp at hk; omega
    have e : (l ++ L.drop l.length)[k] = L[k] := by
      rw [List.getElem_append_right (by omega)]
      simp; congr 1; omega
    rw [e] at hv
    rw [World.cell?_setCells_out b _ _ w _ (fun _ _ => ?_)]
    · exact h k hk2 j v hv
    · right
      simp only [rowCells_length hn]
      have : l.length * n ≤ k * n := Nat.mul_le_mul_right _ (by omega)
      omega
end

/-- 'copy(dst, src)', records of 'size' cells: all is read before anything is written. -/
theorem run_copy_rec {P : Program} (w : World) (dT sT ty elem : TypeId) (b o dLen dCap : Nat) (a : Addr) (sLen sCap size : Nat) (cs : List Value)
    (hu : P.underlying dT = some (.slice elem)) (hs : (P.info? elem).map (·.size) = some size) (hn : cs.length = Nat.min sLen dLen * size)
    (hsrc : ∀ j v, cs[j]? = some v → w.cell? (a.add j) = some v) (hc : ∀ j, j < cs.length → (w.cell? ⟨b, o + j, none⟩).isSome = true) (hf : ∀ j, j < cs.length → w.frozen? ⟨b, o + j, none⟩ = false) (h1 : ∀ v ∈ cs, v.oneCell' = true) :
    (Builtin.copy_ #[dT, sT] ty #[.slice (some ⟨b, o, none⟩) dLen dCap, .slice (some a) sLen sCap]).run P w = .ok (goInt (Nat.min sLen dLen)) (w.setCells b o cs) := by
  have hl := run_loadCells_list (P := P) w a cs hsrc
  have hst := run_storeCells_cells (P := P) b o cs 0 w (by simpa using hc) (by simpa using hf) h1
  cases hq : P.info? elem with
  | none => simp [hq] at hs
  | some i =>
    have hi : i.size = size := by simpa [hq] using hs
    simp [Builtin.copy_, run_underlying hu, Builtin.lenOf, Builtin.firstCells, sizeOf, typeInfo, hq, hi, ← hn, hl, hst]
theorem wpList_copy_rec {P : Program} {w : World} {ops : Array Oper} {rest : List Oper} {op : Oper} {a : Act} {Q : Exit → Act → World → Prop} (hgd : op.guard = none) (d s : Operand) (dT sT : TypeId)
    (ho : op.op = .call { callee := .builtin .copy, args := #[d, s], argTypes := #[dT, sT] }) (elem : TypeId) (size : Nat) (hu : P.underlying dT = some (.slice elem)) (hsz : (P.info? elem).map (·.size) = some size)
    (g off dLen dCap : Nat) (ad : Addr) (sLen sCap : Nat) (hd : a.eval d = .slice (some ⟨g, off, none⟩) dLen dCap) (hs : a.eval s = .slice (some ad) sLen sCap)
    (cs : List Value) (hn : cs.length = Nat.min sLen dLen * size) (hsrc : ∀ j v, cs[j]? = some v → w.cell? (ad.add j) = some v) (hc : ∀ j, j < cs.length → (w.cell? ⟨g, off + j, none⟩).isSome = true) (hf : ∀ j, j < cs.length → w.frozen? ⟨g, off + j, none⟩ = false) (h1 : ∀ v ∈ cs, v.oneCell' = true)
    (h : wpList P ops Q rest (a.put op.dst (goInt (Nat.min sLen dLen))) (w.setCells g off cs)) : wpList P ops Q (op :: rest) a w := by
  refine wpList_plain hgd fun K hK => ?_
  have hrun := run_copy_rec (P := P) w dT sT op.type elem g off dLen dCap ad sLen sCap size cs hu hsz hn hsrc hc hf h1
  unfold Oper.wp
  simp [execOp, ho, resolve, invoke, builtin, hd, hs, hrun, Result.andThen]
  exact hK _ _ h
theorem below_setCells {B : Nat} {w0 : World} (b : Nat) (hB : B ≤ b) : ∀ (vs : List Value) (o : Nat) (w : World), Below B w0 w → Below B w0 (w.setCells b o vs)
  | [], _, _, h => h
  | v :: r, o, w, h => below_setCells b hB r (o + 1) _ (h.setCell hB v)
end Go.Proofs.YtjmacegibchplaaGreatDoor
