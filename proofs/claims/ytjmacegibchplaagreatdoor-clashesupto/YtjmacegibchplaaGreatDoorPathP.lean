/-
  Paths: a path parted at its last slash, texts cut at each slash: the library's words and the document's. Plain lists, no walk.
-/
import Derived.Test.YtjmacegibchplaaGreatDoorTreeT
import Derived.Lib.SplitLaws
import Derived.Lib.LastIndexByte
namespace Go.Proofs.YtjmacegibchplaaGreatDoor
set_option linter.unusedVariables false

theorem has_false {l : List UInt8} {c : UInt8} : P.has l c = false ↔ c ∉ l := by
  induction l with
  | nil => simp [P.has]
  | cons b l ih =>
    simp only [P.has, List.mem_cons]
    by_cases e : b = c
    · subst e; simp
    · have : ¬ c = b := fun h => e h.symm
      simp [e, this, ih]
theorem has_app (a b : List UInt8) (c : UInt8) : P.has (a ++ b) c = (P.has a c || P.has b c) := by
  induction a with
  | nil => simp [P.has]
  | cons x a ih =>
    simp only [List.cons_append, P.has]
    by_cases e : x == c
    · simp [e]
    · simp [e, ih]
/-- the last slash -/
theorem last_slash : ∀ (p : List UInt8), P.has p 47 = true → ∃ a n, p = a ++ 47 :: n ∧ P.has n 47 = false
  | [], h => by simp [P.has] at h
  | c :: p, h => by
    cases hp : P.has p 47 with
    | true =>
      obtain ⟨a, n, rfl, hn⟩ := last_slash p hp
      exact ⟨c :: a, n, rfl, hn⟩
    | false =>
      simp only [P.has, hp] at h
      have hc : c = 47 := by
        by_cases e : c = 47
        · exact e
        · simp [e] at h
      subst hc
      exact ⟨[], p, rfl, hp⟩
def nameOf (p : List UInt8) : List UInt8 := (sp p).getLastD []
theorem cut_none {p : List UInt8} (h : P.has p 47 = false) : sp p = [p] ∧ upPath p = [] ∧ nameOf p = p := by
  have e := sp_end p h
  refine ⟨e, ?_, by simp [nameOf, e]⟩
  unfold upPath
  rw [e]
  simp
theorem cut_some (a n : List UInt8) (h : P.has n 47 = false) : sp (a ++ 47 :: n) = sp a ++ [n] ∧ upPath (a ++ 47 :: n) = a ∧ nameOf (a ++ 47 :: n) = n := by
  have e : sp (a ++ 47 :: n) = sp a ++ [n] := by rw [sp_app, sp_end n h]
  refine ⟨e, ?_, by simp [nameOf, e]⟩
  unfold upPath
  rw [e]
  simp only [List.getLastD_concat, List.length_append, List.length_cons]
  rw [show a.length + (n.length + 1) - n.length - 1 = a.length by omega, List.take_left]
theorem cut_cases (p : List UInt8) : (P.has p 47 = false ∧ sp p = [p] ∧ upPath p = [] ∧ nameOf p = p) ∨ (∃ a n, p = a ++ 47 :: n ∧ P.has n 47 = false ∧ sp p = sp a ++ [n] ∧ upPath p = a ∧ nameOf p = n) := by
  cases h : P.has p 47 with
  | false => exact .inl ⟨rfl, cut_none h⟩
  | true =>
    obtain ⟨a, n, rfl, hn⟩ := last_slash p h
    exact .inr ⟨a, n, rfl, hn, cut_some a n hn⟩
theorem name_no (p : List UInt8) : P.has (nameOf p) 47 = false := by
  rcases cut_cases p with ⟨h, _, _, e⟩ | ⟨a, n, rfl, h, _, _, e⟩
  · rw [e]; exact h
  · rw [e]; exact h
theorem last_index (p : List UInt8) : (P.has p 47 = false ∧ Lib.lastIndexByte (bs p) 47 = -1) ∨ (P.has p 47 = true ∧ Lib.lastIndexByte (bs p) 47 = ((upPath p).length : Int) ∧ p = upPath p ++ 47 :: nameOf p) := by
  have hget : ∀ j (h : j < p.length), (bs p).data[j]! = p[j] := by
    intro j h
    have : j < (bs p).data.size := by simpa [bs] using h
    rw [getElem!_pos (bs p).data j this]
    simp [bs]
  rcases Lib.lastIndexByte_spec (bs p) 47 with ⟨h1, h2⟩ | ⟨i, hi, h1, h2, h3⟩
  · left
    refine ⟨has_false.2 fun hm => ?_, h1⟩
    obtain ⟨j, hj, e⟩ := List.getElem_of_mem hm
    have := h2 j (by rw [bs_size]; exact hj)
    rw [hget j hj, e] at this
    exact this rfl
  · right
    rw [bs_size] at hi h3
    rw [hget i hi] at h2
    have h47 : p[i] = 47 := UInt8.toNat_inj.1 (by have : ((p[i]).toNat : Int) = 47 := h2; have : (p[i]).toNat = 47 := by omega
                                                  rw [this]; rfl)
    have hp : p = p.take i ++ 47 :: p.drop (i + 1) := by
      rw [← h47, ← List.drop_eq_getElem_cons hi, List.take_append_drop]
    have hn : P.has (p.drop (i + 1)) 47 = false := has_false.2 fun hm => by
      obtain ⟨j, hj, e⟩ := List.getElem_of_mem hm
      rw [List.getElem_drop] at e
      rw [List.length_drop] at hj
      have := h3 (i + 1 + j) (by omega) (by omega)
      rw [hget _ (by omega), e] at this
      exact this rfl
    obtain ⟨_, e2, e3⟩ := cut_some (p.take i) (p.drop (i + 1)) hn
    rw [← hp] at e2 e3
    refine ⟨?_, ?_, by rw [e2, e3]; exact hp⟩
    · cases hh : P.has p 47 with
      | true => rfl
      | false => exact absurd (List.getElem_mem hi) (by rw [h47]; exact has_false.1 hh)
    · rw [h1, e2]; simp; omega
theorem index_none : ∀ (s : List UInt8), P.has s 47 = false → Lib.index s [47] = -1
  | [], _ => by simp [Lib.index]
  | c :: s, h => by
    have h' := has_false.1 h
    simp only [List.mem_cons, not_or] at h'
    rw [Lib.index, index_none s (has_false.2 h'.2)]
    simp [List.isPrefixOf, h'.1]
theorem index_some : ∀ (a r : List UInt8), P.has a 47 = false → Lib.index (a ++ 47 :: r) [47] = (a.length : Int)
  | [], r, _ => by rw [List.nil_append, Lib.index]; simp [List.isPrefixOf]
  | c :: a, r, h => by
    have h' := has_false.1 h
    simp only [List.mem_cons, not_or] at h'
    rw [List.cons_append, Lib.index, index_some a r (has_false.2 h'.2)]
    have : ¬ ((a.length : Int) == -1) = true := by simp
    simp [List.isPrefixOf, h'.1]
theorem first_slash : ∀ (p : List UInt8), P.has p 47 = true → ∃ a r, p = a ++ 47 :: r ∧ P.has a 47 = false
  | [], h => by simp [P.has] at h
  | c :: p, h => by
    by_cases hc : c = 47
    · subst hc; exact ⟨[], p, rfl, rfl⟩
    · have hp : P.has p 47 = true := by simpa [P.has, hc] using h
      obtain ⟨a, r, rfl, ha⟩ := first_slash p hp
      exact ⟨c :: a, r, rfl, by simp [P.has, hc, ha]⟩
/-- cut at the first k slashes -/
theorem splitK_sp : ∀ (k : Nat) (s : List UInt8), (Lib.splitK [47] 0 k s).length = min (k + 1) (sp s).length ∧ ((sp s).length ≤ k + 1 → Lib.splitK [47] 0 k s = sp s)
  | 0, s => by
    have hne := sp_ne s
    have hl : 0 < (sp s).length := List.length_pos_iff.2 hne
    refine ⟨by simp [Lib.splitK]; omega, fun h => ?_⟩
    cases hh : P.has s 47 with
    | false => simp [Lib.splitK, sp_end s hh]
    | true =>
      obtain ⟨a, r, rfl, ha⟩ := first_slash s hh
      rw [sp_slash a r ha] at h
      have := List.length_pos_iff.2 (sp_ne r)
      simp at h
      exact absurd h (sp_ne r)
  | k + 1, s => by
    cases hh : P.has s 47 with
    | false => simp [Lib.splitK, index_none s hh, sp_end s hh]
    | true =>
      obtain ⟨a, r, rfl, ha⟩ := first_slash s hh
      have hi := index_some a r ha
      obtain ⟨ih1, ih2⟩ := splitK_sp k r
      have hsp := sp_slash a r ha
      have e : Lib.splitK [47] 0 (k + 1) (a ++ 47 :: r) = a :: Lib.splitK [47] 0 k r := by
        simp only [Lib.splitK]
        rw [hi, if_neg (by simp)]
        simp
      rw [e, hsp]
      refine ⟨by simp [ih1], fun h => ?_⟩
      rw [ih2 (by simpa using h)]
theorem sp_count : ∀ (s : List UInt8), (sp s).length = s.count 47 + 1
  | [] => rfl
  | c :: s => by
    have ih := sp_count s
    simp only [sp]
    by_cases hc : c = 47
    · subst hc; simp [ih]
    · rw [if_neg hc, List.count_cons_of_ne (by simpa using hc)]
      split
      · rename_i e; rw [e] at ih; simp at ih
      · rename_i h t e; rw [e] at ih; simpa using ih
theorem prefix_slash (t : List UInt8) : Lib.hasPrefix t [47] = decide (t.head? = some 47) := by
  cases t with
  | nil => rfl
  | cons c t =>
    by_cases h : c = 47
    · subst h; simp [Lib.hasPrefix, List.isPrefixOf]
    · simp [Lib.hasPrefix, List.isPrefixOf, h, Ne.symm h]
end Go.Proofs.YtjmacegibchplaaGreatDoor
