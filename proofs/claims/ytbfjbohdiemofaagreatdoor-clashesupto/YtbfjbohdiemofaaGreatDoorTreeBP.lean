/-
  The program's test of a tree is the document's. Plain lists, no walk.
-/
import Derived.Test.YtbfjbohdiemofaaGreatDoorTWc
namespace Go.Proofs.YtbfjbohdiemofaaGreatDoor
set_option linter.unusedVariables false

theorem dataOk_bad (x : En) : dataOk x.kind x.data.data.toList = !kindBad x := by
  obtain ⟨pa, k, d⟩ := x
  unfold dataOk kindBad
  simp only
  by_cases h0 : k = 0
  · subst h0
    rw [ByteArray.toList_eq]
    cases d.data.toList <;> simp
  · rw [if_neg h0]
    by_cases h12 : k = 1 ∨ k = 2
    · rw [if_pos h12]
      have hs : (d.data.toList.length : Int) = (d.size : Int) := by simp
      rw [hs]
      rcases h12 with rfl | rfl <;> simp <;> (by_cases h : (d.size : Int) ≤ 60 <;> simp [h] <;> omega)
    · rw [if_neg h12]
      have h1 : ¬ k = 1 := fun h => h12 (.inl h)
      have h2 : ¬ k = 2 := fun h => h12 (.inr h)
      by_cases h3 : k = 3
      · subst h3; simp
      · rw [if_neg h3]
        have : k < 0 ∨ 3 < k := by omega
        rcases this with h | h <;> simp [h]
theorem find_at (l : List En) (p : List UInt8) : (∃ j, ∃ h : j < l.length, findP l p = (j : Int) ∧ l[j].path.data.toList = p ∧ l.find? (fun e => e.path.data.toList == p) = some l[j] ∧ ∀ k (hk : k < j), l[k].path.data.toList ≠ p) ∨ (findP l p = -1 ∧ l.find? (fun e => e.path.data.toList == p) = none) := by
  unfold findP
  cases hf : l.findIdx? (fun e => e.path.data.toList == p) with
  | none =>
    right
    refine ⟨rfl, ?_⟩
    rw [List.findIdx?_eq_none_iff] at hf
    rw [List.find?_eq_none]
    intro x hx
    simpa using hf x hx
  | some j =>
    left
    have hj := List.findIdx?_eq_some_iff_getElem.1 hf
    obtain ⟨h, h1, h2⟩ := hj
    refine ⟨j, h, rfl, by simpa using h1, ?_, fun k hk => by simpa using h2 k hk⟩
    rw [List.find?_eq_some_iff_getElem]
    exact ⟨h1, j, h, rfl, fun k hk => by simpa using h2 k hk⟩
theorem treeB_iff (l : List En) : treeB l = true ↔ Tree l := by
  constructor
  · intro h
    simp only [treeB, Bool.and_eq_true, decide_eq_true_eq, List.all_eq_true, List.mem_range] at h
    obtain ⟨⟨h40, h1⟩, h2⟩ := h
    refine ⟨h40, fun i hi => ?_⟩
    have g1 := h1 i hi
    have g2 := h2 i hi
    simp only [ok1, entOk, Bool.and_eq_true, pathOk, decide_eq_true_eq, dataOk_bad] at g1
    obtain ⟨gk, ⟨gp, gn⟩, gd⟩ := g1
    have hpi : pathAt l i = (l.getD i en0).path.data.toList := rfl
    have hfind : findP l (pathAt l i) = (i : Int) := by
      rcases find_at l (pathAt l i) with ⟨j, hj, e, ep, _, hlt⟩ | ⟨_, hn⟩
      · rw [e]
        have hji : ¬ j < i := fun hji => by
          have : kindOf (l.take i) (pathAt l i) = none := by simpa using gk
          unfold kindOf at this
          simp only [Option.map_eq_none_iff, List.find?_eq_none] at this
          exact this l[j] (List.mem_take_iff_getElem.2 ⟨j, by omega, rfl⟩) (by simpa using ep)
        have hij : ¬ i < j := fun hij => hlt i hij (by rw [hpi, en_getD l i hi])
        have : i = j := by omega
        rw [this]
      · rw [List.find?_eq_none] at hn
        exact absurd (show (l[i].path.data.toList == pathAt l i) = true by rw [hpi, en_getD l i hi]; simp) (hn l[i] (List.getElem_mem hi))
    have hup : upBad l (pathAt l i) = false := by
      unfold upBad
      rcases cut_cases (pathAt l i) with ⟨_, e1, _, _⟩ | ⟨a, n, e, _, e1, e2, _⟩
      · rw [if_pos (by rw [e1]; simp)]
      · have hane : a ≠ [] := by
          intro h0
          subst h0
          have : ([] : List UInt8) ∈ sp (pathAt l i) := by rw [e1]; simp [sp]
          rw [List.all_eq_true] at gn
          have := gn [] this
          simp [P.isName] at this
        have hlen : ¬ (sp (pathAt l i)).length ≤ 1 := by rw [e1]; simp; exact sp_ne a
        rw [if_neg hlen, e2]
        have hk0 : kindOf l a = some 0 := by
          simp only [ok2, Bool.or_eq_true] at g2
          unfold upAt at g2
          rw [e2] at g2
          rcases g2 with g2 | g2
          · exact absurd (List.isEmpty_iff.1 g2) hane
          · simpa using g2
        unfold kindOf at hk0
        rcases find_at l a with ⟨j, hj, ej, _, hs, _⟩ | ⟨_, hn⟩
        · rw [hs] at hk0
          rw [ej, if_neg (by omega), Int.toNat_natCast, en_getD l j hj]
          have hk : l[j].kind = 0 := by simpa using hk0
          simp [hk]
        · rw [hn] at hk0; simp at hk0
    simp only [fineP, Bool.and_eq_true, decide_eq_true_eq, beq_iff_eq, Bool.not_eq_true']
    exact ⟨⟨⟨⟨gp, gn⟩, by simpa using gd⟩, hup⟩, hfind⟩
  · intro ht
    simp only [treeB, Bool.and_eq_true, decide_eq_true_eq, List.all_eq_true, List.mem_range]
    refine ⟨⟨ht.len, fun i hi => ?_⟩, fun i hi => ?_⟩
    · have hf := ht.fine i hi
      have hpi : pathAt l i = (l.getD i en0).path.data.toList := rfl
      simp only [fineP, Bool.and_eq_true, decide_eq_true_eq, beq_iff_eq, Bool.not_eq_true'] at hf
      obtain ⟨⟨⟨⟨gp, gn⟩, gd⟩, gu⟩, gf⟩ := hf
      simp only [ok1, entOk, Bool.and_eq_true, pathOk, decide_eq_true_eq, dataOk_bad]
      refine ⟨?_, ⟨gp, gn⟩, by rw [gd]; rfl⟩
      rw [Option.isNone_iff_eq_none]
      unfold kindOf
      rw [Option.map_eq_none_iff, List.find?_eq_none]
      intro x hx hp
      obtain ⟨j, hj, rfl⟩ := List.getElem_of_mem hx
      rw [List.length_take] at hj
      rw [List.getElem_take] at hp
      have hjl : j < l.length := by omega
      have := tree_inj l ht j i hjl hi (by have : l[j].path.data.toList = pathAt l i := by simpa using hp
                                           rw [this, hpi, en_getD l i hi])
      omega
    · simp only [ok2, Bool.or_eq_true]
      have hf := ht.fine i hi
      simp only [fineP, Bool.and_eq_true, Bool.not_eq_true'] at hf
      have gu : upBad l (pathAt l i) = false := hf.1.2
      unfold upBad at gu
      rcases cut_cases (pathAt l i) with ⟨_, _, e2, _⟩ | ⟨a, n, e, _, e1, e2, _⟩
      · left; unfold upAt; rw [e2]; rfl
      · right
        have hlen : ¬ (sp (pathAt l i)).length ≤ 1 := by rw [e1]; simp; exact sp_ne a
        rw [if_neg hlen, e2] at gu
        unfold upAt
        rw [e2]
        rcases find_at l a with ⟨j, hj, ej, _, hs, _⟩ | ⟨hn, _⟩
        · rw [ej, if_neg (by omega), Int.toNat_natCast, en_getD l j hj] at gu
          have hk : l[j].kind = 0 := by simpa using gu
          unfold kindOf
          rw [hs]
          simp [hk]
        · rw [hn, if_pos (by omega)] at gu; simp at gu
theorem wrong_no (l : List En) (h : ¬ Tree l) : wrongP l = 1 := by
  rw [wrongP_eq]
  by_cases h40 : 40 < l.length
  · rw [if_pos h40]
  · rw [if_neg h40]
    by_cases ha : (List.range l.length).all (fineP l) = false
    · rw [if_pos ha]
    · exfalso
      refine h ⟨by omega, fun i hi => ?_⟩
      have : (List.range l.length).all (fineP l) = true := by simpa using ha
      exact List.all_eq_true.1 this i (by simpa using hi)
theorem wrong_yes (l : List En) (h : Tree l) : wrongP l = if l.any escP then 2 else 0 := by
  rw [wrongP_eq, if_neg (by have := h.len; omega), if_neg]
  have : (List.range l.length).all (fineP l) = true := List.all_eq_true.2 (fun i hi => h.fine i (by simpa using hi))
  rw [this]; simp
end Go.Proofs.YtbfjbohdiemofaaGreatDoor
