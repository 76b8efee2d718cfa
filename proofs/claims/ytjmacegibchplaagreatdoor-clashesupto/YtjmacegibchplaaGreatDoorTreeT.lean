/-
  What the blobs by rising digests are; lists in order are told by what is in them. Plain lists, no walk.
-/
import Derived.Test.YtjmacegibchplaaGreatDoorTreeS
namespace Go.Proofs.YtjmacegibchplaaGreatDoor
set_option linter.unusedVariables false

/-- two lists in strict order, of the same members, are one -/
theorem order_one {α : Type} (r : α → α → Bool) (hi : ∀ x, r x x = false) (ht : ∀ x y z, r x y = true → r y z = true → r x z = true) : ∀ (l m : List α), l.Pairwise (fun x y => r x y = true) → m.Pairwise (fun x y => r x y = true) → (∀ x, x ∈ l ↔ x ∈ m) → l = m
  | [], [], _, _, _ => rfl
  | [], y :: m, _, _, h => absurd ((h y).2 (by simp)) (by simp)
  | x :: l, [], _, _, h => absurd ((h x).1 (by simp)) (by simp)
  | x :: l, y :: m, hl, hm, h => by
    rw [List.pairwise_cons] at hl hm
    have hxy : x = y := by
      rcases List.mem_cons.1 ((h x).1 (by simp)) with e | hx
      · exact e
      · rcases List.mem_cons.1 ((h y).2 (by simp)) with e | hy
        · exact e.symm
        · have := ht _ _ _ (hl.1 y hy) (hm.1 x hx)
          rw [hi] at this; simp at this
    subst hxy
    rw [order_one r hi ht l m hl.2 hm.2 (fun z => ?_)]
    constructor
    · intro hz
      rcases List.mem_cons.1 ((h z).1 (by simp [hz])) with e | hz'
      · subst e; have := hl.1 z hz; rw [hi] at this; simp at this
      · exact hz'
    · intro hz
      rcases List.mem_cons.1 ((h z).2 (by simp [hz])) with e | hz'
      · subst e; have := hm.1 z hz; rw [hi] at this; simp at this
      · exact hz'
def dless (x y : List UInt8) : Bool := less (P.digest x) (P.digest y)
theorem dless_irr (x : List UInt8) : dless x x = false := less_irr _
theorem dless_trans (x y z : List UInt8) (h1 : dless x y = true) (h2 : dless y z = true) : dless x z = true := less_trans _ _ _ h1 h2
theorem clash_not (A : List (List UInt8)) (x : List UInt8) : clashP A x = false ↔ ∀ y ∈ A, P.digest y = P.digest x → y = x := by
  simp only [clashP, List.any_eq_false, Bool.and_eq_true, beq_iff_eq, Bool.not_eq_true', beq_eq_false_iff_ne]
  constructor
  · intro h y hy e
    exact Classical.byContradiction fun hne => h y hy ⟨e, hne⟩
  · intro h y hy ⟨e, hne⟩
    exact hne (h y hy e)
theorem outG_spec (A : List (List UInt8)) : ∀ f last, beyond A last < f →
    (outG A f last = none ∧ ∃ x ∈ A, ∃ y ∈ A, P.digest x = P.digest y ∧ x ≠ y) ∨
    (∃ out, outG A f last = some out ∧ out.Pairwise (fun x y => dless x y = true) ∧ (∀ x, x ∈ out ↔ x ∈ A ∧ less last (P.digest x) = true) ∧ ∀ x ∈ A, ∀ y ∈ A, less last (P.digest x) = true → P.digest x = P.digest y → x = y)
  | 0, _, h => absurd h (by omega)
  | f + 1, last, hf => by
    simp only [outG]
    rcases nxtTo_spec A last A.length with ⟨h0, h1⟩ | ⟨b, hb, h0, h1, h2⟩
    · right
      have hneg : nxtD A last < 0 := by unfold nxtD; omega
      rw [if_pos hneg]
      have key : ∀ x ∈ A, less last (P.digest x) = false := by
        intro x hx
        obtain ⟨i, hi, rfl⟩ := List.getElem_of_mem hx
        have := h1 i hi
        rwa [List.getD_eq_getElem?_getD, List.getElem?_eq_getElem hi] at this
      refine ⟨[], rfl, by simp, fun x => ?_, fun x hx y hy hl => ?_⟩
      · simp
        intro hx; rw [key x hx]
      · rw [key x hx] at hl; simp at hl
    · have hd : nxtD A last = (b : Int) := h0
      have hneg : ¬ nxtD A last < 0 := by omega
      rw [if_neg hneg, hd, Int.toNat_natCast]
      have e : A.getD b [] = A[b] := by rw [List.getD_eq_getElem?_getD, List.getElem?_eq_getElem hb]; rfl
      have hby := beyond_lt A last b hb h1
      rw [e] at h1 h2 hby ⊢
      have hmin : ∀ x ∈ A, less last (P.digest x) = true → less (P.digest x) (P.digest A[b]) = false := by
        intro x hx hl
        obtain ⟨i, hi, rfl⟩ := List.getElem_of_mem hx
        have := h2 i hi
        rw [List.getD_eq_getElem?_getD, List.getElem?_eq_getElem hi] at this
        exact this hl
      have hbm : A[b] ∈ A := List.getElem_mem hb
      cases hc : clashP A A[b] with
      | true =>
        left
        rw [if_pos rfl]
        refine ⟨rfl, ?_⟩
        simp only [clashP, List.any_eq_true, Bool.and_eq_true, beq_iff_eq, Bool.not_eq_true', beq_eq_false_iff_ne] at hc
        obtain ⟨y, hy, hyd, hne⟩ := hc
        exact ⟨y, hy, A[b], hbm, hyd, hne⟩
      | false =>
        rw [clash_not] at hc
        rw [if_neg (by simp)]
        rcases outG_spec A f (P.digest A[b]) (by omega) with ⟨hn, hx⟩ | ⟨out, ho, hs, hm, hu⟩
        · left
          rw [hn]; exact ⟨rfl, hx⟩
        · right
          rw [ho]
          refine ⟨A[b] :: out, rfl, ?_, fun x => ?_, fun x hx y hy hl hxy => ?_⟩
          · rw [List.pairwise_cons]
            exact ⟨fun x hx => ((hm x).1 hx).2, hs⟩
          · rw [List.mem_cons, hm]
            constructor
            · rintro (rfl | ⟨hx, hl⟩)
              · exact ⟨hbm, h1⟩
              · exact ⟨hx, less_trans _ _ _ h1 hl⟩
            · rintro ⟨hx, hl⟩
              cases hlt : less (P.digest A[b]) (P.digest x) with
              | true => right; exact ⟨hx, rfl⟩
              | false => left; exact hc x hx (less_tri _ _ (hmin x hx hl) hlt)
          · cases hlt : less (P.digest A[b]) (P.digest x) with
            | true => exact hu x hx y hy hlt hxy
            | false =>
              have ex := hc x hx (less_tri _ _ (hmin x hx hl) hlt)
              have ey := hc y hy (by rw [← hxy, ex])
              rw [ex, ey]
theorem digest_pos (x : List UInt8) : less [] (P.digest x) = true := by simp [P.digest, P.three, less, Op.bytesLess]
/-- THE BLOBS: a clash, or all of them, each once, by rising digests -/
theorem outs_spec (A : List (List UInt8)) :
    (outsP A = none ∧ ∃ x ∈ A, ∃ y ∈ A, P.digest x = P.digest y ∧ x ≠ y) ∨
    (∃ out, outsP A = some out ∧ out.Pairwise (fun x y => dless x y = true) ∧ (∀ x, x ∈ out ↔ x ∈ A) ∧ ∀ x ∈ A, ∀ y ∈ A, P.digest x = P.digest y → x = y) := by
  rcases outG_spec A (A.length + 1) [] (by have := beyond_le A []; omega) with h | ⟨out, ho, hs, hm, hu⟩
  · exact .inl h
  · exact .inr ⟨out, ho, hs, fun x => by rw [hm]; simp [digest_pos], fun x hx y hy => hu x hx y hy (digest_pos x)⟩
/-- so: whoever lists them in order has them -/
theorem outs_of (A out : List (List UInt8)) (hs : out.Pairwise (fun x y => dless x y = true)) (hm : ∀ x, x ∈ out ↔ x ∈ A) (hu : ∀ x ∈ A, ∀ y ∈ A, P.digest x = P.digest y → x = y) : outsP A = some out := by
  rcases outs_spec A with ⟨_, x, hx, y, hy, e, hne⟩ | ⟨o, ho, hs2, hm2, _⟩
  · exact absurd (hu x hx y hy e) hne
  · rw [ho, order_one dless dless_irr dless_trans o out hs2 hs (fun x => by rw [hm2, hm])]
theorem outs_none (A : List (List UInt8)) (x y : List UInt8) (hx : x ∈ A) (hy : y ∈ A) (e : P.digest x = P.digest y) (hne : x ≠ y) : outsP A = none := by
  rcases outs_spec A with ⟨h, _⟩ | ⟨o, _, _, _, hu⟩
  · exact h
  · exact absurd (hu x hx y hy e) hne
theorem findP_at (l : List En) (i j : Nat) (hj : j < l.length) (h : findP l l[j].path.data.toList = (i : Int)) : i ≤ j := by
  unfold findP at h
  split at h
  · rename_i k hk
    rw [List.findIdx?_eq_some_iff_getElem] at hk
    obtain ⟨hk1, hk2, hk3⟩ := hk
    obtain rfl : k = i := by omega
    rcases Nat.lt_or_ge j k with hlt | hge
    · exact absurd (by simp) (hk3 j hlt)
    · exact hge
  · omega
theorem fineP_find (l : List En) (i : Nat) (h : i < l.length) (hf : fineP l i = true) : findP l l[i].path.data.toList = (i : Int) := by
  simp only [fineP, en_getD l i h, Bool.and_eq_true, beq_iff_eq] at hf
  exact hf.2
/-- no path twice -/
theorem tree_inj (l : List En) (ht : Tree l) (i j : Nat) (hi : i < l.length) (hj : j < l.length) (h : l[i].path.data.toList = l[j].path.data.toList) : i = j := by
  have h1 := fineP_find l i hi (ht.fine i hi)
  have h2 := fineP_find l j hj (ht.fine j hj)
  rw [h, h2] at h1
  omega
theorem insP_iff (l : List En) (ht : Tree l) (path : List UInt8) (i : Nat) : i ∈ insP l path ↔ ∃ h : i < l.length, ∃ n, kid path l[i].path.data.toList = some n := by
  constructor
  · intro h
    obtain ⟨h1, h2⟩ := insP_mem h
    rw [en_getD l i h1] at h2
    exact ⟨h1, _, h2⟩
  · rintro ⟨h, n, hn⟩
    obtain ⟨j, hj, e⟩ := insP_all h hn
    obtain ⟨hjl, hjk⟩ := insP_mem hj
    rw [en_getD l j hjl, e] at hjk
    have h1 := (kid_some hn).1
    have h2 := (kid_some hjk).1
    rwa [tree_inj l ht i j h hjl (by rw [h1, h2])]
/-- whoever lists what is in a directory in order has it -/
theorem insP_of (l : List En) (ht : Tree l) (path : List UInt8) (L : List Nat) (hs : L.Pairwise (fun i j => less (nm l path i) (nm l path j) = true)) (hm : ∀ i, i ∈ L ↔ ∃ h : i < l.length, ∃ n, kid path l[i].path.data.toList = some n) : L = insP l path :=
  order_one (fun i j => less (nm l path i) (nm l path j)) (fun _ => less_irr _) (fun _ _ _ => less_trans _ _ _) L (insP l path) hs (insG_sorted l path _ _) (fun i => by rw [hm, insP_iff l ht])
/-- the fuel does not matter -/
theorem blob_fuel (l : List En) (ht : Tree l) : ∀ f g path, dep path ≤ 5 → 6 ≤ dep path + f → 6 ≤ dep path + g → blobP l f path = blobP l g path
  | 0, _, _, h5, h6, _ => by omega
  | _ + 1, 0, _, h5, _, h6 => by omega
  | f + 1, g + 1, path, h5, h6, h7 => by
    simp only [blobP, itemsP]
    congr 1
    refine List.map_congr_left fun i hi => ?_
    obtain ⟨hd, hd5⟩ := dep_next l ht path i hi
    have := blob_fuel l ht f g ((l.getD i en0).path.data.toList ++ [47]) (by omega) (by omega) (by omega)
    simp only [itemP, this]
end Go.Proofs.YtjmacegibchplaaGreatDoor
