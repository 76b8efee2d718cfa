import Derived.Test.YtjmacegibchplaaGreatDoorTreeR
import Derived.Lib.SplitLaws
import Derived.Lib.LastIndexByte
/-
  The blobs of a tree by rising digests: plain lists. No walk.
-/
namespace Go.Proofs.YtjmacegibchplaaGreatDoor
set_option linter.unusedVariables false
def partP (l : List En) (e : En) : List (List UInt8) :=
  if e.kind = 0 then [blobP l 6 (e.path.data.toList ++ [47])] else if e.kind = 1 ∨ e.kind = 2 then [e.data.data.toList] else []
def allTo (l : List En) (k : Nat) : List (List UInt8) := blobP l 6 [] :: (l.take k).flatMap (partP l)
def allP (l : List En) : List (List UInt8) := allTo l l.length
theorem allTo_succ (l : List En) (k : Nat) (h : k < l.length) : allTo l (k + 1) = allTo l k ++ partP l l[k] := by
  unfold allTo; rw [List.take_succ_eq_append_getElem h, List.flatMap_append]; simp
theorem partP_len (l : List En) (e : En) : (partP l e).length ≤ 1 := by 
  unfold partP
  split
  · simp
  · split <;> simp
theorem allTo_len (l : List En) : ∀ k, k ≤ l.length → (allTo l k).length ≤ k + 1
  | 0, _ => by simp [allTo]
  | k + 1, h => by
    have := allTo_len l k (by omega)
    have := partP_len l l[k]
    rw [allTo_succ l k (by omega), List.length_append]; omega
def stepD (all : List (List UInt8)) (last : List UInt8) (best : Int) (i : Nat) : Int :=
  if less last (P.digest (all.getD i [])) && (decide (best < 0) || less (P.digest (all.getD i [])) (P.digest (all.getD best.toNat []))) then (i : Int) else best
def nxtTo (all : List (List UInt8)) (last : List UInt8) : Nat → Int
  | 0 => -1
  | k + 1 => stepD all last (nxtTo all last k) k
def nxtD (all : List (List UInt8)) (last : List UInt8) : Int := nxtTo all last all.length
theorem nxtTo_spec (all : List (List UInt8)) (last : List UInt8) : ∀ k,
    (nxtTo all last k = -1 ∧ ∀ i, i < k → less last (P.digest (all.getD i [])) = false) ∨
    (∃ b : Nat, b < k ∧ nxtTo all last k = b ∧ less last (P.digest (all.getD b [])) = true ∧ ∀ i, i < k → less last (P.digest (all.getD i [])) = true → less (P.digest (all.getD i [])) (P.digest (all.getD b [])) = false)
  | 0 => .inl ⟨rfl, fun i h => absurd h (by omega)⟩
  | k + 1 => by
    simp only [nxtTo, stepD]
    rcases nxtTo_spec all last k with ⟨h0, h1⟩ | ⟨b, hb, h0, h1, h2⟩
    · rw [h0]
      cases hl : less last (P.digest (all.getD k [])) with
      | false =>
        left
        refine ⟨by simp, fun i hi => ?_⟩
        rcases Nat.lt_or_ge i k with h | h
        · exact h1 i h
        · obtain rfl : i = k := by omega
          exact hl
      | true =>
        right
        refine ⟨k, by omega, by simp, hl, fun i hi hli => ?_⟩
        rcases Nat.lt_or_ge i k with h | h
        · rw [h1 i h] at hli; simp at hli
        · obtain rfl : i = k := by omega
          exact less_irr _
    · rw [h0]
      cases hl : (less last (P.digest (all.getD k [])) && (decide ((b : Int) < 0) || less (P.digest (all.getD k [])) (P.digest (all.getD (b : Int).toNat [])))) with
      | false =>
        right
        refine ⟨b, by omega, by simp, h1, fun i hi hli => ?_⟩
        rcases Nat.lt_or_ge i k with h | h
        · exact h2 i h hli
        · obtain rfl : i = k := by omega
          rw [hli] at hl
          simp only [Bool.true_and, Bool.or_eq_false_iff, Int.toNat_natCast] at hl
          exact hl.2
      | true =>
        simp only [Bool.and_eq_true, Bool.or_eq_true, decide_eq_true_eq, Int.toNat_natCast] at hl
        have hlt : less (P.digest (all.getD k [])) (P.digest (all.getD b [])) = true := by
          rcases hl.2 with h | h
          · omega
          · exact h
        right
        refine ⟨k, by omega, by simp, hl.1, fun i hi hli => ?_⟩
        rcases Nat.lt_or_ge i k with h | h
        · cases hx : less (P.digest (all.getD i [])) (P.digest (all.getD k [])) with
          | false => rfl
          | true => have := less_trans _ _ _ hx hlt; rw [h2 i h hli] at this; simp at this
        · obtain rfl : i = k := by omega
          exact less_irr _
def beyond (all : List (List UInt8)) (last : List UInt8) : Nat := (all.filter fun y => less last (P.digest y)).length
theorem beyond_le (all : List (List UInt8)) (last : List UInt8) : beyond all last ≤ all.length := List.length_filter_le _ _
theorem beyond_lt (all : List (List UInt8)) (last : List UInt8) (b : Nat) (h : b < all.length) (hl : less last (P.digest (all.getD b [])) = true) : beyond all (P.digest (all.getD b [])) < beyond all last := by
  have e : all.getD b [] = all[b] := by rw [List.getD_eq_getElem?_getD, List.getElem?_eq_getElem h]; rfl
  exact filter_lt _ _ (fun x hx => less_trans _ _ _ hl hx) all ⟨all[b], List.getElem_mem h, by rw [← e]; exact hl, by rw [← e]; exact less_irr _⟩
def clashP (all : List (List UInt8)) (x : List UInt8) : Bool := all.any fun y => P.digest y == P.digest x && !(y == x)
def outG (all : List (List UInt8)) : Nat → List UInt8 → Option (List (List UInt8))
  | 0, _ => some []
  | f + 1, last => if nxtD all last < 0 then some [] else
      if clashP all (all.getD (nxtD all last).toNat []) then none else (outG all f (P.digest (all.getD (nxtD all last).toNat []))).map (all.getD (nxtD all last).toNat [] :: ·)
def outsP (all : List (List UInt8)) : Option (List (List UInt8)) := outG all (all.length + 1) []
def builtP (l : List En) : Option (List (List UInt8)) := outsP (allP l)
end Go.Proofs.YtjmacegibchplaaGreatDoor

/-
  What the blobs by rising digests are; lists in order are told by what is in them. Plain lists, no walk.
-/
namespace Go.Proofs.YtjmacegibchplaaGreatDoor
set_option linter.unusedVariables false
theorem order_one {α : Type} (r : α → α → Bool) (hi : ∀ x, r x x = false) (ht : ∀ x y z, r x y = true → r y z = true → r x z = true) : ∀ (l m : List α), l.Pairwise (fun x y => r x y = true) → m.Pairwise (fun x y => r x y = true) → (∀ x, x ∈ l ↔ x ∈ m) → l = m
  | [], [], _, _, _ => rfl
  | [], y :: m, _, _, h => absurd ((h y).2 (by simp)) (by simp)
  | x :: l, [], _, _, h => absurd ((h x).1 (by simp)) (by simp)
  | x :: l, y :: m, hl, hm, h => by
    rw [List.pairwise_cons] at hl hm
    have hxy : x = y := by
      rcases List.mem_cons.1 ((h x).1 (by simp)) with e | hx
      · exact e
      · rcases List.mem_cons.1 ((h y).2 (by simp)) with e | hy
        · exact e.symm
        · have := ht _ _ _ (hl.1 y hy) (hm.1 x hx)
          rw [hi] at this; simp at this
    subst hxy
    rw [order_one r hi ht l m hl.2 hm.2 (fun z => ?_)]
    constructor
    · intro hz
      rcases List.mem_cons.1 ((h z).1 (by simp [hz])) with e | hz'
      · subst e; have := hl.1 z hz; rw [hi] at this; simp at this
      · exact hz'
    · intro hz
      rcases List.mem_cons.1 ((h z).2 (by simp [hz])) with e | hz'
      · subst e; have := hm.1 z hz; rw [hi] at this; simp at this
      · exact hz'
def dless (x y : List UInt8) : Bool := less (P.digest x) (P.digest y)
theorem dless_irr (x : List UInt8) : dless x x = false := less_irr _
theorem dless_trans (x y z : List UInt8) (h1 : dless x y = true) (h2 : dless y z = true) : dless x z = true := less_trans _ _ _ h1 h2
theorem clash_not (A : List (List UInt8)) (x : List UInt8) : clashP A x = false ↔ ∀ y ∈ A, P.digest y = P.digest x → y = x := by
  simp only [clashP, List.any_eq_false, Bool.and_eq_true, beq_iff_eq, Bool.not_eq_true', beq_eq_false_iff_ne]
  constructor
  · intro h y hy e
    exact Classical.byContradiction fun hne => h y hy ⟨e, hne⟩
  · intro h y hy ⟨e, hne⟩
    exact hne (h y hy e)
theorem outG_spec (A : List (List UInt8)) : ∀ f last, beyond A last < f →
    (outG A f last = none ∧ ∃ x ∈ A, ∃ y ∈ A, P.digest x = P.digest y ∧ x ≠ y) ∨
    (∃ out, outG A f last = some out ∧ out.Pairwise (fun x y => dless x y = true) ∧ (∀ x, x ∈ out ↔ x ∈ A ∧ less last (P.digest x) = true) ∧ ∀ x ∈ A, ∀ y ∈ A, less last (P.digest x) = true → P.digest x = P.digest y → x = y)
  | 0, _, h => absurd h (by omega)
  | f + 1, last, hf => by
    simp only [outG]
    rcases nxtTo_spec A last A.length with ⟨h0, h1⟩ | ⟨b, hb, h0, h1, h2⟩
    · right
      have hneg : nxtD A last < 0 := by unfold nxtD; omega
      rw [if_pos hneg]
      have key : ∀ x ∈ A, less last (P.digest x) = false := by
        intro x hx
        obtain ⟨i, hi, rfl⟩ := List.getElem_of_mem hx
        have := h1 i hi
        rwa [List.getD_eq_getElem?_getD, List.getElem?_eq_getElem hi] at this
      refine ⟨[], rfl, by simp, fun x => ?_, fun x hx y hy hl => ?_⟩
      · simp
        intro hx; rw [key x hx]
      · rw [key x hx] at hl; simp at hl
    · have hd : nxtD A last = (b : Int) := h0
      have hneg : ¬ nxtD A last < 0 := by omega
      rw [if_neg hneg, hd, Int.toNat_natCast]
      have e : A.getD b [] = A[b] := by rw [List.getD_eq_getElem?_getD, List.getElem?_eq_getElem hb]; rfl
      have hby := beyond_lt A last b hb h1
      rw [e] at h1 h2 hby ⊢
      have hmin : ∀ x ∈ A, less last (P.digest x) = true → less (P.digest x) (P.digest A[b]) = false := by
        intro x hx hl
        obtain ⟨i, hi, rfl⟩ := List.getElem_of_mem hx
        have := h2 i hi
        rw [List.getD_eq_getElem?_getD, List.getElem?_eq_getElem hi] at this
        exact this hl
      have hbm : A[b] ∈ A := List.getElem_mem hb
      cases hc : clashP A A[b] with
      | true =>
        left
        rw [if_pos rfl]
        refine ⟨rfl, ?_⟩
        simp only [clashP, List.any_eq_true, Bool.and_eq_true, beq_iff_eq, Bool.not_eq_true', beq_eq_false_iff_ne] at hc
        obtain ⟨y, hy, hyd, hne⟩ := hc
        exact ⟨y, hy, A[b], hbm, hyd, hne⟩
      | false =>
        rw [clash_not] at hc
        rw [if_neg (by simp)]
        rcases outG_spec A f (P.digest A[b]) (by omega) with ⟨hn, hx⟩ | ⟨out, ho, hs, hm, hu⟩
        · left
          rw [hn]; exact ⟨rfl, hx⟩
        · right
          rw [ho]
          refine ⟨A[b] :: out, rfl, ?_, fun x => ?_, fun x hx y hy hl hxy => ?_⟩
          · rw [List.pairwise_cons]
            exact ⟨fun x hx => ((hm x).1 hx).2, hs⟩
          · rw [List.mem_cons, hm]
            constructor
            · rintro (rfl | ⟨hx, hl⟩)
              · exact ⟨hbm, h1⟩
              · exact ⟨hx, less_trans _ _ _ h1 hl⟩
            · rintro ⟨hx, hl⟩
              cases hlt : less (P.digest A[b]) (P.digest x) with
              | true => right; exact ⟨hx, rfl⟩
              | false => left; exact hc x hx (less_tri _ _ (hmin x hx hl) hlt)
          · cases hlt : less (P.digest A[b]) (P.digest x) with
            | true => exact hu x hx y hy hlt hxy
            | false =>
              have ex := hc x hx (less_tri _ _ (hmin x hx hl) hlt)
              have ey := hc y hy (by rw [← hxy, ex])
              rw [ex, ey]
theorem digest_pos (x : List UInt8) : less [] (P.digest x) = true := by simp [P.digest, P.three, less, Op.bytesLess]
theorem outs_spec (A : List (List UInt8)) :
    (outsP A = none ∧ ∃ x ∈ A, ∃ y ∈ A, P.digest x = P.digest y ∧ x ≠ y) ∨
    (∃ out, outsP A = some out ∧ out.Pairwise (fun x y => dless x y = true) ∧ (∀ x, x ∈ out ↔ x ∈ A) ∧ ∀ x ∈ A, ∀ y ∈ A, P.digest x = P.digest y → x = y) := by
  rcases outG_spec A (A.length + 1) [] (by have := beyond_le A []; omega) with h | ⟨out, ho, hs, hm, hu⟩
  · exact .inl h
  · exact .inr ⟨out, ho, hs, fun x => by rw [hm]; simp [digest_pos], fun x hx y hy => hu x hx y hy (digest_pos x)⟩
theorem outs_of (A out : List (List UInt8)) (hs : out.Pairwise (fun x y => dless x y = true)) (hm : ∀ x, x ∈ out ↔ x ∈ A) (hu : ∀ x ∈ A, ∀ y ∈ A, P.digest x = P.digest y → x = y) : outsP A = some out := by
  rcases outs_spec A with ⟨_, x, hx, y, hy, e, hne⟩ | ⟨o, ho, hs2, hm2, _⟩
  · exact absurd (hu x hx y hy e) hne
  · rw [ho, order_one dless dless_irr dless_trans o out hs2 hs (fun x => by rw [hm2, hm])]
theorem outs_none (A : List (List UInt8)) (x y : List UInt8) (hx : x ∈ A) (hy : y ∈ A) (e : P.digest x = P.digest y) (hne : x ≠ y) : outsP A = none := by
  rcases outs_spec A with ⟨h, _⟩ | ⟨o, _, _, _, hu⟩
  · exact h
  · exact absurd (hu x hx y hy e) hne
theorem fineP_find (l : List En) (i : Nat) (h : i < l.length) (hf : fineP l i = true) : findP l l[i].path.data.toList = (i : Int) := by
  simp only [fineP, en_getD l i h, Bool.and_eq_true, beq_iff_eq] at hf
  exact hf.2
theorem tree_inj (l : List En) (ht : Tree l) (i j : Nat) (hi : i < l.length) (hj : j < l.length) (h : l[i].path.data.toList = l[j].path.data.toList) : i = j := by
  have h1 := fineP_find l i hi (ht.fine i hi)
  have h2 := fineP_find l j hj (ht.fine j hj)
  rw [h, h2] at h1
  omega
theorem insP_iff (l : List En) (ht : Tree l) (path : List UInt8) (i : Nat) : i ∈ insP l path ↔ ∃ h : i < l.length, ∃ n, kid path l[i].path.data.toList = some n := by
  constructor
  · intro h
    obtain ⟨h1, h2⟩ := insP_mem h
    rw [en_getD l i h1] at h2
    exact ⟨h1, _, h2⟩
  · rintro ⟨h, n, hn⟩
    obtain ⟨j, hj, e⟩ := insP_all h hn
    obtain ⟨hjl, hjk⟩ := insP_mem hj
    rw [en_getD l j hjl, e] at hjk
    have h1 := (kid_some hn).1
    have h2 := (kid_some hjk).1
    rwa [tree_inj l ht i j h hjl (by rw [h1, h2])]
theorem blob_fuel (l : List En) (ht : Tree l) : ∀ f g path, dep path ≤ 5 → 6 ≤ dep path + f → 6 ≤ dep path + g → blobP l f path = blobP l g path
  | 0, _, _, h5, h6, _ => by omega
  | _ + 1, 0, _, h5, _, h6 => by omega
  | f + 1, g + 1, path, h5, h6, h7 => by
    simp only [blobP, itemsP]
    congr 1
    refine List.map_congr_left fun i hi => ?_
    obtain ⟨hd, hd5⟩ := dep_next l ht path i hi
    have := blob_fuel l ht f g ((l.getD i en0).path.data.toList ++ [47]) (by omega) (by omega) (by omega)
    simp only [itemP, this]
end Go.Proofs.YtjmacegibchplaaGreatDoor

/-
  Paths: a path parted at its last slash, texts cut at each slash: the library's words and the document's. Plain lists, no walk.
-/
namespace Go.Proofs.YtjmacegibchplaaGreatDoor
set_option linter.unusedVariables false
theorem has_false {l : List UInt8} {c : UInt8} : P.has l c = false ↔ c ∉ l := by
  induction l with
  | nil => simp [P.has]
  | cons b l ih =>
    simp only [P.has, List.mem_cons]
    by_cases e : b = c
    · subst e; simp
    · have : ¬ c = b := fun h => e h.symm
      simp [e, this, ih]
theorem last_slash : ∀ (p : List UInt8), P.has p 47 = true → ∃ a n, p = a ++ 47 :: n ∧ P.has n 47 = false
  | [], h => by simp [P.has] at h
  | c :: p, h => by
    cases hp : P.has p 47 with
    | true =>
      obtain ⟨a, n, rfl, hn⟩ := last_slash p hp
      exact ⟨c :: a, n, rfl, hn⟩
    | false =>
      simp only [P.has, hp] at h
      have hc : c = 47 := by
        by_cases e : c = 47
        · exact e
        · simp [e] at h
      subst hc
      exact ⟨[], p, rfl, hp⟩
def nameOf (p : List UInt8) : List UInt8 := (sp p).getLastD []
theorem cut_none {p : List UInt8} (h : P.has p 47 = false) : sp p = [p] ∧ upPath p = [] ∧ nameOf p = p := by
  have e := sp_end p h
  refine ⟨e, ?_, by simp [nameOf, e]⟩
  unfold upPath
  rw [e]
  simp
theorem cut_some (a n : List UInt8) (h : P.has n 47 = false) : sp (a ++ 47 :: n) = sp a ++ [n] ∧ upPath (a ++ 47 :: n) = a ∧ nameOf (a ++ 47 :: n) = n := by
  have e : sp (a ++ 47 :: n) = sp a ++ [n] := by rw [sp_app, sp_end n h]
  refine ⟨e, ?_, by simp [nameOf, e]⟩
  unfold upPath
  rw [e]
  simp only [List.getLastD_concat, List.length_append, List.length_cons]
  rw [show a.length + (n.length + 1) - n.length - 1 = a.length by omega, List.take_left]
theorem cut_cases (p : List UInt8) : (P.has p 47 = false ∧ sp p = [p] ∧ upPath p = [] ∧ nameOf p = p) ∨ (∃ a n, p = a ++ 47 :: n ∧ P.has n 47 = false ∧ sp p = sp a ++ [n] ∧ upPath p = a ∧ nameOf p = n) := by
  cases h : P.has p 47 with
  | false => exact .inl ⟨rfl, cut_none h⟩
  | true =>
    obtain ⟨a, n, rfl, hn⟩ := last_slash p h
    exact .inr ⟨a, n, rfl, hn, cut_some a n hn⟩
theorem name_no (p : List UInt8) : P.has (nameOf p) 47 = false := by
  rcases cut_cases p with ⟨h, _, _, e⟩ | ⟨a, n, rfl, h, _, _, e⟩
  · rw [e]; exact h
  · rw [e]; exact h
theorem last_index (p : List UInt8) : (P.has p 47 = false ∧ Lib.lastIndexByte (bs p) 47 = -1) ∨ (P.has p 47 = true ∧ Lib.lastIndexByte (bs p) 47 = ((upPath p).length : Int) ∧ p = upPath p ++ 47 :: nameOf p) := by
  have hget : ∀ j (h : j < p.length), (bs p).data[j]! = p[j] := by
    intro j h
    have : j < (bs p).data.size := by simpa [bs] using h
    rw [getElem!_pos (bs p).data j this]
    simp [bs]
  rcases Lib.lastIndexByte_spec (bs p) 47 with ⟨h1, h2⟩ | ⟨i, hi, h1, h2, h3⟩
  · left
    refine ⟨has_false.2 fun hm => ?_, h1⟩
    obtain ⟨j, hj, e⟩ := List.getElem_of_mem hm
    have := h2 j (by rw [bs_size]; exact hj)
    rw [hget j hj, e] at this
    exact this rfl
  · right
    rw [bs_size] at hi h3
    rw [hget i hi] at h2
    have h47 : p[i] = 47 := UInt8.toNat_inj.1 (by have : ((p[i]).toNat : Int) = 47 := h2; have : (p[i]).toNat = 47 := by omega
                                                  rw [this]; rfl)
    have hp : p = p.take i ++ 47 :: p.drop (i + 1) := by
      rw [← h47, ← List.drop_eq_getElem_cons hi, List.take_append_drop]
    have hn : P.has (p.drop (i + 1)) 47 = false := has_false.2 fun hm => by
      obtain ⟨j, hj, e⟩ := List.getElem_of_mem hm
      rw [List.getElem_drop] at e
      rw [List.length_drop] at hj
      have := h3 (i + 1 + j) (by omega) (by omega)
      rw [hget _ (by omega), e] at this
      exact this rfl
    obtain ⟨_, e2, e3⟩ := cut_some (p.take i) (p.drop (i + 1)) hn
    rw [← hp] at e2 e3
    refine ⟨?_, ?_, by rw [e2, e3]; exact hp⟩
    · cases hh : P.has p 47 with
      | true => rfl
      | false => exact absurd (List.getElem_mem hi) (by rw [h47]; exact has_false.1 hh)
    · rw [h1, e2]; simp; omega
theorem index_none : ∀ (s : List UInt8), P.has s 47 = false → Lib.index s [47] = -1
  | [], _ => by simp [Lib.index]
  | c :: s, h => by
    have h' := has_false.1 h
    simp only [List.mem_cons, not_or] at h'
    rw [Lib.index, index_none s (has_false.2 h'.2)]
    simp [List.isPrefixOf, h'.1]
theorem index_some : ∀ (a r : List UInt8), P.has a 47 = false → Lib.index (a ++ 47 :: r) [47] = (a.length : Int)
  | [], r, _ => by rw [List.nil_append, Lib.index]; simp [List.isPrefixOf]
  | c :: a, r, h => by
    have h' := has_false.1 h
    simp only [List.mem_cons, not_or] at h'
    rw [List.cons_append, Lib.index, index_some a r (has_false.2 h'.2)]
    have : ¬ ((a.length : Int) == -1) = true := by simp
    simp [List.isPrefixOf, h'.1]
theorem first_slash : ∀ (p : List UInt8), P.has p 47 = true → ∃ a r, p = a ++ 47 :: r ∧ P.has a 47 = false
  | [], h => by simp [P.has] at h
  | c :: p, h => by
    by_cases hc : c = 47
    · subst hc; exact ⟨[], p, rfl, rfl⟩
    · have hp : P.has p 47 = true := by simpa [P.has, hc] using h
      obtain ⟨a, r, rfl, ha⟩ := first_slash p hp
      exact ⟨c :: a, r, rfl, by simp [P.has, hc, ha]⟩
theorem splitK_sp : ∀ (k : Nat) (s : List UInt8), (Lib.splitK [47] 0 k s).length = min (k + 1) (sp s).length ∧ ((sp s).length ≤ k + 1 → Lib.splitK [47] 0 k s = sp s)
  | 0, s => by
    have hne := sp_ne s
    have hl : 0 < (sp s).length := List.length_pos_iff.2 hne
    refine ⟨by simp [Lib.splitK]; omega, fun h => ?_⟩
    cases hh : P.has s 47 with
    | false => simp [Lib.splitK, sp_end s hh]
    | true =>
      obtain ⟨a, r, rfl, ha⟩ := first_slash s hh
      rw [sp_slash a r ha] at h
      have := List.length_pos_iff.2 (sp_ne r)
      simp at h
      exact absurd h (sp_ne r)
  | k + 1, s => by
    cases hh : P.has s 47 with
    | false => simp [Lib.splitK, index_none s hh, sp_end s hh]
    | true =>
      obtain ⟨a, r, rfl, ha⟩ := first_slash s hh
      have hi := index_some a r ha
      obtain ⟨ih1, ih2⟩ := splitK_sp k r
      have hsp := sp_slash a r ha
      have e : Lib.splitK [47] 0 (k + 1) (a ++ 47 :: r) = a :: Lib.splitK [47] 0 k r := by
        simp only [Lib.splitK]
        rw [hi, if_neg (by simp)]
        simp
      rw [e, hsp]
      refine ⟨by simp [ih1], fun h => ?_⟩
      rw [ih2 (by simpa using h)]
theorem sp_count : ∀ (s : List UInt8), (sp s).length = s.count 47 + 1
  | [] => rfl
  | c :: s => by
    have ih := sp_count s
    simp only [sp]
    by_cases hc : c = 47
    · subst hc; simp [ih]
    · rw [if_neg hc, List.count_cons_of_ne (by simpa using hc)]
      split
      · rename_i e; rw [e] at ih; simp at ih
      · rename_i h t e; rw [e] at ih; simpa using ih
theorem prefix_slash (t : List UInt8) : Lib.hasPrefix t [47] = decide (t.head? = some 47) := by
  cases t with
  | nil => rfl
  | cons c t =>
    by_cases h : c = 47
    · subst h; simp [Lib.hasPrefix, List.isPrefixOf]
    · simp [Lib.hasPrefix, List.isPrefixOf, h, Ne.symm h]
end Go.Proofs.YtjmacegibchplaaGreatDoor
