/-
  What stands in a directory, sorted by paths; what has been gone through before a directory. Plain lists, no walk.
-/
import Derived.Test.YtjmacegibchplaaGreatDoorWalkP
namespace Go.Proofs.YtjmacegibchplaaGreatDoor
set_option linter.unusedVariables false

theorem less_pre (p a b : List UInt8) : less (p ++ a) (p ++ b) = less a b := by
  induction p with
  | nil => rfl
  | cons c p ih => rw [List.cons_append, List.cons_append, less_cons, ih]; simp
def inDir (l : List En) (d : List UInt8) : List En := l.filter fun e => upPath e.path.data.toList == d
theorem mem_inDir (l : List En) (ht : Tree l) (d : List UInt8) (e : En) : e ∈ inDir l d ↔ e ∈ (kidsP l d).map (fun i => l.getD i en0) := by
  unfold inDir
  simp only [List.mem_filter, List.mem_map, beq_iff_eq]
  constructor
  · rintro ⟨hm, hu⟩
    obtain ⟨i, hi, rfl⟩ := List.getElem_of_mem hm
    refine ⟨i, (kids_iff l ht d i).2 ⟨hi, ?_⟩, en_getD l i hi⟩
    unfold upAt pathAt; rw [en_getD l i hi]; exact hu
  · rintro ⟨i, hi, rfl⟩
    obtain ⟨h1, h2⟩ := (kids_iff l ht d i).1 hi
    exact ⟨by rw [en_getD l i h1]; exact List.getElem_mem h1, h2⟩
theorem path_once (l : List En) (ht : Tree l) : l.Pairwise (fun x y => x.path.data.toList ≠ y.path.data.toList) := by
  rw [List.pairwise_iff_getElem]
  intro i j hi hj hij e
  have := tree_inj l ht i j hi hj e
  omega
theorem sorted_kids (l : List En) (ht : Tree l) (d : List UInt8) (ys : List En) (hp : ys.Perm (inDir l d)) (hs : ys.Pairwise (fun x y => less y.path.data.toList x.path.data.toList = false)) : ys = (kidsP l d).map (fun i => l.getD i en0) := by
  have hne : ys.Pairwise (fun x y => x.path.data.toList ≠ y.path.data.toList) :=
    (hp.pairwise_iff (fun h => Ne.symm h)).2 ((path_once l ht).sublist List.filter_sublist)
  have hst : ys.Pairwise (fun x y => less x.path.data.toList y.path.data.toList = true) := by
    refine (hs.and hne).imp ?_
    rintro x y ⟨h1, h2⟩
    cases h : less x.path.data.toList y.path.data.toList with
    | true => rfl
    | false => exact absurd (less_tri _ _ h h1) h2
  have hk : ((kidsP l d).map (fun i => l.getD i en0)).Pairwise (fun x y => less x.path.data.toList y.path.data.toList = true) := by
    rw [List.pairwise_map]
    have h0 := insG_sorted l (pre d) (l.length + 1) []
    refine List.Pairwise.imp_of_mem ?_ h0
    intro i j hi hj hij
    obtain ⟨hi1, hi2⟩ := (kids_iff l ht d i).1 hi
    obtain ⟨hj1, hj2⟩ := (kids_iff l ht d j).1 hj
    have ei := path_pre l ht i hi1
    have ej := path_pre l ht j hj1
    have ni := nm_up l ht i hi1
    have nj := nm_up l ht j hj1
    rw [hi2] at ei ni
    rw [hj2] at ej nj
    rw [ni, nj] at hij
    show less (pathAt l i) (pathAt l j) = true
    generalize nameOf (pathAt l i) = a at *
    generalize nameOf (pathAt l j) = b at *
    rw [ei, ej, less_pre]; exact hij
  refine order_one (fun x y : En => less x.path.data.toList y.path.data.toList) (fun _ => less_irr _) (fun _ _ _ => less_trans _ _ _) ys _ hst hk (fun x => ?_)
  rw [hp.mem_iff, mem_inDir l ht]
theorem inDir_snoc (l : List En) (x : En) : inDir (l ++ [x]) = fun d => if d = upPath x.path.data.toList then inDir l (upPath x.path.data.toList) ++ [x] else inDir l d := by
  funext d
  unfold inDir
  rw [List.filter_append]
  by_cases h : d = upPath x.path.data.toList
  · rw [if_pos h, h]; simp
  · rw [if_neg h]
    have : ¬ upPath x.path.data.toList = d := fun e => h e.symm
    simp [this]
theorem inDir_len (l : List En) (d : List UInt8) : (inDir l d).length ≤ l.length := List.length_filter_le _ _
/-- before the k-th of a directory: nothing of what stands below it -/
theorem before_kid (l : List En) (ht : Tree l) (f : Nat) (d : List UInt8) (done : List Nat) (hd : ∀ j ∈ done, ¬ Under d (upAt l j)) (k : Nat) (hk : k < (kidsP l d).length) :
    ∀ j ∈ done ++ ((kidsP l d).take k).flatMap (blk l f), ¬ Under (pathAt l (kidsP l d)[k]) (upAt l j) := by
  have hm := List.getElem_mem hk
  intro j hj hu
  rcases List.mem_append.1 hj with hj | hj
  · exact hd j hj (under_kid l ht d _ _ hm hu)
  · simp only [List.mem_flatMap, blk, List.mem_append, List.mem_singleton] at hj
    obtain ⟨i, hi, hji⟩ := hj
    have hiK := List.mem_of_mem_take hi
    rcases hji with hji | rfl
    · split at hji
      · have h2 := (walk_lt l ht f _ j hji).2
        have e := under_apart l ht d _ _ i hm hiK hu h2
        obtain ⟨m, hmk, hmi⟩ := List.getElem_of_mem hi
        rw [List.length_take] at hmk
        rw [List.getElem_take] at hmi
        have hnd : (kidsP l d).Pairwise (fun i j => i ≠ j) := by
          refine (insG_sorted l (pre d) (l.length + 1) []).imp ?_
          intro a b hab e
          subst e
          rw [less_irr] at hab; simp at hab
        rw [List.pairwise_iff_getElem] at hnd
        exact hnd m k (by omega) hk (by omega) (hmi.trans e.symm)
      · simp at hji
    · have h2 := ((kids_iff l ht d j).1 hiK).2
      exact under_len l ht d _ hm _ hu h2
theorem filter_before (l : List En) (ht : Tree l) (f : Nat) (p : List UInt8) (done : List Nat) (h : ∀ j ∈ done, ¬ Under p (upAt l j)) : (done ++ walkP l (f + 1) p).filter (fun j => upAt l j == p) = kidsP l p := by
  rw [List.filter_append, walk_filter l ht]
  have : done.filter (fun j => upAt l j == p) = [] := by
    rw [List.filter_eq_nil_iff]
    intro j hj
    have := h j hj
    simp only [beq_iff_eq]
    intro e
    exact this (by rw [e]; exact under_self p)
  rw [this]; rfl
/-- how much is gone through at the most -/
def wb : Nat → Nat
  | 0 => 0
  | f + 1 => 40 * (wb f + 1)
theorem flat_len {α β : Type} (g : α → List β) (m : Nat) : ∀ (L : List α), (∀ x ∈ L, (g x).length ≤ m) → (L.flatMap g).length ≤ L.length * m
  | [], _ => by simp
  | x :: L, h => by
    have h1 := h x (by simp)
    have h2 := flat_len g m L (fun y hy => h y (by simp [hy]))
    rw [List.flatMap_cons, List.length_append, List.length_cons, Nat.add_mul]
    omega
theorem walk_len (l : List En) (ht : Tree l) : ∀ f d, (walkP l f d).length ≤ wb f
  | 0, _ => by simp [walkP]
  | f + 1, d => by
    rw [walk_succ]
    have h := flat_len (blk l f) (wb f + 1) (kidsP l d) (fun i _ => by
      unfold blk
      rw [List.length_append]
      have := walk_len l ht f (pathAt l i)
      split
      · simp; omega
      · simp)
    have h2 := insP_len l (pre d)
    have h3 := ht.len
    have h4 : (kidsP l d).length ≤ 40 := Nat.le_trans h2 h3
    exact Nat.le_trans h (Nat.mul_le_mul_right _ h4)
theorem blk_len (l : List En) (ht : Tree l) (f i : Nat) : (blk l f i).length ≤ wb f + 1 := by
  unfold blk
  rw [List.length_append]
  have := walk_len l ht f (pathAt l i)
  split
  · simp; omega
  · simp
theorem take_len (l : List En) (ht : Tree l) (f : Nat) (K : List Nat) (hK : K.length ≤ 40) (j : Nat) (hj : j < K.length) : ((K.take j).flatMap (blk l f)).length + (wb f + 1) ≤ wb (f + 1) := by
  have h := flat_len (blk l f) (wb f + 1) (K.take j) (fun i _ => blk_len l ht f i)
  rw [List.length_take, Nat.min_eq_left (by omega)] at h
  have h2 : (j + 1) * (wb f + 1) ≤ 40 * (wb f + 1) := Nat.mul_le_mul_right _ (by omega)
  rw [Nat.add_mul, Nat.one_mul] at h2
  show _ ≤ 40 * (wb f + 1)
  omega
end Go.Proofs.YtjmacegibchplaaGreatDoor
