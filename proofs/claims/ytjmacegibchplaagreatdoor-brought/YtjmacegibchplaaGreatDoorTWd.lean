import Derived.Test.YtjmacegibchplaaGreatDoorGrpV
import Derived.Test.YtjmacegibchplaaGreatDoorShelfB
import Derived.Sort.OwnSorted
import Derived.Shelf.SlSortCmp.NoneTotal
import Derived.Test.YtjmacegibchplaaGreatDoorFetR
/-
  The library's sort of a row of entries by their paths.
-/
namespace Go.Proofs.YtjmacegibchplaaGreatDoor
open Go.RowKit
set_option linter.unusedVariables false
theorem cmp_less : ∀ (a b : List UInt8), decide (Lib.compareBytes a b < 0) = less a b
  | [], [] => rfl
  | [], _ :: _ => rfl
  | _ :: _, [] => rfl
  | x :: a, y :: b => by
    have hc : Lib.compareBytes (x :: a) (y :: b) = if x < y then -1 else if y < x then 1 else Lib.compareBytes a b := rfl
    rw [less_cons, ← cmp_less a b, hc]
    by_cases h1 : x < y
    · simp [h1]
    · rw [if_neg h1]
      by_cases h2 : y < x
      · have : ¬ x = y := fun e => by subst e; exact h1 h2
        simp [h1, h2, this]
      · have : x = y := by
          have a1 := UInt8.not_lt.1 h1
          have a2 := UInt8.not_lt.1 h2
          exact UInt8.le_antisymm a2 a1
        subst this
        simp [h1]
def cmpE (x y : En) : Int := Lib.compareBytes x.path.data.toList y.path.data.toList
theorem lt_cmpE (x y : En) : ltOf cmpE x y = less x.path.data.toList y.path.data.toList := cmp_less _ _
theorem swoE : Sort.SWO (ltOf cmpE) where
  irrefl x := by rw [lt_cmpE]; exact less_irr _
  trans x y z h1 h2 := by rw [lt_cmpE] at *; exact less_trans _ _ _ h1 h2
  ntrans x y z h1 h2 := by
    rw [lt_cmpE] at *
    cases h : less x.path.data.toList z.path.data.toList with
    | false => rfl
    | true =>
      cases h3 : less y.path.data.toList x.path.data.toList with
      | true => rw [less_trans _ _ _ h3 h] at h2; simp at h2
      | false =>
        rw [less_tri _ _ h1 h3] at h
        rw [h] at h2; simp at h2
set_option maxHeartbeats 1000000 in
theorem byPath_any (x y : En) (W : World) :
    Calls Tryz.prog 150 #[.agg (enCells x).toArray, .agg (enCells y).toArray] W fun e w' => e = .returned (.int .i64 (cmpE x y)) ∧ ∃ q os', w' = Sort.grow (W.drewN q) os' := by
  have hc := fun w => Tryz.strings_Compare x.path y.path w
  obtain ⟨xp, xk, xd⟩ := x
  obtain ⟨yp, yk, yd⟩ := y
  unfold cmpE enCells
  simp only at hc ⊢
  generalize Lib.compareBytes xp.data.toList yp.data.toList = r at *
  go_enter Tryz.func150, Tryz.ntmps150
  go_wp2_with (go_at_call 185; refine (hc _).mono ?_; rintro e w' ⟨rfl, rfl⟩)
  go_ret
  exact ⟨rfl, 0, _, by rw [Sort.alloc_eq_grow, Sort.alloc_eq_grow, Sort.grow_grow]; rfl⟩
theorem flat_row [Inhabited En] (xs : List En) : Sort.flatK enCells 3 xs.toArray = (rowCells enCells xs).toArray := by
  have hl := rowCells_length (n := 3) enCells_len xs
  apply Array.ext
  · simp [hl]
  · intro t h1 h2
    have h1' : t < xs.length * 3 := by simpa using h1
    have h3 := Sort.get_flatK enCells 3 xs.toArray t (by simpa using h1')
    rw [getElem!_pos _ t h1] at h3
    rw [h3]
    have hq : t / 3 < xs.length := by omega
    have h4 := rowCells_at (n := 3) enCells_len xs (t / 3) hq (t % 3) (by omega)
    rw [show t / 3 * 3 + t % 3 = t by omega] at h4
    rw [getElem!_pos xs.toArray (t / 3) (by simpa using hq)]
    have h5 : t % 3 < (enCells xs[t / 3]).length := by rw [enCells_len]; omega
    rw [List.getElem_toArray, getElem!_pos (enCells xs[t / 3]) (t % 3) h5]
    rw [List.getElem?_eq_getElem (by rw [hl]; exact h1'), List.getElem?_eq_getElem h5] at h4
    rw [List.getElem_toArray]
    exact (Option.some.inj h4).symm
theorem heap_put {w : World} {g n : Nat} {os : Array Obj} {cur : Array Value} {e : TypeId} {fr : Nat × Nat} (d : Array Value) (hb : w.heap[g]? = some (.cells cur e fr)) :
    (Sort.grow (Sort.putRow id (Sort.ahead w n) g 0 d) os).heap[g]? = some (.cells (Sort.putCells id 0 d cur) e fr) := by
  have hg : g < w.heap.size := (Array.getElem?_eq_some_iff.1 hb).1
  rw [Sort.heap_grow_old _ _ (by simpa using hg)]
  simp [Sort.putRow, Sort.mapBlock, Sort.ahead, Array.getElem?_modify, hb, Sort.onCells]
theorem grown_put {w : World} {g n : Nat} {os : Array Obj} (d : Array Value) : w.grownBy (Sort.grow (Sort.putRow id (Sort.ahead w n) g 0 d) os) (some g) := by
  refine ⟨rfl, rfl, rfl, by simp, fun k hk hne => ?_⟩
  rw [Sort.heap_grow_old _ _ (by simpa using hk)]
  have : g ≠ k := fun e => hne (by rw [e])
  simp [Sort.putRow, Sort.mapBlock, Sort.ahead, Array.getElem?_modify, this]
theorem take_put (cur : Array Value) (ts : List Value) (h : ts.length ≤ cur.size) : (Sort.putCells id 0 ts.toArray cur).toList.take ts.length = ts := by
  apply List.ext_getElem?
  intro j
  by_cases hj : j < ts.length
  · rw [List.getElem?_take_of_lt hj, Array.getElem?_toList]
    simp [Sort.putCells, hj, show j < cur.size by omega]
  · rw [List.getElem?_take_eq_none (by omega), List.getElem?_eq_none (by omega)]
theorem under22 : Tryz.prog.underlying 22 = some (.slice 32) := by kernel_rfl
set_option maxHeartbeats 1000000 in
theorem sort_any (xs : List En) (v : Value) (w : World) (base : Nat) (hown : w.ownsRow base 32 3 v xs.length (rowCells enCells xs)) (hlen : xs.length ≤ 1000000) :
    Calls Tryz.prog 149 #[v, .func (.func 150) #[] #[]] w fun e w' => e = .returned (.tuple #[]) ∧
      ∃ ys : List En, ys.Perm xs ∧ ys.Pairwise (fun x y => less y.path.data.toList x.path.data.toList = false) ∧ w'.ownsRow base 32 3 v ys.length (rowCells enCells ys) ∧ w.grownBy w' v.ownBlock := by
  haveI : Inhabited En := ⟨en0⟩
  have hown0 := hown
  rcases hown.2 with ⟨rfl, h0⟩ | ⟨g, cap, cur, rfl, hb, hg, hn, hcm, hcs, htake⟩
  · obtain rfl : xs = [] := List.eq_nil_of_length_eq_zero h0
    refine (AnyF.slices_SortFunc_none Tryz.sortE none 0 (.func (.func 150) #[] #[]) w).mono ?_
    rintro e w' ⟨rfl, rfl⟩
    exact ⟨rfl, [], List.Perm.refl _, List.Pairwise.nil, hown0, ⟨rfl, rfl, rfl, Nat.le_refl _, fun _ _ _ => rfl⟩⟩
  · have hgl : g < w.heap.size := (Array.getElem?_eq_some_iff.1 hg).1
    have hl := rowCells_length (n := 3) enCells_len xs
    have hH : Sort.HoldsK enCells 3 w g 0 xs.toArray := by
      unfold Sort.HoldsK
      rw [flat_row]
      intro j hj
      have hj' : j < (rowCells enCells xs).length := by simpa using hj
      refine ⟨?_, by simp [World.frozen?, hg]⟩
      rw [Nat.zero_add, cell_of_block hg, getElem!_pos _ j hj]
      have h1 : (cur.toList.take (xs.length * 3))[j]? = (rowCells enCells xs)[j]? := by rw [htake]
      rw [List.getElem?_take_of_lt (by omega)] at h1
      rw [← Array.getElem?_toList, h1, List.getElem?_eq_getElem hj']
      simp
    have eg : ∀ args w, (callFunc 150 args).run Tryz.prog w = .ok (.enter 150 args) w := enters_of Tryz.func150 (by kernel_rfl) rfl
    have hcon := AnyQ.slices_SortFunc Tryz.sortE 3 Tryz.isAgg32 Tryz.sizeOf32 enCells (fun _ => rfl) (fun x v hv => enCells_one [x] v (by simpa [rowCells] using hv)) cmpE swoE 150 #[] g 0 cap xs.toArray w eg (fun _ _ _ _ x y => byPath_any x y _) hH hgl (by simp; omega)
    change Calls Tryz.prog 149 _ _ _ at hcon
    rw [show xs.toArray.size = xs.length by simp] at hcon
    refine hcon.mono ?_
    rintro e w' ⟨rfl, d', n, os, hp, hs, rfl⟩
    obtain ⟨hps, _, hperm⟩ := hp
    have hps' : d'.size = xs.length := by simpa using hps
    rw [show d'.extract 0 xs.length = d' by rw [← hps']; simp, show xs.toArray.extract 0 xs.length = xs.toArray by simp] at hperm
    refine ⟨rfl, d'.toList, by simpa using hperm, ?_, ?_, grown_put _⟩
    · rw [List.pairwise_iff_getElem]
      intro i j hi hj hij
      have hj' : j < d'.size := by simpa using hj
      have := hs i j (Nat.zero_le _) hij (by omega)
      rw [lt_cmpE, getElem!_pos d' j hj', getElem!_pos d' i (by omega)] at this
      simpa using this
    · have hf : Sort.flatK enCells 3 d' = (rowCells enCells d'.toList).toArray := by
        have := flat_row d'.toList
        simpa using this
      have hl2 := rowCells_length (n := 3) enCells_len d'.toList
      have hlen2 : d'.toList.length = xs.length := by simpa using hps'
      rw [hlen2] at hl2 ⊢
      unfold sortWorldK Sort.putRowK
      rw [hf]
      refine ⟨hl2, .inr ⟨g, cap, _, rfl, hb, heap_put _ hg, hn, hcm, by simp [Sort.putCells, hcs], ?_⟩⟩
      rw [← hl2]
      exact take_put cur _ (by rw [hl2, hcs]; exact Nat.mul_le_mul_right 3 hn)
end Go.Proofs.YtjmacegibchplaaGreatDoor

/-
  What stands in a directory, sorted by paths; what has been gone through before a directory. Plain lists, no walk.
-/
namespace Go.Proofs.YtjmacegibchplaaGreatDoor
set_option linter.unusedVariables false
theorem less_pre (p a b : List UInt8) : less (p ++ a) (p ++ b) = less a b := by
  induction p with
  | nil => rfl
  | cons c p ih => rw [List.cons_append, List.cons_append, less_cons, ih]; simp
def inDir (l : List En) (d : List UInt8) : List En := l.filter fun e => upPath e.path.data.toList == d
theorem mem_inDir (l : List En) (ht : Tree l) (d : List UInt8) (e : En) : e ∈ inDir l d ↔ e ∈ (kidsP l d).map (fun i => l.getD i en0) := by
  unfold inDir
  simp only [List.mem_filter, List.mem_map, beq_iff_eq]
  constructor
  · rintro ⟨hm, hu⟩
    obtain ⟨i, hi, rfl⟩ := List.getElem_of_mem hm
    refine ⟨i, (kids_iff l ht d i).2 ⟨hi, ?_⟩, en_getD l i hi⟩
    unfold upAt pathAt; rw [en_getD l i hi]; exact hu
  · rintro ⟨i, hi, rfl⟩
    obtain ⟨h1, h2⟩ := (kids_iff l ht d i).1 hi
    exact ⟨by rw [en_getD l i h1]; exact List.getElem_mem h1, h2⟩
theorem path_once (l : List En) (ht : Tree l) : l.Pairwise (fun x y => x.path.data.toList ≠ y.path.data.toList) := by
  rw [List.pairwise_iff_getElem]
  intro i j hi hj hij e
  have := tree_inj l ht i j hi hj e
  omega
theorem sorted_kids (l : List En) (ht : Tree l) (d : List UInt8) (ys : List En) (hp : ys.Perm (inDir l d)) (hs : ys.Pairwise (fun x y => less y.path.data.toList x.path.data.toList = false)) : ys = (kidsP l d).map (fun i => l.getD i en0) := by
  have hne : ys.Pairwise (fun x y => x.path.data.toList ≠ y.path.data.toList) :=
    (hp.pairwise_iff (fun h => Ne.symm h)).2 ((path_once l ht).sublist List.filter_sublist)
  have hst : ys.Pairwise (fun x y => less x.path.data.toList y.path.data.toList = true) := by
    refine (hs.and hne).imp ?_
    rintro x y ⟨h1, h2⟩
    cases h : less x.path.data.toList y.path.data.toList with
    | true => rfl
    | false => exact absurd (less_tri _ _ h h1) h2
  have hk : ((kidsP l d).map (fun i => l.getD i en0)).Pairwise (fun x y => less x.path.data.toList y.path.data.toList = true) := by
    rw [List.pairwise_map]
    have h0 := insG_sorted l (pre d) (l.length + 1) []
    refine List.Pairwise.imp_of_mem ?_ h0
    intro i j hi hj hij
    obtain ⟨hi1, hi2⟩ := (kids_iff l ht d i).1 hi
    obtain ⟨hj1, hj2⟩ := (kids_iff l ht d j).1 hj
    have ei := path_pre l ht i hi1
    have ej := path_pre l ht j hj1
    have ni := nm_up l ht i hi1
    have nj := nm_up l ht j hj1
    rw [hi2] at ei ni
    rw [hj2] at ej nj
    rw [ni, nj] at hij
    show less (pathAt l i) (pathAt l j) = true
    generalize nameOf (pathAt l i) = a at *
    generalize nameOf (pathAt l j) = b at *
    rw [ei, ej, less_pre]; exact hij
  refine order_one (fun x y : En => less x.path.data.toList y.path.data.toList) (fun _ => less_irr _) (fun _ _ _ => less_trans _ _ _) ys _ hst hk (fun x => ?_)
  rw [hp.mem_iff, mem_inDir l ht]
theorem inDir_snoc (l : List En) (x : En) : inDir (l ++ [x]) = fun d => if d = upPath x.path.data.toList then inDir l (upPath x.path.data.toList) ++ [x] else inDir l d := by
  funext d
  unfold inDir
  rw [List.filter_append]
  by_cases h : d = upPath x.path.data.toList
  · rw [if_pos h, h]; simp
  · rw [if_neg h]
    have : ¬ upPath x.path.data.toList = d := fun e => h e.symm
    simp [this]
theorem inDir_len (l : List En) (d : List UInt8) : (inDir l d).length ≤ l.length := List.length_filter_le _ _
theorem before_kid (l : List En) (ht : Tree l) (f : Nat) (d : List UInt8) (done : List Nat) (hd : ∀ j ∈ done, ¬ Under d (upAt l j)) (k : Nat) (hk : k < (kidsP l d).length) :
    ∀ j ∈ done ++ ((kidsP l d).take k).flatMap (blk l f), ¬ Under (pathAt l (kidsP l d)[k]) (upAt l j) := by
  have hm := List.getElem_mem hk
  intro j hj hu
  rcases List.mem_append.1 hj with hj | hj
  · exact hd j hj (under_kid l ht d _ _ hm hu)
  · simp only [List.mem_flatMap, blk, List.mem_append, List.mem_singleton] at hj
    obtain ⟨i, hi, hji⟩ := hj
    have hiK := List.mem_of_mem_take hi
    rcases hji with hji | rfl
    · split at hji
      · have h2 := (walk_lt l ht f _ j hji).2
        have e := under_apart l ht d _ _ i hm hiK hu h2
        obtain ⟨m, hmk, hmi⟩ := List.getElem_of_mem hi
        rw [List.length_take] at hmk
        rw [List.getElem_take] at hmi
        have hnd : (kidsP l d).Pairwise (fun i j => i ≠ j) := by
          refine (insG_sorted l (pre d) (l.length + 1) []).imp ?_
          intro a b hab e
          subst e
          rw [less_irr] at hab; simp at hab
        rw [List.pairwise_iff_getElem] at hnd
        exact hnd m k (by omega) hk (by omega) (hmi.trans e.symm)
      · simp at hji
    · have h2 := ((kids_iff l ht d j).1 hiK).2
      exact under_len l ht d _ hm _ hu h2
theorem filter_before (l : List En) (ht : Tree l) (f : Nat) (p : List UInt8) (done : List Nat) (h : ∀ j ∈ done, ¬ Under p (upAt l j)) : (done ++ walkP l (f + 1) p).filter (fun j => upAt l j == p) = kidsP l p := by
  rw [List.filter_append, walk_filter l ht]
  have : done.filter (fun j => upAt l j == p) = [] := by
    rw [List.filter_eq_nil_iff]
    intro j hj
    have := h j hj
    simp only [beq_iff_eq]
    intro e
    exact this (by rw [e]; exact under_self p)
  rw [this]; rfl
def wb : Nat → Nat
  | 0 => 0
  | f + 1 => 40 * (wb f + 1)
theorem flat_len {α β : Type} (g : α → List β) (m : Nat) : ∀ (L : List α), (∀ x ∈ L, (g x).length ≤ m) → (L.flatMap g).length ≤ L.length * m
  | [], _ => by simp
  | x :: L, h => by
    have h1 := h x (by simp)
    have h2 := flat_len g m L (fun y hy => h y (by simp [hy]))
    rw [List.flatMap_cons, List.length_append, List.length_cons, Nat.add_mul]
    omega
theorem walk_len (l : List En) (ht : Tree l) : ∀ f d, (walkP l f d).length ≤ wb f
  | 0, _ => by simp [walkP]
  | f + 1, d => by
    rw [walk_succ]
    have h := flat_len (blk l f) (wb f + 1) (kidsP l d) (fun i _ => by
      unfold blk
      rw [List.length_append]
      have := walk_len l ht f (pathAt l i)
      split
      · simp; omega
      · simp)
    have h2 := insP_len l (pre d)
    have h3 := ht.len
    have h4 : (kidsP l d).length ≤ 40 := Nat.le_trans h2 h3
    exact Nat.le_trans h (Nat.mul_le_mul_right _ h4)
theorem blk_len (l : List En) (ht : Tree l) (f i : Nat) : (blk l f i).length ≤ wb f + 1 := by
  unfold blk
  rw [List.length_append]
  have := walk_len l ht f (pathAt l i)
  split
  · simp; omega
  · simp
theorem take_len (l : List En) (ht : Tree l) (f : Nat) (K : List Nat) (hK : K.length ≤ 40) (j : Nat) (hj : j < K.length) : ((K.take j).flatMap (blk l f)).length + (wb f + 1) ≤ wb (f + 1) := by
  have h := flat_len (blk l f) (wb f + 1) (K.take j) (fun i _ => blk_len l ht f i)
  rw [List.length_take, Nat.min_eq_left (by omega)] at h
  have h2 : (j + 1) * (wb f + 1) ≤ 40 * (wb f + 1) := Nat.mul_le_mul_right _ (by omega)
  rw [Nat.add_mul, Nat.one_mul] at h2
  show _ ≤ 40 * (wb f + 1)
  omega
end Go.Proofs.YtjmacegibchplaaGreatDoor

/-
  The program's Walk: its recursion, for any visitor.
-/
namespace Go.Proofs.YtjmacegibchplaaGreatDoor
open Go.RowKit
set_option linter.unusedVariables false
structure OwnK (Own : Nat → Prop) (w w' : World) : Prop where
  os : w'.os = w.os
  tape : w'.tape = w.tape
  output : w'.output = w.output
  size : w.heap.size ≤ w'.heap.size
  block : ∀ b, Own b → w'.heap[b]? = w.heap[b]?
structure VisK (Own Own' : Nat → Prop) (w w' : World) : Prop where
  size : w.heap.size ≤ w'.heap.size
  block : ∀ b, b < w.heap.size → ¬ Own b → w'.heap[b]? = w.heap[b]?
  own : ∀ b, Own' b → Own b ∨ w.heap.size ≤ b
structure ThrK (B0 B1 : Nat) (Own Own' : Nat → Prop) (w w' : World) : Prop where
  size : w.heap.size ≤ w'.heap.size
  block : ∀ b, b < w.heap.size → ¬ Own b → ¬ (B0 ≤ b ∧ b < B1) → w'.heap[b]? = w.heap[b]?
  own : ∀ b, Own' b → Own b ∨ w.heap.size ≤ b
theorem ThrK.refl (B0 B1 : Nat) (Own : Nat → Prop) (w : World) : ThrK B0 B1 Own Own w w := ⟨Nat.le_refl _, fun _ _ _ _ => rfl, fun _ h => .inl h⟩
theorem ThrK.trans {B0 B1 : Nat} {O1 O2 O3 : Nat → Prop} {w1 w2 w3 : World} (h : ThrK B0 B1 O1 O2 w1 w2) (k : ThrK B0 B1 O2 O3 w2 w3) : ThrK B0 B1 O1 O3 w1 w3 :=
  ⟨Nat.le_trans h.size k.size, fun b hb ho hn => (k.block b (Nat.lt_of_lt_of_le hb h.size) (fun h2 => (h.own b h2).elim ho (fun h3 => by omega)) hn).trans (h.block b hb ho hn),
    fun b hb => (k.own b hb).elim (fun h2 => h.own b h2) (fun h2 => .inr (Nat.le_trans h.size h2))⟩
theorem VisK.thr {B0 B1 : Nat} {Own Own' : Nat → Prop} {w w' : World} (h : VisK Own Own' w w') : ThrK B0 B1 Own Own' w w' := ⟨h.size, fun b hb ho _ => h.block b hb ho, h.own⟩
theorem ThrK.below {B0 B1 : Nat} {Own : Nat → Prop} {w w' : World} (h : Below w.heap.size w w') : ThrK B0 B1 Own Own w w' := ⟨h.size, fun b hb _ _ => h.block b hb, fun _ h => .inl h⟩
structure Visitor (l : List En) (k : Nat) (cap : Array Value) (I : (Nat → Prop) → List Nat → World → Prop) : Prop where
  enters : ∀ args w, (callFunc k args).run Tryz.prog w = .ok (.enter k args) w
  lt : ∀ Own done w, I Own done w → ∀ b, Own b → b < w.heap.size
  stable : ∀ Own done w w', I Own done w → OwnK Own w w' → I Own done w'
  visit : ∀ Own done i w, i < l.length → done.length < 5000000000 → I Own done w → (kindAt l i = 0 → done.filter (fun j => upAt l j == pathAt l i) = kidsP l (pathAt l i)) →
    Calls Tryz.prog k (#[entV (l.getD i en0)] ++ cap) w fun e w' => e = .returned (.tuple #[]) ∧ ∃ Own', I Own' (done ++ [i]) w' ∧ VisK Own Own' w w'
def ptr (b : Nat) : Value := .pointer (some ⟨b, 0, none⟩)
structure Wlk (l : List En) (k : Nat) (cap : Array Value) (B0 B1 bi bt bv mb n : Nat) (F : List UInt8 → Option Value) (w : World) (G : List UInt8 → List En) : Prop where
  ci : w.heap[bi]? = some (.cells #[.map (some mb)] 193 (0, 0))
  ct : w.heap[bt]? = some (.cells #[.func (.func 148) #[] #[ptr bi, ptr bt, ptr bv]] 142 (0, 0))
  cv : w.heap[bv]? = some (.cells #[.func (.func k) #[] cap] 149 (0, 0))
  li : B0 ≤ bi ∧ bi < B1
  lt : B0 ≤ bt ∧ bt < B1
  lv : B0 ≤ bv ∧ bv < B1
  size : B1 ≤ w.heap.size
  grp : Grp 32 3 enCells w B0 mb n (fun b => B0 ≤ b ∧ b < B1) F G
  perm : ∀ d, (G d).Perm (inDir l d)
section
variable {l : List En} {k : Nat} {cap : Array Value} {B0 B1 bi bt bv mb n : Nat} {F : List UInt8 → Option Value} {w : World} {G : List UInt8 → List En}
theorem Wlk.kept {w' : World} (h : Wlk l k cap B0 B1 bi bt bv mb n F w G) (hs : w.heap.size ≤ w'.heap.size) (hv : ∀ b, B0 ≤ b → b < B1 → w'.heap[b]? = w.heap[b]?) : Wlk l k cap B0 B1 bi bt bv mb n F w' G :=
  ⟨(hv bi h.li.1 h.li.2).trans h.ci, (hv bt h.lt.1 h.lt.2).trans h.ct, (hv bv h.lv.1 h.lv.2).trans h.cv, h.li, h.lt, h.lv, Nat.le_trans h.size hs, h.grp.kept (fun b hb _ => hv b hb.1 hb.2), h.perm⟩
theorem Wlk.below {w' : World} (h : Wlk l k cap B0 B1 bi bt bv mb n F w G) (hb : Below w.heap.size w w') : Wlk l k cap B0 B1 bi bt bv mb n F w' G := h.kept hb.size (fun b _ h2 => hb.block b (by have := h.size; omega))
theorem row_not_cell {w : World} {base e size n b t : Nat} {v : Value} {xs : List Value} {cur : Array Value} (hr : w.ownsRow base e size v n xs) (hb : w.heap[b]? = some (.cells cur t (0, 0))) (hne : t ≠ e) : Option.some b ≠ v.ownBlock := by
  rcases hr.2 with ⟨rfl, _⟩ | ⟨g, cap, cur', rfl, _, hg, _⟩
  · simp [Value.ownBlock]
  · intro e
    simp only [Value.ownBlock, Option.some.injEq] at e
    subst e
    rw [hb] at hg
    simp at hg
    exact hne hg.2
theorem Grp.sorted {e size : Nat} {enc : En → List Value} {base mb n : Nat} {Own : Nat → Prop} {w w' : World} (h : Grp e size enc w base mb n Own F G) (d : List UInt8) (ys : List En) (hys : G d = [] → ys = [])
    (ho : w'.ownsRow base e size ((F d).getD (.slice Option.none 0 0)) ys.length (rowCells enc ys)) (hg : w.grownBy w' ((F d).getD (.slice Option.none 0 0)).ownBlock) :
    Grp e size enc w' base mb n Own F (fun y => if y = d then ys else G y) := by
  refine ⟨h.map.kept hg (map_not_row h.map (h.at d)), fun y v hv => ?_, fun y hy => ?_, h.apart, h.ownM, h.ownR⟩
  · by_cases hy : y = d
    · subst hy; rw [if_pos rfl]; rw [hv] at ho; exact ho
    · rw [if_neg hy]
      refine ownsRow_same (h.some y v hv) (fun g hgg => hg.block g (own_lt (h.some y v hv) hgg) (fun e => ?_))
      cases hf : F d with
      | none => rw [hf] at e; simp [Value.ownBlock] at e
      | some v0 => rw [hf] at e; exact hy (h.apart y d v v0 g hv hf hgg e.symm)
  · by_cases hyd : y = d
    · subst hyd; rw [if_pos rfl]; exact hys (h.none y hy)
    · rw [if_neg hyd]; exact h.none y hy
theorem Wlk.sorted {w' : World} (h : Wlk l k cap B0 B1 bi bt bv mb n F w G) (d : List UInt8) (ys : List En) (hp : ys.Perm (G d))
    (ho : w'.ownsRow B0 32 3 ((F d).getD (.slice Option.none 0 0)) ys.length (rowCells enCells ys)) (hg : w.grownBy w' ((F d).getD (.slice Option.none 0 0)).ownBlock) :
    Wlk l k cap B0 B1 bi bt bv mb n F w' (fun y => if y = d then ys else G y) := by
  have hat := h.grp.at d
  have hlt : ∀ (b : Nat) (cur : Array Value) (t : TypeId), w.heap[b]? = some (Obj.cells cur t (0, 0)) → t ≠ 32 → w'.heap[b]? = some (Obj.cells cur t (0, 0)) := fun b cur t hb ht =>
    (hg.block b (Array.getElem?_eq_some_iff.1 hb).1 (row_not_cell hat hb ht)).trans hb
  refine ⟨hlt _ _ _ h.ci (by decide), hlt _ _ _ h.ct (by decide), hlt _ _ _ h.cv (by decide), h.li, h.lt, h.lv, Nat.le_trans h.size hg.size, h.grp.sorted d ys (fun e => by rw [e] at hp; exact hp.eq_nil) ho hg, fun y => ?_⟩
  by_cases hy : y = d
  · subst hy; rw [if_pos rfl]; exact hp.trans (h.perm y)
  · rw [if_neg hy]; exact h.perm y
end
theorem under82 : Tryz.prog.underlying 193 = some (.map 9 22) := by kernel_rfl
theorem zero_ents (w : World) : (zeroValue 22).run Tryz.prog w = .ok (.slice none 0 0) w := by kernel_rfl
theorem row_ent {w : World} {base g cap : Nat} {ys : List En} (h : w.ownsRow base 32 3 (.slice (some ⟨g, 0, none⟩) ys.length cap) ys.length (rowCells enCells ys)) (j : Nat) (hj : j < ys.length) :
    w.cell? ⟨g, j * 3, none⟩ = some (.string ys[j].path) ∧ w.cell? ⟨g, j * 3 + 1, none⟩ = some (.int .i64 ys[j].kind) ∧ w.cell? ⟨g, j * 3 + 2, none⟩ = some (.string ys[j].data) := by
  have key : ∀ c v, c < 3 → (enCells ys[j])[c]? = some v → w.cell? ⟨g, j * 3 + c, none⟩ = some v := by
    intro c v hc hv
    have h1 := rowCells_at (n := 3) enCells_len ys j hj c hc
    rw [hv] at h1
    have := World.ownsRow.cells h (g := g) rfl (j * 3 + c) v h1
    rwa [add_off0] at this
  exact ⟨key 0 _ (by omega) rfl, key 1 _ (by omega) rfl, key 2 _ (by omega) rfl⟩
end Go.Proofs.YtjmacegibchplaaGreatDoor
