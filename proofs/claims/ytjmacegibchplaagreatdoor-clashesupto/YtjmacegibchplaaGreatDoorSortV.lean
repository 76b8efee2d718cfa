/-
  The library's sort of a row of entries by their paths.
-/
import Derived.Test.YtjmacegibchplaaGreatDoorGrpV
import Derived.Test.YtjmacegibchplaaGreatDoorShelfB
import Derived.Sort.OwnSorted
import Derived.Shelf.SlSortCmp.NoneTotal
namespace Go.Proofs.YtjmacegibchplaaGreatDoor
open Go.RowKit
set_option linter.unusedVariables false

theorem cmp_less : ∀ (a b : List UInt8), decide (Lib.compareBytes a b < 0) = less a b
  | [], [] => rfl
  | [], _ :: _ => rfl
  | _ :: _, [] => rfl
  | x :: a, y :: b => by
    have hc : Lib.compareBytes (x :: a) (y :: b) = if x < y then -1 else if y < x then 1 else Lib.compareBytes a b := rfl
    rw [less_cons, ← cmp_less a b, hc]
    by_cases h1 : x < y
    · simp [h1]
    · rw [if_neg h1]
      by_cases h2 : y < x
      · have : ¬ x = y := fun e => by subst e; exact h1 h2
        simp [h1, h2, this]
      · have : x = y := by
          have a1 := UInt8.not_lt.1 h1
          have a2 := UInt8.not_lt.1 h2
          exact UInt8.le_antisymm a2 a1
        subst this
        simp [h1]
def cmpE (x y : En) : Int := Lib.compareBytes x.path.data.toList y.path.data.toList
theorem lt_cmpE (x y : En) : ltOf cmpE x y = less x.path.data.toList y.path.data.toList := cmp_less _ _
theorem swoE : Sort.SWO (ltOf cmpE) where
  irrefl x := by rw [lt_cmpE]; exact less_irr _
  trans x y z h1 h2 := by rw [lt_cmpE] at *; exact less_trans _ _ _ h1 h2
  ntrans x y z h1 h2 := by
    rw [lt_cmpE] at *
    cases h : less x.path.data.toList z.path.data.toList with
    | false => rfl
    | true =>
      cases h3 : less y.path.data.toList x.path.data.toList with
      | true => rw [less_trans _ _ _ h3 h] at h2; simp at h2
      | false =>
        rw [less_tri _ _ h1 h3] at h
        rw [h] at h2; simp at h2
set_option maxHeartbeats 1000000 in
theorem byPath_any (x y : En) (W : World) :
    Calls Tryz.prog 150 #[.agg (enCells x).toArray, .agg (enCells y).toArray] W fun e w' => e = .returned (.int .i64 (cmpE x y)) ∧ ∃ q os', w' = Sort.grow (W.drewN q) os' := by
  have hc := fun w => Tryz.strings_Compare x.path y.path w
  obtain ⟨xp, xk, xd⟩ := x
  obtain ⟨yp, yk, yd⟩ := y
  unfold cmpE enCells
  simp only at hc ⊢
  generalize Lib.compareBytes xp.data.toList yp.data.toList = r at *
  go_enter Tryz.func150, Tryz.ntmps150
  go_wp2_with (go_at_call 185; refine (hc _).mono ?_; rintro e w' ⟨rfl, rfl⟩)
  go_ret
  exact ⟨rfl, 0, _, by rw [Sort.alloc_eq_grow, Sort.alloc_eq_grow, Sort.grow_grow]; rfl⟩
theorem flat_row [Inhabited En] (xs : List En) : Sort.flatK enCells 3 xs.toArray = (rowCells enCells xs).toArray := by
  have hl := rowCells_length (n := 3) enCells_len xs
  apply Array.ext
  · simp [hl]
  · intro t h1 h2
    have h1' : t < xs.length * 3 := by simpa using h1
    have h3 := Sort.get_flatK enCells 3 xs.toArray t (by simpa using h1')
    rw [getElem!_pos _ t h1] at h3
    rw [h3]
    have hq : t / 3 < xs.length := by omega
    have h4 := rowCells_at (n := 3) enCells_len xs (t / 3) hq (t % 3) (by omega)
    rw [show t / 3 * 3 + t % 3 = t by omega] at h4
    rw [getElem!_pos xs.toArray (t / 3) (by simpa using hq)]
    have h5 : t % 3 < (enCells xs[t / 3]).length := by rw [enCells_len]; omega
    rw [List.getElem_toArray, getElem!_pos (enCells xs[t / 3]) (t % 3) h5]
    rw [List.getElem?_eq_getElem (by rw [hl]; exact h1'), List.getElem?_eq_getElem h5] at h4
    rw [List.getElem_toArray]
    exact (Option.some.inj h4).symm
theorem heap_put {w : World} {g n : Nat} {os : Array Obj} {cur : Array Value} {e : TypeId} {fr : Nat × Nat} (d : Array Value) (hb : w.heap[g]? = some (.cells cur e fr)) :
    (Sort.grow (Sort.putRow id (Sort.ahead w n) g 0 d) os).heap[g]? = some (.cells (Sort.putCells id 0 d cur) e fr) := by
  have hg : g < w.heap.size := (Array.getElem?_eq_some_iff.1 hb).1
  rw [Sort.heap_grow_old _ _ (by simpa using hg)]
  simp [Sort.putRow, Sort.mapBlock, Sort.ahead, Array.getElem?_modify, hb, Sort.onCells]
theorem grown_put {w : World} {g n : Nat} {os : Array Obj} (d : Array Value) : w.grownBy (Sort.grow (Sort.putRow id (Sort.ahead w n) g 0 d) os) (some g) := by
  refine ⟨rfl, rfl, rfl, by simp, fun k hk hne => ?_⟩
  rw [Sort.heap_grow_old _ _ (by simpa using hk)]
  have : g ≠ k := fun e => hne (by rw [e])
  simp [Sort.putRow, Sort.mapBlock, Sort.ahead, Array.getElem?_modify, this]
theorem take_put (cur : Array Value) (ts : List Value) (h : ts.length ≤ cur.size) : (Sort.putCells id 0 ts.toArray cur).toList.take ts.length = ts := by
  apply List.ext_getElem?
  intro j
  by_cases hj : j < ts.length
  · rw [List.getElem?_take_of_lt hj, Array.getElem?_toList]
    simp [Sort.putCells, hj, show j < cur.size by omega]
  · rw [List.getElem?_take_eq_none (by omega), List.getElem?_eq_none (by omega)]
theorem under22 : Tryz.prog.underlying 22 = some (.slice 32) := by kernel_rfl
set_option maxHeartbeats 1000000 in
/-- THE SORT: the same slice owns the same entries, by rising paths; nothing else has turned -/
theorem sort_any (xs : List En) (v : Value) (w : World) (base : Nat) (hown : w.ownsRow base 32 3 v xs.length (rowCells enCells xs)) (hlen : xs.length ≤ 1000000) :
    Calls Tryz.prog 149 #[v, .func (.func 150) #[] #[]] w fun e w' => e = .returned (.tuple #[]) ∧
      ∃ ys : List En, ys.Perm xs ∧ ys.Pairwise (fun x y => less y.path.data.toList x.path.data.toList = false) ∧ w'.ownsRow base 32 3 v ys.length (rowCells enCells ys) ∧ w.grownBy w' v.ownBlock := by
  haveI : Inhabited En := ⟨en0⟩
  have hown0 := hown
  rcases hown.2 with ⟨rfl, h0⟩ | ⟨g, cap, cur, rfl, hb, hg, hn, hcm, hcs, htake⟩
  · obtain rfl : xs = [] := List.eq_nil_of_length_eq_zero h0
    refine (AnyF.slices_SortFunc_none Tryz.sortE none 0 (.func (.func 150) #[] #[]) w).mono ?_
    rintro e w' ⟨rfl, rfl⟩
    exact ⟨rfl, [], List.Perm.refl _, List.Pairwise.nil, hown0, ⟨rfl, rfl, rfl, Nat.le_refl _, fun _ _ _ => rfl⟩⟩
  · have hgl : g < w.heap.size := (Array.getElem?_eq_some_iff.1 hg).1
    have hl := rowCells_length (n := 3) enCells_len xs
    have hH : Sort.HoldsK enCells 3 w g 0 xs.toArray := by
      unfold Sort.HoldsK
      rw [flat_row]
      intro j hj
      have hj' : j < (rowCells enCells xs).length := by simpa using hj
      refine ⟨?_, by simp [World.frozen?, hg]⟩
      rw [Nat.zero_add, cell_of_block hg, getElem!_pos _ j hj]
      have h1 : (cur.toList.take (xs.length * 3))[j]? = (rowCells enCells xs)[j]? := by rw [htake]
      rw [List.getElem?_take_of_lt (by omega)] at h1
      rw [← Array.getElem?_toList, h1, List.getElem?_eq_getElem hj']
      simp
    have eg : ∀ args w, (callFunc 150 args).run Tryz.prog w = .ok (.enter 150 args) w := enters_of Tryz.func150 (by kernel_rfl) rfl
    have hcon := AnyQ.slices_SortFunc Tryz.sortE 3 Tryz.isAgg32 Tryz.sizeOf32 enCells (fun _ => rfl) (fun x v hv => enCells_one [x] v (by simpa [rowCells] using hv)) cmpE swoE 150 #[] g 0 cap xs.toArray w eg (fun _ _ _ _ x y => byPath_any x y _) hH hgl (by simp; omega)
    change Calls Tryz.prog 149 _ _ _ at hcon
    rw [show xs.toArray.size = xs.length by simp] at hcon
    refine hcon.mono ?_
    rintro e w' ⟨rfl, d', n, os, hp, hs, rfl⟩
    obtain ⟨hps, _, hperm⟩ := hp
    have hps' : d'.size = xs.length := by simpa using hps
    rw [show d'.extract 0 xs.length = d' by rw [← hps']; simp, show xs.toArray.extract 0 xs.length = xs.toArray by simp] at hperm
    refine ⟨rfl, d'.toList, by simpa using hperm, ?_, ?_, grown_put _⟩
    · rw [List.pairwise_iff_getElem]
      intro i j hi hj hij
      have hj' : j < d'.size := by simpa using hj
      have := hs i j (Nat.zero_le _) hij (by omega)
      rw [lt_cmpE, getElem!_pos d' j hj', getElem!_pos d' i (by omega)] at this
      simpa using this
    · have hf : Sort.flatK enCells 3 d' = (rowCells enCells d'.toList).toArray := by
        have := flat_row d'.toList
        simpa using this
      have hl2 := rowCells_length (n := 3) enCells_len d'.toList
      have hlen2 : d'.toList.length = xs.length := by simpa using hps'
      rw [hlen2] at hl2 ⊢
      unfold sortWorldK Sort.putRowK
      rw [hf]
      refine ⟨hl2, .inr ⟨g, cap, _, rfl, hb, heap_put _ hg, hn, hcm, by simp [Sort.putCells, hcs], ?_⟩⟩
      rw [← hl2]
      exact take_put cur _ (by rw [hl2, hcs]; exact Nat.mul_le_mul_right 3 hn)
end Go.Proofs.YtjmacegibchplaaGreatDoor
