import Derived.Test.YtjmacegibchplaaGreatDoorUpA
import Derived.Test.YtjmacegibchplaaGreatDoorTreeH
import Derived.Test.YtjmacegibchplaaGreatDoorEntB
import Derived.Test.YtjmacegibchplaaGreatDoorUplP
import Derived.Deep.RegionHeld3
import Derived.Test.YtjmacegibchplaaGreatDoorPrD
import Derived.Test.YtjmacegibchplaaGreatDoorBldLaw
import Derived.Test.YtjmacegibchplaaGreatDoorPrC
import Derived.Test.YtjmacegibchplaaGreatDoorOfB
/-
  Append onto a row of one's own: what becomes of the row that it was appended to.
-/
namespace Go.Proofs.YtjmacegibchplaaGreatDoor
open Go.RowKit Go.Maps Go.WideMaps
set_option linter.unusedVariables false
theorem row_put (cur : Array Value) (news : List Value) (a : Nat) (h : a + news.length ≤ cur.size) (i : Nat) :
    (cur.toList.take a ++ news ++ cur.toList.drop (a + news.length)).toArray[i]? = if i < a then cur[i]? else if i < a + news.length then news[i - a]? else cur[i]? := by
  have hl : (cur.toList.take a).length = a := by simp; omega
  rw [List.getElem?_toArray, List.append_assoc]
  by_cases h1 : i < a
  · rw [List.getElem?_append_left (by omega), if_pos h1, List.getElem?_take_of_lt h1]
    simp
  · rw [List.getElem?_append_right (by omega), if_neg h1, hl]
    by_cases h2 : i < a + news.length
    · rw [List.getElem?_append_left (by omega), if_pos h2]
    · rw [List.getElem?_append_right (by omega), if_neg h2, List.getElem?_drop, show a + news.length + (i - a - news.length) = i by omega]
      simp
structure AppOld (base : Nat) (e : TypeId) (size : Nat) (v : Value) (n m : Nat) (xs news : List Value) (w w' : World) : Prop where
  old : w'.ownsRow base e size v n xs
  cells : ∀ g cur, v.ownBlock = some g → w.heap[g]? = some (.cells cur e (0, 0)) → ∃ cur', w'.heap[g]? = some (.cells cur' e (0, 0)) ∧ cur'.size = cur.size ∧ ∀ i, cur'[i]? = cur[i]? ∨ (n * size ≤ i ∧ i < n * size + news.length ∧ cur'[i]? = news[i - n * size]?)
theorem run_append_two {P : Program} (w : World) (base : Nat) (t ty e : TypeId) (i : TypeInfo) (z : Value) (size bytes : Nat) (ht : P.underlying t = some (.slice e)) (hi : P.info? e = some i) (hz : i.zero = some z)
    (hsize : i.size = size) (hby : i.bytes = bytes) (hzs : z.cells.size = size) (hsz : 0 < size)
    (v : Value) (n : Nat) (xs : List Value) (hown : w.ownsRow base e size v n xs)
    (a : Addr) (m c : Nat) (hm0 : 0 < m) (news : List Value) (hl : news.length = m * size) (hnews : ∀ j u, news[j]? = some u → w.cell? (a.add j) = some u) (h1 : ∀ u ∈ news, u.oneCell' = true)
    (h63 : n + m ≤ maxLen) (hbytes : (n + m) * bytes ≤ 140737488355328) (hbase : base ≤ w.heap.size) :
    ∃ v' w', (Builtin.append_ #[t, t] ty #[v, .slice (some a) m c]).run P w = .ok v' w' ∧ w'.ownsRow base e size v' (n + m) (xs ++ news) ∧ w.grownBy w' v.ownBlock ∧
      (v'.ownBlock = v.ownBlock ∨ v'.ownBlock = some w.heap.size) ∧ AppOld base e size v n m xs news w w' := by
  subst hsize
  subst hby
  have hsmall : n + m ≤ 9223372036854775807 := by simp only [maxLen] at h63; omega
  have hlen : (xs ++ news).length = (n + m) * i.size := by rw [List.length_append, hown.1, hl, Nat.add_mul]
  have grown : ∀ (old : Nat), old < n + m → ∀ (row : Option Nat),
      (w.drew.alloc (.cells (xs.toArray ++ news.toArray ++ Builtin.zeroCells z.cells (grownCap w (n + m) old e - (n + m))) e)).ownsRow base e i.size
        (.slice (some ⟨w.heap.size, 0, none⟩) (n + m) (grownCap w (n + m) old e)) (n + m) (xs ++ news) ∧
      w.grownBy (w.drew.alloc (.cells (xs.toArray ++ news.toArray ++ Builtin.zeroCells z.cells (grownCap w (n + m) old e - (n + m))) e)) row := by
    intro old ho row
    have hge := grownCap_ge w (n + m) old e
    have hcm : grownCap w (n + m) old e ≤ maxLen := grownCap_le_maxLen w (n + m) old e h63
    refine ⟨⟨hlen, .inr ⟨w.heap.size, _, _, rfl, hbase, heap_alloc_new w.drew _, hge, hcm, ?_, ?_⟩⟩, ⟨rfl, rfl, rfl, by simp, fun k hk _ => heap_alloc_old w.drew _ hk⟩⟩
    · simp only [Array.size_append, List.size_toArray, size_zeroCells, hzs, hown.1, hl, ← Nat.add_mul]
      congr 1
      omega
    · simp only [Array.toList_append, List.append_assoc]
      rw [← List.append_assoc, ← hlen]
      exact List.take_left
  rcases hown.2 with ⟨rfl, rfl⟩ | ⟨g, cap, cur, rfl, hbg, hg, hnc, hcm, hcs, htake⟩
  · have hx : xs = [] := List.eq_nil_of_length_eq_zero (by simpa using hown.1)
    subst hx
    have hr := run_append_nil (P := P) w t ty e i z ht hi hz a m c news hl hnews (by omega) (by omega) (by have hb := hbytes; simp only [Nat.zero_add] at hb; omega)
    have hgr := grown 0 (by omega) (Value.ownBlock (.slice none 0 0))
    simp only [Nat.zero_add, List.nil_append, Array.empty_append] at hgr ⊢
    exact ⟨_, _, hr, hgr.1, hgr.2, Or.inr rfl, World.ownsRow_nil _ _ _ _, fun g cur h => by simp [Value.ownBlock] at h⟩
  · by_cases hroom : n + m ≤ cap
    · have hfit : n * i.size + news.length ≤ cur.size := by rw [hl, hcs, ← Nat.add_mul]; exact Nat.mul_le_mul_right _ hroom
      have hr := run_append_room (P := P) w t ty e i ht hi g n cap cur hg a m c news hl hnews h1 hroom hfit
      have hcsz : (cur.toList.take (n * i.size) ++ news ++ cur.toList.drop (n * i.size + news.length)).toArray.size = cap * i.size := by
        simp only [List.size_toArray, List.length_append, List.length_take, List.length_drop, Array.length_toList]
        omega
      have hh := setRow_heap w g cur (cur.toList.take (n * i.size) ++ news ++ cur.toList.drop (n * i.size + news.length)).toArray e _ hg
      refine ⟨_, _, hr, ⟨hlen, .inr ⟨g, cap, _, rfl, hbg, hh, hroom, hcm, hcsz, ?_⟩⟩, ⟨rfl, rfl, rfl, by simp, fun k _ hk => setRow_other w g k _ (fun e => hk (by simp [Value.ownBlock, e]))⟩, Or.inl rfl, ⟨hown.1, .inr ⟨g, cap, _, rfl, hbg, hh, hnc, hcm, hcsz, ?_⟩⟩, ?_⟩
      · rw [htake, ← hlen]
        exact List.take_left
      · rw [htake, List.append_assoc, ← hown.1]
        exact List.take_left
      · intro g' cur0 hg' hc0
        obtain rfl : g = g' := by simpa [Value.ownBlock] using hg'
        rw [hg] at hc0
        obtain rfl : cur = cur0 := by simpa using hc0
        refine ⟨_, hh, by rw [hcsz, hcs], fun j => ?_⟩
        rw [row_put cur news (n * i.size) hfit j]
        by_cases q1 : j < n * i.size
        · rw [if_pos q1]; exact .inl rfl
        · rw [if_neg q1]
          by_cases q2 : j < n * i.size + news.length
          · rw [if_pos q2]; exact .inr ⟨by omega, q2, rfl⟩
          · rw [if_neg q2]; exact .inl rfl
    · have holds : ∀ j u, xs[j]? = some u → w.cell? ((⟨g, 0, none⟩ : Addr).add j) = some u := hown.cells (g := g) rfl
      have hr := run_append_grow (P := P) w t ty e i z ht hi hz ⟨g, 0, none⟩ n cap xs hown.1 holds a m c news hl hnews (by omega) (by omega) (growslice_fits (by omega) hbytes)
      have hgr := grown cap (by omega) (Value.ownBlock (.slice (some ⟨g, 0, none⟩) n cap))
      have hgl : g < w.drew.heap.size := (Array.getElem?_eq_some_iff.1 hg).1
      refine ⟨_, _, hr, hgr.1, hgr.2, Or.inr rfl, ⟨hown.1, .inr ⟨g, cap, cur, rfl, hbg, (heap_alloc_old w.drew _ hgl).trans hg, hnc, hcm, hcs, htake⟩⟩, ?_⟩
      intro g' cur0 hg' hc0
      obtain rfl : g = g' := by simpa [Value.ownBlock] using hg'
      exact ⟨cur0, (heap_alloc_old w.drew _ hgl).trans hc0, rfl, fun j => .inl rfl⟩
end Go.Proofs.YtjmacegibchplaaGreatDoor

/-
  The statements' own lists of texts: copied with marks behind them, and looked at again (cellarlaw.textsOf, stillTexts).
-/
namespace Go.Proofs.YtjmacegibchplaaGreatDoor
open Go.RowKit
set_option linter.unusedVariables false
def txCells (s : List UInt8) : List Value := [strVal s]
theorem txCells_len (x : List UInt8) : (txCells x).length = 1 := rfl
theorem txCells_one (l : List (List UInt8)) : ∀ v ∈ rowCells txCells l, v.oneCell' = true := by
  intro v hv
  simp only [rowCells, List.mem_flatten, List.mem_map] at hv
  obtain ⟨c, ⟨x, _, rfl⟩, hx⟩ := hv
  simp only [txCells, List.mem_cons, List.not_mem_nil, or_false] at hx
  subst hx
  rfl
def TxAt (w : World) (b o : Nat) (l : List (List UInt8)) : Prop := ∀ i (h : i < l.length), w.cell? ⟨b, o + i, none⟩ = some (strVal l[i])
theorem TxAt.row {w : World} {b o : Nat} {l : List (List UInt8)} (h : TxAt w b o l) : RowAt txCells 1 w b o l := by
  intro i hi j v hv
  match j, hv with
  | 0, hv => simp [txCells] at hv; rw [← hv]; simpa using h i hi
  | j + 1, hv => simp [txCells] at hv
theorem TxAt.of_row {w : World} {b o : Nat} {l : List (List UInt8)} (h : RowAt txCells 1 w b o l) : TxAt w b o l := by
  intro i hi
  simpa using h i hi 0 _ rfl
def txMark : List UInt8 := [109, 97, 114, 107]
def tmarked (l : List (List UInt8)) (i : Nat) : List (List UInt8) := l ++ (List.replicate i txMark ++ List.replicate (8 - i) [])
theorem tmarked_len (l : List (List UInt8)) (i : Nat) (h : i ≤ 8) : (tmarked l i).length = l.length + 8 := by simp [tmarked]; omega
theorem tmarked_succ (l : List (List UInt8)) (i : Nat) (h : i < 8) : (tmarked l i).set (l.length + i) txMark = tmarked l (i + 1) := by
  unfold tmarked
  rw [List.set_append_right _ _ (by omega), List.set_append_right _ _ (by simp)]
  congr 1
  rw [show (8 - i) = (8 - (i + 1)) + 1 by omega, List.replicate_succ]
  simp [List.replicate_succ']
theorem tmarked_at (l : List (List UInt8)) (j : Nat) (hj : l.length ≤ j) (h : j < (tmarked l 8).length) : (tmarked l 8)[j] = txMark := by
  have hl := tmarked_len l 8 (by omega)
  have e : (tmarked l 8)[j]? = some txMark := by
    unfold tmarked
    rw [List.getElem?_append_right hj, List.getElem?_append_left (by simp; omega), List.getElem?_replicate, if_pos (by omega)]
  rw [List.getElem?_eq_getElem h] at e
  exact Option.some.inj e
theorem tmarked_lo (l : List (List UInt8)) (j : Nat) (hj : j < l.length) (h : j < (tmarked l 8).length) : (tmarked l 8)[j] = l[j] := by
  have e : (tmarked l 8)[j]? = some l[j] := by
    unfold tmarked
    rw [List.getElem?_append_left hj, List.getElem?_eq_getElem hj]
  rw [List.getElem?_eq_getElem h] at e
  exact Option.some.inj e
theorem eqlS_nil (a : Option Addr) (n c : Nat) (w : World) : (binOp .eql 23 (.slice a n c) (.slice none 0 0)).run Tryz.prog w = .ok (.bool a.isNone) w :=
  Lib.run_eql_slice_nil w 23 9 a n c 0 0 Tryz.underlying23
theorem textsOf_nil (w : World) :
    Calls Tryz.prog 160 #[.slice none 0 0] w fun e w' => e = .returned (.slice none 0 0) ∧ w' = w := by
  have hq := eqlS_nil
  go_enter Tryz.func160, Tryz.ntmps160
  go_wp2
  go_ret
  exact ⟨rfl, rfl⟩
theorem texts_src {w : World} {ad : Addr} {l : List (List UInt8)} (h : TextsAt w (some ad) l) : ∀ j v, (rowCells txCells l)[j]? = some v → w.cell? (ad.add j) = some v := by
  rcases h with rfl | ⟨b, o, e, h⟩
  · intro j v hv; simp [rowCells] at hv
  · obtain rfl : ad = ⟨b, o, none⟩ := by simpa using e
    exact (TxAt.row (l := l) h).src txCells_len
set_option maxRecDepth 100000 in
set_option maxHeartbeats 1000000 in
theorem textsOf_some (l : List (List UInt8)) (ad : Addr) (c : Nat) (w : World) (hl : l.length * 16 ≤ 140737488351232) (hi : TextsAt w (some ad) l) :
    Calls Tryz.prog 160 #[.slice (some ad) l.length c] w fun e w' => e = .returned (.slice (some ⟨w.heap.size, 0, none⟩) l.length (l.length + 8)) ∧ TxAt w' w.heap.size 0 (tmarked l 8) ∧ Below w.heap.size w w' ∧ (∀ j, w'.frozen? ⟨w.heap.size, j, none⟩ = false) := by
  have hq := eqlS_nil
  have hlen := rowCells_length (n := 1) txCells_len l
  obtain ⟨W1, hmk, hrow, hbel, hfz⟩ : ∃ W1, (Instr.makeSlice 23 (.int .i64 ((l.length : Int) + 8)) (.int .i64 ((l.length : Int) + 8))).run Tryz.prog w = .ok (.slice (some ⟨w.heap.size, 0, none⟩) (l.length + 8) (l.length + 8)) W1
      ∧ RowAt txCells 1 W1 w.heap.size 0 (List.replicate (l.length + 8) ([] : List UInt8)) ∧ Below w.heap.size w W1 ∧ ∀ j, W1.frozen? ⟨w.heap.size, j, none⟩ = false := by
    obtain ⟨i0, hi0, hz0, hz1, hz2⟩ := info_parts info_str
    have h := run_make (P := Tryz.prog) w 23 9 i0 _ Tryz.underlying23 hi0 hz0 .i64 .i64 ((l.length : Int) + 8) ((l.length : Int) + 8) (by omega) (by omega) (by rw [hz2]; omega) (by omega)
    rw [hz1, show ((l.length : Int) + 8).toNat = l.length + 8 by omega] at h
    exact ⟨_, h, RowAt.made txCells_len ([] : List UInt8) _ rfl (l.length + 8) w 9, (Below.refl _ _).alloc (Nat.le_refl _) _, fun j => free_block (heap_alloc_new w _)⟩
  have hsrc := texts_src (hi.below hbel (Nat.le_refl _))
  have hcp := run_copy_rec (P := Tryz.prog) W1 23 23 3 9 w.heap.size 0 (l.length + 8) (l.length + 8) ad l.length c 1 (rowCells txCells l) Tryz.underlying23 (by kernel_rfl)
    (by rw [hlen]; congr 1; exact (Nat.min_eq_left (by omega)).symm) hsrc (fun j hj => hrow.there txCells_len j (by simp; omega)) (fun j _ => by rw [Nat.zero_add]; exact hfz j) (txCells_one l)
  have hrow2 : RowAt txCells 1 (W1.setCells w.heap.size 0 (rowCells txCells l)) w.heap.size 0 (tmarked l 0) := by
    have := hrow.copied txCells_len l (by simp)
    unfold tmarked
    simpa using this
  have hbel2 := below_setCells w.heap.size (Nat.le_refl _) (rowCells txCells l) 0 W1 hbel
  have hfz2 : ∀ j, (W1.setCells w.heap.size 0 (rowCells txCells l)).frozen? ⟨w.heap.size, j, none⟩ = false := fun j => by rw [World.frozen?_setCells]; exact hfz j
  generalize W1.setCells w.heap.size 0 (rowCells txCells l) = W2 at *
  clear hrow hfz hsrc hbel hi hlen
  go_enter Tryz.func160, Tryz.ntmps160
  go_wp2_with fail
  clear hcp hmk hq
  go_loopw [5] (fun i wr => ∃ k : Nat, k ≤ 8 ∧ i = .int .i64 k ∧ RowAt txCells 1 wr w.heap.size 0 (tmarked l k) ∧ Below w.heap.size w wr ∧ ∀ j, wr.frozen? ⟨w.heap.size, j, none⟩ = false) (fun i _ => 8 - (intOf i).toNat)
  case atStart => exact ⟨0, by omega, rfl, hrow2, hbel2, hfz2⟩
  case round =>
    obtain ⟨k, hk, rfl, hr, hb, hf⟩ := hrel
    clear hrow2 hbel2 hfz2
    by_cases hlt : k < 8
    · have c0 := TxAt.of_row hr (l.length + k) (by rw [tmarked_len l k hk]; omega)
      have hnew := hr.store txCells_len (l.length + k) (by rw [tmarked_len l k hk]; omega) txMark
      rw [tmarked_succ l k hlt] at hnew
      generalize (tmarked l k)[l.length + k]'(by rw [tmarked_len l k hk]; omega) = y at *
      unfold strVal at c0
      simp only [Nat.zero_add] at c0
      have f0 := hf (l.length + k)
      have hb' := below_setCells w.heap.size (Nat.le_refl _) (txCells txMark) (0 + (l.length + k) * 1) wr hb
      have hf' : ∀ j, (wr.setCells w.heap.size (0 + (l.length + k) * 1) (txCells txMark)).frozen? ⟨w.heap.size, j, none⟩ = false := fun j => by rw [World.frozen?_setCells]; exact hf j
      have e1 : wr.setCells w.heap.size (0 + (l.length + k) * 1) (txCells txMark) = wr.setCell ⟨w.heap.size, l.length + k, none⟩ (.string ⟨#[109, 97, 114, 107]⟩) := by rw [Nat.zero_add, Nat.mul_one]; rfl
      rw [e1] at hnew hb'
      simp only [e1] at hf'
      have H := hide (And.intro hnew (And.intro hb' hf'))
      clear hnew hb' hf' hf e1
      go_wp2_with fail
      go_roundw
      case rel =>
        obtain ⟨hnew, hb', hf'⟩ := unhide H
        exact ⟨k + 1, by omega, by go_num, hnew, hb', hf'⟩
      case measure => simp [intOf]; omega
    · obtain rfl : k = 8 := by omega
      go_wp2_with fail
      go_ret
      exact ⟨rfl, TxAt.of_row hr, hb, hf⟩
theorem stillTexts_nil (w : World) :
    Calls Tryz.prog 162 #[.slice none 0 0, .slice none 0 0] w fun e w' => e = .returned (.bool true) ∧ ∃ n, w' = w.drewN n := by
  have hq := eqlS_nil
  go_enter Tryz.func162, Tryz.ntmps162
  go_wp2_with fail
  refine (sameTexts_same [] none none 0 0 w (by decide) (.inl rfl) (.inl rfl)).mono ?_
  rintro e w1 ⟨rfl, n, hw⟩
  subst hw
  go_wp2_with fail
  go_ret
  exact ⟨rfl, n, rfl⟩
set_option maxHeartbeats 1000000 in
theorem stillTexts_some (l : List (List UInt8)) (g : Nat) (a2 : Option Addr) (c2 : Nat) (w : World) (hl : l.length * 16 ≤ 140737488351232) (h1 : TxAt w g 0 (tmarked l 8)) (h2 : TextsAt w a2 l) :
    Calls Tryz.prog 162 #[.slice (some ⟨g, 0, none⟩) l.length (l.length + 8), .slice a2 l.length c2] w fun e w' => e = .returned (.bool true) ∧ ∃ n, w' = w.drewN n := by
  have hq := eqlS_nil
  have h1l : TxAt w g 0 l := fun i hi => by
    have := h1 i (by rw [tmarked_len l 8 (by omega)]; omega)
    rw [tmarked_lo l i hi] at this
    exact this
  go_enter Tryz.func162, Tryz.ntmps162
  go_wp2_with fail
  refine (sameTexts_same l (some ⟨g, 0, none⟩) a2 _ _ w (by unfold maxLen; omega) (.inr ⟨g, 0, rfl, h1l⟩) h2).mono ?_
  rintro e w1 ⟨rfl, n, hw⟩
  subst hw
  have hle : (l.length : Int) + 8 ≤ ((l.length + 8 : Nat) : Int) := by omega
  go_wp2_with fail
  clear hq
  go_loop [7] (fun i => ∃ j : Nat, l.length ≤ j ∧ j ≤ l.length + 8 ∧ i = .int .i64 j) (fun i => l.length + 8 - (intOf i).toNat)
  case atStart => exact ⟨l.length, by omega, by omega, rfl⟩
  case round =>
    obtain ⟨j, hj1, hj2, rfl⟩ := hrel
    by_cases hlt : j < l.length + 8
    · have hjm : j < (tmarked l 8).length := by rw [tmarked_len l 8 (by omega)]; exact hlt
      have hmk := tmarked_at l j hj1 hjm
      have c0 := h1 j hjm
      rw [hmk] at c0
      have c0' : w.cell? ⟨g, j, none⟩ = some (.string ⟨#[109, 97, 114, 107]⟩) := by rw [Nat.zero_add] at c0; exact c0
      have hlt' : (j : Int) < ((l.length + 8 : Nat) : Int) := by omega
      clear hmk c0
      go_wp2_with fail
      go_round
      case rel => exact ⟨j + 1, by omega, by omega, by go_num⟩
      case measure => simp [intOf]; omega
    · obtain rfl : j = l.length + 8 := by omega
      go_wp2_with fail
      go_ret
      exact ⟨rfl, n, rfl⟩
end Go.Proofs.YtjmacegibchplaaGreatDoor

/-
  Trees made of raw numbers and texts: each is one, and none of its links leads out. Plain lists, no walk.
-/
namespace Go.Proofs.YtjmacegibchplaaGreatDoor
set_option linter.unusedVariables false
def pickP (c n : Int) : Int := (if c < 0 then -(c + 1) else c) % n
end Go.Proofs.YtjmacegibchplaaGreatDoor

/-
  The small functions of the statements without the document's answer: pick, cut, one, up.
-/
namespace Go.Proofs.YtjmacegibchplaaGreatDoor
open Go.RowKit
set_option linter.unusedVariables false
end Go.Proofs.YtjmacegibchplaaGreatDoor

/-
  Lists of entries of the statements without the document's answer: turned, same.
-/
namespace Go.Proofs.YtjmacegibchplaaGreatDoor
open Go.RowKit
set_option linter.unusedVariables false
def OwnsE (w : World) (base : Nat) (v : Value) (l : List En) : Prop := w.ownsRow base 32 3 v l.length (rowCells enCells l)
theorem entsGet {w : World} {a : Option Addr} {l : List En} (h : LiesE w a l) {k : Nat} (hk : k < l.length) : ∃ b o, a = some ⟨b, o, none⟩ ∧ EntsAt w b o l := by
  rcases h with h | h
  · subst h; simp at hk
  · exact h
theorem EntAt.below {B : Nat} {w w' : World} {b p : Nat} {x : En} (h : EntAt w b p x) (hb : Below B w w') (hB : b < B) : EntAt w' b p x := by
  obtain ⟨c0, c1, c2⟩ := h
  exact ⟨(hb.cell (p := ⟨b, _, none⟩) hB).trans c0, (hb.cell (p := ⟨b, _, none⟩) hB).trans c1, (hb.cell (p := ⟨b, _, none⟩) hB).trans c2⟩
end Go.Proofs.YtjmacegibchplaaGreatDoor

/-
  Have two lists the same entries (the statements' own test, without the document's answer)?
-/
namespace Go.Proofs.YtjmacegibchplaaGreatDoor
open Go.RowKit
set_option linter.unusedVariables false
end Go.Proofs.YtjmacegibchplaaGreatDoor

/-
  Is a list of entries in order (the statements' own test, without the document's answer)?
-/
namespace Go.Proofs.YtjmacegibchplaaGreatDoor
open Go.RowKit
set_option linter.unusedVariables false
end Go.Proofs.YtjmacegibchplaaGreatDoor

/-
  Small functions of the statements without the document's answer: one, digits.
-/
namespace Go.Proofs.YtjmacegibchplaaGreatDoor
open Go.RowKit
set_option linter.unusedVariables false
theorem dig_num : ∀ r : Fin 10, strOfNums [48 + (r.val : Int)] = bs [UInt8.ofNat (48 + r.val)] := by decide
theorem bs_add (a b : List UInt8) : bs a ++ bs b = bs (a ++ b) := by
  apply ByteArray.ext
  simp [bs]
end Go.Proofs.YtjmacegibchplaaGreatDoor

/-
  Small functions of the statements: pick, a mark's text, a list full of marks (cellarlaw.pick, strokes, fullTexts, fullItems, fullEntries).
-/
namespace Go.Proofs.YtjmacegibchplaaGreatDoor
open Go.RowKit
set_option linter.unusedVariables false
theorem lawPick (c n : Int) (w : World) (c0 : -9223372036854775808 ≤ c) (c1 : c ≤ 9223372036854775807) (n0 : 0 < n) (n1 : n ≤ 9223372036854775807) :
    Calls Tryz.prog 116 #[.int .i64 c, .int .i64 n] w fun e w' => e = .returned (.int .i64 (pickP c n)) ∧ w' = w := by
  have hnz : ¬ n = 0 := by omega
  by_cases hneg : c < 0
  · have e1 : pickP c n = (-(c + 1)).tmod n := by unfold pickP; rw [if_pos hneg, Int.tmod_eq_emod_of_nonneg (by omega)]
    have b1 := Int.tmod_nonneg n (show 0 ≤ -(c + 1) by omega)
    have b2 := Int.tmod_lt_of_pos (-(c + 1)) n0
    rw [e1]
    go_enter Tryz.func116, Tryz.ntmps116
    go_wp2_with fail
    go_ret
    exact ⟨ret_int (Int.neg_tmod _ _).symm, rfl⟩
  · have e1 : pickP c n = c.tmod n := by unfold pickP; rw [if_neg hneg, Int.tmod_eq_emod_of_nonneg (by omega)]
    have b1 := Int.tmod_nonneg n (show 0 ≤ c by omega)
    have b2 := Int.tmod_lt_of_pos c n0
    rw [e1]
    go_enter Tryz.func116, Tryz.ntmps116
    go_wp2_with fail
    go_ret
    exact ⟨ret_int (Int.tmod_eq_emod_of_nonneg (by omega)).symm, rfl⟩
def strG : Nat → List UInt8 → Nat → List UInt8
  | 0, s, _ => s
  | f + 1, s, i => if i = 0 then s else strG f (s ++ [UInt8.ofNat (48 + i % 10)]) (i / 10)
def strP (i : Nat) : List UInt8 := strG 19 [47] i
theorem strG_len : ∀ f s i, (strG f s i).length ≤ s.length + f
  | 0, s, i => by simp [strG]
  | f + 1, s, i => by
    simp only [strG]
    split
    · omega
    · have := strG_len f (s ++ [UInt8.ofNat (48 + i % 10)]) (i / 10)
      rw [List.length_append, List.length_singleton] at this
      omega
theorem strP_len (i : Nat) : (strP i).length ≤ 20 := strG_len 19 [47] i
theorem strG_zero (f : Nat) (s : List UInt8) : strG f s 0 = s := by cases f <;> simp [strG]
set_option maxHeartbeats 1000000 in
theorem strokes_any (i : Nat) (w : World) (hi : i < 10 ^ 18) :
    Calls Tryz.prog 80 #[.int .i64 i] w fun e w' => e = .returned (.string (bs (strP i))) ∧ Below w.heap.size w w' := by
  have hcv := conv_one
  go_enter Tryz.func80, Tryz.ntmps80
  go_wp2_with fail
  go_loopw [0, 3] (fun mv sv wr => Below w.heap.size w wr ∧ ∃ (f m : Nat) (s : List UInt8), mv = .int .i64 m ∧ sv = .string (bs s) ∧ m < 10 ^ f ∧ f ≤ 19 ∧ m < 10 ^ 18 ∧ s.length + f ≤ 21 ∧ strG f s m = strP i) (fun mv _ _ => (intOf mv).toNat)
  case atStart => exact ⟨Below.refl _ _, 19, i, [47], rfl, rfl, by omega, by omega, by omega, by simp, rfl⟩
  case round =>
    obtain ⟨hbel, f, m, s, rfl, rfl, hf, hf20, hm, hsl, hst⟩ := hrel
    have Hst := hide hst
    have hsz := bs_size s
    clear hst
    by_cases h0 : m = 0
    · subst h0
      have Hs := hide (show s = strP i by rw [← unhide Hst, strG_zero])
      clear hf hm
      go_wp2_with fail
      go_ret
      exact ⟨by rw [unhide Hs]; rfl, hbel⟩
    · obtain ⟨g, rfl⟩ : ∃ g, f = g + 1 := by
        cases f with
        | zero => simp at hf; omega
        | succ g => exact ⟨g, rfl⟩
      have hp : (0 : Int) < (m : Int) := by omega
      have hal : ∀ x, Below w.heap.size w (wr.alloc x) := fun x => hbel.alloc hbel.size x
      have hq : (strOfNums [48 + (m : Int) % 10]).size = 1 := rfl
      have Hn := hide (show bs s ++ strOfNums [48 + (m : Int) % 10] = bs (s ++ [UInt8.ofNat (48 + m % 10)]) by
        have h := dig_num ⟨m % 10, Nat.mod_lt _ (by decide)⟩
        simp only at h
        rw [show (m : Int) % 10 = ((m % 10 : Nat) : Int) by omega, h, bs_add])
      have Hg := hide (show strG g (s ++ [UInt8.ofNat (48 + m % 10)]) (m / 10) = strP i by
        have := unhide Hst
        simp only [strG, if_neg h0] at this
        exact this)
      have hm10 : m / 10 < 10 ^ g := by rw [Nat.pow_succ] at hf; exact Nat.div_lt_of_lt_mul (by rw [Nat.mul_comm]; exact hf)
      have hmd : m / 10 < 10 ^ 18 := by omega
      have Hdm := hide (show ((m : Int) / 10) = ((m / 10 : Nat) : Int) by omega)
      have Hh := hide (And.intro hm10 hmd)
      clear hf hm10 hmd
      go_wp2_with fail
      refine ⟨⟨hal _, g, m / 10, s ++ [UInt8.ofNat (48 + m % 10)], by first | rfl | (rw [unhide Hdm]), by rw [← unhide Hn], (unhide Hh).1, by omega, (unhide Hh).2, by rw [List.length_append, List.length_singleton]; omega, unhide Hg⟩, ?_⟩
      clear Hh hm
      simp only [intOf]
      omega
theorem fullTexts_any (n : Nat) (m : List UInt8) (a : Option Addr) (c : Nat) (w : World) (hn : n ≤ maxLen) (h : TextsAt w a (List.replicate n m)) :
    Calls Tryz.prog 81 #[.slice a n c, .string (bs m)] w fun e w' => e = .returned (.bool true) ∧ w' = w := by
  unfold maxLen at hn
  have hE : ((bs m).toList == (bs m).toList) = true := by simp
  go_enter Tryz.func81, Tryz.ntmps81
  go_wp2_with fail
  go_loop [5] (fun i => ∃ k : Nat, k ≤ n ∧ i = .int .i64 k) (fun i => n - (intOf i).toNat)
  case atStart => exact ⟨0, by omega, rfl⟩
  case round =>
    obtain ⟨k, hk, rfl⟩ := hrel
    by_cases hlt : k < n
    · obtain ⟨b, o, rfl, hc⟩ : ∃ b o, a = some ⟨b, o, none⟩ ∧ w.cell? ⟨b, o + k, none⟩ = some (.string (bs m)) := by
        rcases h with h | ⟨b, o, e, h⟩
        · have := congrArg List.length h; simp at this; omega
        · have := h k (by simpa using hlt)
          rw [List.getElem_replicate] at this
          exact ⟨b, o, e, this⟩
      have q1 : (k : Int) < (n : Int) := by omega
      clear h
      go_wp2_with fail
      go_round
      case rel => exact ⟨k + 1, by omega, by go_num⟩
      case measure => simp [intOf]; omega
    · obtain rfl : k = n := by omega
      go_wp2_with fail
      go_ret
      exact ⟨rfl, rfl⟩
end Go.Proofs.YtjmacegibchplaaGreatDoor

/-
  The document's store: a new one; what stands under a digest, if it is what that says.
-/
namespace Go.Proofs.YtjmacegibchplaaGreatDoor
open Go.RowKit
set_option linter.unusedVariables false
theorem refNew_no (room : Int) (w : World) (h : room < 0 ∨ 100000 < room) :
    Calls Tryz.prog 112 #[.int .i64 room] w fun e w' => e = .returned (.tuple #[.pointer none, .int .i64 5]) ∧ w' = w := by
  by_cases hneg : room < 0
  · go_enter Tryz.func112, Tryz.ntmps112
    go_wp2_with fail
    go_ret2
    exact ⟨rfl, rfl⟩
  · have hg : 100000 < room := by omega
    go_enter Tryz.func112, Tryz.ntmps112
    go_wp2_with fail
    go_ret2
    exact ⟨rfl, rfl⟩
end Go.Proofs.YtjmacegibchplaaGreatDoor

/-
  The program's batches.
-/
namespace Go.Proofs.YtjmacegibchplaaGreatDoor
open Go.RowKit Go.Maps Go.WideMaps
set_option linter.unusedVariables false
theorem Bats.weak {w : World} {b b' : Nat} {v : Value} {vs : List Value} {ls : List (List (List UInt8))} (h : Bats w b v vs ls) (hb : b' ≤ b) : Bats w b' v vs ls :=
  ⟨⟨h.row.1, h.row.2.imp id (fun ⟨g, cap, cur, h1, h2, h3⟩ => ⟨g, cap, cur, h1, Nat.le_trans hb h2, h3⟩)⟩, h.len, fun i hi => ⟨(h.own i hi).1, (h.own i hi).2.imp id (fun ⟨g, cap, cur, h1, h2, h3⟩ => ⟨g, cap, cur, h1, Nat.le_trans hb h2, h3⟩)⟩, h.apart⟩
end Go.Proofs.YtjmacegibchplaaGreatDoor

/-
  The program's bring: what is missing goes out in batches.
-/
namespace Go.Proofs.YtjmacegibchplaaGreatDoor
open Go.RowKit Go.Maps Go.WideMaps
set_option linter.unusedVariables false
end Go.Proofs.YtjmacegibchplaaGreatDoor

/-
  A tree that is brought into a store over a link: what the store holds, and what was sent. Plain lists, no walk.
-/
namespace Go.Proofs.YtjmacegibchplaaGreatDoor
set_option linter.unusedVariables false
end Go.Proofs.YtjmacegibchplaaGreatDoor

/-
  The program's bring.
-/
namespace Go.Proofs.YtjmacegibchplaaGreatDoor
open Go.RowKit Go.Maps Go.WideMaps
set_option linter.unusedVariables false
end Go.Proofs.YtjmacegibchplaaGreatDoor

/-
  The program's Upload.
-/
namespace Go.Proofs.YtjmacegibchplaaGreatDoor
open Go.RowKit Go.Maps Go.WideMaps
set_option linter.unusedVariables false
theorem Fr.widen {S T : Nat → Prop} {a b c : World} (h : Below a.heap.size a b) (k : Fr S b c) (hs : ∀ x, x < a.heap.size → S x → T x) : Fr T a c :=
  ⟨k.os.trans h.os, k.tape.trans h.tape, k.output.trans h.output, Nat.le_trans h.size k.size, fun x hx hn => (k.block x (Nat.lt_of_lt_of_le hx h.size) (fun hS => hn (hs x hx hS))).trans (h.block x hx)⟩
end Go.Proofs.YtjmacegibchplaaGreatDoor

/-
  The statement on Build: its body.
-/
namespace Go.Proofs.YtjmacegibchplaaGreatDoor
open Go.RowKit
set_option linter.unusedVariables false
end Go.Proofs.YtjmacegibchplaaGreatDoor

/-
  The statement on Clash: its body, over any Clash that answers as the document asks.
-/
namespace Go.Proofs.YtjmacegibchplaaGreatDoor
open Go.RowKit
set_option linter.unusedVariables false
theorem outOf_len (l : List En) : (outOf l).length ≤ 100 := by
  unfold outOf
  split
  · rename_i hw
    cases hb : builtP l with
    | none => simp
    | some out => exact builtP_len l (tree_of l hw) out hb
  · simp
end Go.Proofs.YtjmacegibchplaaGreatDoor

/-
  A small tree that is built, brought and fetched: the plain answers. No walk.
-/
namespace Go.Proofs.YtjmacegibchplaaGreatDoor
set_option linter.unusedVariables false
end Go.Proofs.YtjmacegibchplaaGreatDoor

/-
  Does a link lead out (the statements' own test)? The two files of one digest.
-/
namespace Go.Proofs.YtjmacegibchplaaGreatDoor
open Go.RowKit
set_option linter.unusedVariables false
def lenOf (v : Value) : Nat := match v with
  | .string b => b.size
  | _ => 0
end Go.Proofs.YtjmacegibchplaaGreatDoor

/-
  What a store holds is never more than its room by uploads; trees are of bounded size; links of a tree do not lead out. No walk.
-/
namespace Go.Proofs.YtjmacegibchplaaGreatDoor
set_option linter.unusedVariables false
theorem sum_put_le (room : Int) (st : List (List UInt8 × List UInt8)) (b : List UInt8) : sumP (putP room st b).2 ≤ sumP st + b.length := by
  unfold putP
  split
  · simp
  · split
    · simp
    · simp only [sumP_app]; omega
theorem sum_app (a b : List (List UInt8 × List UInt8)) : sumP (a ++ b) = sumP a + sumP b := by
  induction a with
  | nil => simp [sumP]
  | cons x r ih => obtain ⟨k, v⟩ := x; simp only [List.cons_append, sumP, ih]; omega
theorem sum_filtL (f : List UInt8 × List UInt8 → Bool) (a : List (List UInt8 × List UInt8)) : sumP (a.filter f) ≤ sumP a := by
  induction a with
  | nil => simp [sumP]
  | cons x r ih =>
    obtain ⟨k, v⟩ := x
    rw [List.filter_cons]
    split
    · simp only [sumP]; omega
    · simp only [sumP]; omega
theorem sum_plant_le (st : List (List UInt8 × List UInt8)) (d b : List UInt8) : sumP (plantP st d b) ≤ sumP st + b.length := by
  unfold plantP
  rw [sum_app]
  have := sum_filtL (fun p => !(p.1 == d)) st
  split
  · simp only [sumP]; omega
  · simp only [sumP]; omega
section
variable {room : Int} {Q : List (List UInt8 × List UInt8) → Prop} (hQ : ∀ st b, Q st → Q (putP room st b).2)
include hQ
end
end Go.Proofs.YtjmacegibchplaaGreatDoor

/-
  The document's examples: the plain answers. No walk.
-/
namespace Go.Proofs.YtjmacegibchplaaGreatDoor
set_option linter.unusedVariables false
end Go.Proofs.YtjmacegibchplaaGreatDoor

/-
  The program's Fetch: paths, and what stands under a digest.
-/
namespace Go.Proofs.YtjmacegibchplaaGreatDoor
open Go.RowKit Go.Maps Go.WideMaps
set_option linter.unusedVariables false
end Go.Proofs.YtjmacegibchplaaGreatDoor

/-
  Fetch over plain lists, step by step as the program goes. No walk.
-/
namespace Go.Proofs.YtjmacegibchplaaGreatDoor
set_option linter.unusedVariables false
end Go.Proofs.YtjmacegibchplaaGreatDoor

/-
  The program's Fetch: what an item tells of.
-/
namespace Go.Proofs.YtjmacegibchplaaGreatDoor
open Go.RowKit Go.Maps Go.WideMaps
set_option linter.unusedVariables false
end Go.Proofs.YtjmacegibchplaaGreatDoor
