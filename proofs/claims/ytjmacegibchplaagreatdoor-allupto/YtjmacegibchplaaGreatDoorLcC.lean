import Derived.Test.YtjmacegibchplaaGreatDoorMapV
import Derived.Test.YtjmacegibchplaaGreatDoorEntB
import Derived.Test.YtjmacegibchplaaGreatDoorLnB
namespace Go.Proofs.YtjmacegibchplaaGreatDoor
open Go.RowKit
set_option linter.unusedVariables false
def txCells (s : List UInt8) : List Value := [strVal s]
theorem txCells_len (x : List UInt8) : (txCells x).length = 1 := rfl
theorem txCells_one (l : List (List UInt8)) : ∀ v ∈ rowCells txCells l, v.oneCell' = true := by
 intro v hv
 simp only [rowCells, List.mem_flatten, List.mem_map] at hv
 obtain ⟨c, ⟨x, _, rfl⟩, hx⟩ := hv
 simp only [txCells, List.mem_cons, List.not_mem_nil, or_false] at hx
 subst hx
 rfl
def TxAt (w : World) (b o : Nat) (l : List (List UInt8)) : Prop := ∀ i (h : i < l.length), w.cell? ⟨b, o + i, none⟩ = some (strVal l[i])
theorem TxAt.row {w : World} {b o : Nat} {l : List (List UInt8)} (h : TxAt w b o l) : RowAt txCells 1 w b o l := by
 intro i hi j v hv
 match j, hv with
 | 0, hv => simp [txCells] at hv; rw [← hv]; simpa using h i hi
 | j + 1, hv => simp [txCells] at hv
theorem TxAt.of_row {w : World} {b o : Nat} {l : List (List UInt8)} (h : RowAt txCells 1 w b o l) : TxAt w b o l := by
 intro i hi
 simpa using h i hi 0 _ rfl
def txMark : List UInt8 := [109, 97, 114, 107]
def tmarked (l : List (List UInt8)) (i : Nat) : List (List UInt8) := l ++ (List.replicate i txMark ++ List.replicate (8 - i) [])
theorem tmarked_len (l : List (List UInt8)) (i : Nat) (h : i ≤ 8) : (tmarked l i).length = l.length + 8 := by simp [tmarked]; omega
theorem tmarked_succ (l : List (List UInt8)) (i : Nat) (h : i < 8) : (tmarked l i).set (l.length + i) txMark = tmarked l (i + 1) := by
 unfold tmarked
 rw [List.set_append_right _ _ (by omega), List.set_append_right _ _ (by simp)]
 congr 1
 rw [show (8 - i) = (8 - (i + 1)) + 1 by omega, List.replicate_succ]
 simp [List.replicate_succ']
theorem tmarked_at (l : List (List UInt8)) (j : Nat) (hj : l.length ≤ j) (h : j < (tmarked l 8).length) : (tmarked l 8)[j] = txMark := by
 have hl := tmarked_len l 8 (by omega)
 have e : (tmarked l 8)[j]? = some txMark := by
  unfold tmarked
  rw [List.getElem?_append_right hj, List.getElem?_append_left (by simp; omega), List.getElem?_replicate, if_pos (by omega)]
 rw [List.getElem?_eq_getElem h] at e
 exact Option.some.inj e
theorem tmarked_lo (l : List (List UInt8)) (j : Nat) (hj : j < l.length) (h : j < (tmarked l 8).length) : (tmarked l 8)[j] = l[j] := by
 have e : (tmarked l 8)[j]? = some l[j] := by
  unfold tmarked
  rw [List.getElem?_append_left hj, List.getElem?_eq_getElem hj]
 rw [List.getElem?_eq_getElem h] at e
 exact Option.some.inj e
theorem eqlS_nil (a : Option Addr) (n c : Nat) (w : World) : (binOp .eql 23 (.slice a n c) (.slice none 0 0)).run Tryz.prog w = .ok (.bool a.isNone) w :=
 Lib.run_eql_slice_nil w 23 9 a n c 0 0 Tryz.underlying23
theorem textsOf_nil (w : World) :
  Calls Tryz.prog 160 #[.slice none 0 0] w fun e w' => e = .returned (.slice none 0 0) ∧ w' = w := by
 have hq := eqlS_nil
 go_enter Tryz.func160, Tryz.ntmps160
 go_wp2
 go_ret
 exact ⟨rfl, rfl⟩
theorem texts_src {w : World} {ad : Addr} {l : List (List UInt8)} (h : TextsAt w (some ad) l) : ∀ j v, (rowCells txCells l)[j]? = some v → w.cell? (ad.add j) = some v := by
 rcases h with rfl | ⟨b, o, e, h⟩
 ·intro j v hv; simp [rowCells] at hv
 ·obtain rfl : ad = ⟨b, o, none⟩ := by simpa using e
  exact (TxAt.row (l := l) h).src txCells_len
set_option maxRecDepth 100000 in
set_option maxHeartbeats 1000000 in
theorem textsOf_some (l : List (List UInt8)) (ad : Addr) (c : Nat) (w : World) (hl : l.length * 16 ≤ 140737488351232) (hi : TextsAt w (some ad) l) :
  Calls Tryz.prog 160 #[.slice (some ad) l.length c] w fun e w' => e = .returned (.slice (some ⟨w.heap.size, 0, none⟩) l.length (l.length + 8)) ∧ TxAt w' w.heap.size 0 (tmarked l 8) ∧ Below w.heap.size w w' ∧ (∀ j, w'.frozen? ⟨w.heap.size, j, none⟩ = false) := by
 have hq := eqlS_nil
 have hlen := rowCells_length (n := 1) txCells_len l
 obtain ⟨W1, hmk, hrow, hbel, hfz⟩ : ∃ W1, (Instr.makeSlice 23 (.int .i64 ((l.length : Int) + 8)) (.int .i64 ((l.length : Int) + 8))).run Tryz.prog w = .ok (.slice (some ⟨w.heap.size, 0, none⟩) (l.length + 8) (l.length + 8)) W1
   ∧ RowAt txCells 1 W1 w.heap.size 0 (List.replicate (l.length + 8) ([] : List UInt8)) ∧ Below w.heap.size w W1 ∧ ∀ j, W1.frozen? ⟨w.heap.size, j, none⟩ = false := by
  obtain ⟨i0, hi0, hz0, hz1, hz2⟩ := info_parts info_str
  have h := run_make (P := Tryz.prog) w 23 9 i0 _ Tryz.underlying23 hi0 hz0 .i64 .i64 ((l.length : Int) + 8) ((l.length : Int) + 8) (by omega) (by omega) (by rw [hz2]; omega) (by omega)
  rw [hz1, show ((l.length : Int) + 8).toNat = l.length + 8 by omega] at h
  exact ⟨_, h, RowAt.made txCells_len ([] : List UInt8) _ rfl (l.length + 8) w 9, (Below.refl _ _).alloc (Nat.le_refl _) _, fun j => free_block (heap_alloc_new w _)⟩
 have hsrc := texts_src (hi.below hbel (Nat.le_refl _))
 have hcp := run_copy_rec (P := Tryz.prog) W1 23 23 3 9 w.heap.size 0 (l.length + 8) (l.length + 8) ad l.length c 1 (rowCells txCells l) Tryz.underlying23 (by kernel_rfl)
  (by rw [hlen]; congr 1; exact (Nat.min_eq_left (by omega)).symm) hsrc (fun j hj => hrow.there txCells_len j (by simp; omega)) (fun j _ => by rw [Nat.zero_add]; exact hfz j) (txCells_one l)
 have hrow2 : RowAt txCells 1 (W1.setCells w.heap.size 0 (rowCells txCells l)) w.heap.size 0 (tmarked l 0) := by
  have := hrow.copied txCells_len l (by simp)
  unfold tmarked
  simpa using this
 have hbel2 := below_setCells w.heap.size (Nat.le_refl _) (rowCells txCells l) 0 W1 hbel
 have hfz2 : ∀ j, (W1.setCells w.heap.size 0 (rowCells txCells l)).frozen? ⟨w.heap.size, j, none⟩ = false := fun j => by rw [World.frozen?_setCells]; exact hfz j
 generalize W1.setCells w.heap.size 0 (rowCells txCells l) = W2 at *
 clear hrow hfz hsrc hbel hi hlen
 go_enter Tryz.func160, Tryz.ntmps160
 go_wp2_with fail
 clear hcp hmk hq
 go_loopw [5] (fun i wr => ∃ k : Nat, k ≤ 8 ∧ i = .int .i64 k ∧ RowAt txCells 1 wr w.heap.size 0 (tmarked l k) ∧ Below w.heap.size w wr ∧ ∀ j, wr.frozen? ⟨w.heap.size, j, none⟩ = false) (fun i _ => 8 - (intOf i).toNat)
 case atStart => exact ⟨0, by omega, rfl, hrow2, hbel2, hfz2⟩
 case round =>
  obtain ⟨k, hk, rfl, hr, hb, hf⟩ := hrel
  clear hrow2 hbel2 hfz2
  by_cases hlt : k < 8
  ·have c0 := TxAt.of_row hr (l.length + k) (by rw [tmarked_len l k hk]; omega)
   have hnew := hr.store txCells_len (l.length + k) (by rw [tmarked_len l k hk]; omega) txMark
   rw [tmarked_succ l k hlt] at hnew
   generalize (tmarked l k)[l.length + k]'(by rw [tmarked_len l k hk]; omega) = y at *
   unfold strVal at c0
   simp only [Nat.zero_add] at c0
   have f0 := hf (l.length + k)
   have hb' := below_setCells w.heap.size (Nat.le_refl _) (txCells txMark) (0 + (l.length + k) * 1) wr hb
   have hf' : ∀ j, (wr.setCells w.heap.size (0 + (l.length + k) * 1) (txCells txMark)).frozen? ⟨w.heap.size, j, none⟩ = false := fun j => by rw [World.frozen?_setCells]; exact hf j
   have e1 : wr.setCells w.heap.size (0 + (l.length + k) * 1) (txCells txMark) = wr.setCell ⟨w.heap.size, l.length + k, none⟩ (.string ⟨#[109, 97, 114, 107]⟩) := by rw [Nat.zero_add, Nat.mul_one]; rfl
   rw [e1] at hnew hb'
   simp only [e1] at hf'
   have H := hide (And.intro hnew (And.intro hb' hf'))
   clear hnew hb' hf' hf e1
   go_wp2_with fail
   go_roundw
   case rel =>
    obtain ⟨hnew, hb', hf'⟩ := unhide H
    exact ⟨k + 1, by omega, by go_num, hnew, hb', hf'⟩
   case measure => simp [intOf]; omega
  ·obtain rfl : k = 8 := by omega
   go_wp2_with fail
   go_ret
   exact ⟨rfl, TxAt.of_row hr, hb, hf⟩
theorem stillTexts_nil (w : World) :
  Calls Tryz.prog 162 #[.slice none 0 0, .slice none 0 0] w fun e w' => e = .returned (.bool true) ∧ ∃ n, w' = w.drewN n := by
 have hq := eqlS_nil
 go_enter Tryz.func162, Tryz.ntmps162
 go_wp2_with fail
 refine (sameTexts_same [] none none 0 0 w (by decide) (.inl rfl) (.inl rfl)).mono ?_
 rintro e w1 ⟨rfl, n, hw⟩
 subst hw
 go_wp2_with fail
 go_ret
 exact ⟨rfl, n, rfl⟩
set_option maxHeartbeats 1000000 in
theorem stillTexts_some (l : List (List UInt8)) (g : Nat) (a2 : Option Addr) (c2 : Nat) (w : World) (hl : l.length * 16 ≤ 140737488351232) (h1 : TxAt w g 0 (tmarked l 8)) (h2 : TextsAt w a2 l) :
  Calls Tryz.prog 162 #[.slice (some ⟨g, 0, none⟩) l.length (l.length + 8), .slice a2 l.length c2] w fun e w' => e = .returned (.bool true) ∧ ∃ n, w' = w.drewN n := by
 have hq := eqlS_nil
 have h1l : TxAt w g 0 l := fun i hi => by
  have := h1 i (by rw [tmarked_len l 8 (by omega)]; omega)
  rw [tmarked_lo l i hi] at this
  exact this
 go_enter Tryz.func162, Tryz.ntmps162
 go_wp2_with fail
 refine (sameTexts_same l (some ⟨g, 0, none⟩) a2 _ _ w (by unfold maxLen; omega) (.inr ⟨g, 0, rfl, h1l⟩) h2).mono ?_
 rintro e w1 ⟨rfl, n, hw⟩
 subst hw
 have hle : (l.length : Int) + 8 ≤ ((l.length + 8 : Nat) : Int) := by omega
 go_wp2_with fail
 clear hq
 go_loop [7] (fun i => ∃ j : Nat, l.length ≤ j ∧ j ≤ l.length + 8 ∧ i = .int .i64 j) (fun i => l.length + 8 - (intOf i).toNat)
 case atStart => exact ⟨l.length, by omega, by omega, rfl⟩
 case round =>
  obtain ⟨j, hj1, hj2, rfl⟩ := hrel
  by_cases hlt : j < l.length + 8
  ·have hjm : j < (tmarked l 8).length := by rw [tmarked_len l 8 (by omega)]; exact hlt
   have hmk := tmarked_at l j hj1 hjm
   have c0 := h1 j hjm
   rw [hmk] at c0
   have c0' : w.cell? ⟨g, j, none⟩ = some (.string ⟨#[109, 97, 114, 107]⟩) := by rw [Nat.zero_add] at c0; exact c0
   have hlt' : (j : Int) < ((l.length + 8 : Nat) : Int) := by omega
   clear hmk c0
   go_wp2_with fail
   go_round
   case rel => exact ⟨j + 1, by omega, by omega, by go_num⟩
   case measure => simp [intOf]; omega
  ·obtain rfl : j = l.length + 8 := by omega
   go_wp2_with fail
   go_ret
   exact ⟨rfl, n, rfl⟩
def inCells (s : Int) : List Value := [.int .i64 s]
theorem inCells_len (x : Int) : (inCells x).length = 1 := rfl
theorem inCells_one (l : List Int) : ∀ v ∈ rowCells inCells l, v.oneCell' = true := by
 intro v hv
 simp only [rowCells, List.mem_flatten, List.mem_map] at hv
 obtain ⟨c, ⟨x, _, rfl⟩, hx⟩ := hv
 simp only [inCells, List.mem_cons, List.not_mem_nil, or_false] at hx
 subst hx
 rfl
def InAt (w : World) (b o : Nat) (l : List Int) : Prop := ∀ i (h : i < l.length), w.cell? ⟨b, o + i, none⟩ = some (.int .i64 l[i])
theorem InAt.row {w : World} {b o : Nat} {l : List Int} (h : InAt w b o l) : RowAt inCells 1 w b o l := by
 intro i hi j v hv
 match j, hv with
 | 0, hv => simp [inCells] at hv; rw [← hv]; simpa using h i hi
 | j + 1, hv => simp [inCells] at hv
theorem InAt.of_row {w : World} {b o : Nat} {l : List Int} (h : RowAt inCells 1 w b o l) : InAt w b o l := by
 intro i hi
 simpa using h i hi 0 _ rfl
def inMark : Int := -77
def imarked (l : List Int) (i : Nat) : List Int := l ++ (List.replicate i inMark ++ List.replicate (8 - i) 0)
theorem imarked_len (l : List Int) (i : Nat) (h : i ≤ 8) : (imarked l i).length = l.length + 8 := by simp [imarked]; omega
theorem imarked_succ (l : List Int) (i : Nat) (h : i < 8) : (imarked l i).set (l.length + i) inMark = imarked l (i + 1) := by
 unfold imarked
 rw [List.set_append_right _ _ (by omega), List.set_append_right _ _ (by simp)]
 congr 1
 rw [show (8 - i) = (8 - (i + 1)) + 1 by omega, List.replicate_succ]
 simp [List.replicate_succ']
theorem imarked_at (l : List Int) (j : Nat) (hj : l.length ≤ j) (h : j < (imarked l 8).length) : (imarked l 8)[j] = inMark := by
 have hl := imarked_len l 8 (by omega)
 have e : (imarked l 8)[j]? = some inMark := by
  unfold imarked
  rw [List.getElem?_append_right hj, List.getElem?_append_left (by simp; omega), List.getElem?_replicate, if_pos (by omega)]
 rw [List.getElem?_eq_getElem h] at e
 exact Option.some.inj e
theorem imarked_lo (l : List Int) (j : Nat) (hj : j < l.length) (h : j < (imarked l 8).length) : (imarked l 8)[j] = l[j] := by
 have e : (imarked l 8)[j]? = some l[j] := by
  unfold imarked
  rw [List.getElem?_append_left hj, List.getElem?_eq_getElem hj]
 rw [List.getElem?_eq_getElem h] at e
 exact Option.some.inj e
theorem eqlI_nil (a : Option Addr) (n c : Nat) (w : World) : (binOp .eql 55 (.slice a n c) (.slice none 0 0)).run Tryz.prog w = .ok (.bool a.isNone) w :=
 Lib.run_eql_slice_nil w 55 3 a n c 0 0 Tryz.underlying55
theorem intsOf_nil (w : World) :
  Calls Tryz.prog 164 #[.slice none 0 0] w fun e w' => e = .returned (.slice none 0 0) ∧ w' = w := by
 have hq := eqlI_nil
 go_enter Tryz.func164, Tryz.ntmps164
 go_wp2
 go_ret
 exact ⟨rfl, rfl⟩
theorem ints_src {w : World} {ad : Addr} {l : List Int} (h : IntsAt w (some ad) l) : ∀ j v, (rowCells inCells l)[j]? = some v → w.cell? (ad.add j) = some v := by
 rcases h with rfl | ⟨b, o, e, h⟩
 ·intro j v hv; simp [rowCells] at hv
 ·obtain rfl : ad = ⟨b, o, none⟩ := by simpa using e
  exact (InAt.row (l := l) h).src inCells_len
set_option maxRecDepth 100000 in
set_option maxHeartbeats 1000000 in
theorem intsOf_some (l : List Int) (ad : Addr) (c : Nat) (w : World) (hl : l.length * 8 ≤ 140737488351232) (hi : IntsAt w (some ad) l) :
  Calls Tryz.prog 164 #[.slice (some ad) l.length c] w fun e w' => e = .returned (.slice (some ⟨w.heap.size, 0, none⟩) l.length (l.length + 8)) ∧ InAt w' w.heap.size 0 (imarked l 8) ∧ Below w.heap.size w w' ∧ (∀ j, w'.frozen? ⟨w.heap.size, j, none⟩ = false) := by
 have hq := eqlI_nil
 have hlen := rowCells_length (n := 1) inCells_len l
 obtain ⟨W1, hmk, hrow, hbel, hfz⟩ : ∃ W1, (Instr.makeSlice 55 (.int .i64 ((l.length : Int) + 8)) (.int .i64 ((l.length : Int) + 8))).run Tryz.prog w = .ok (.slice (some ⟨w.heap.size, 0, none⟩) (l.length + 8) (l.length + 8)) W1
   ∧ RowAt inCells 1 W1 w.heap.size 0 (List.replicate (l.length + 8) (0 : Int)) ∧ Below w.heap.size w W1 ∧ ∀ j, W1.frozen? ⟨w.heap.size, j, none⟩ = false := by
  obtain ⟨i0, hi0, hz0, hz1, hz2⟩ := info_parts info_int
  have h := run_make (P := Tryz.prog) w 55 3 i0 _ Tryz.underlying55 hi0 hz0 .i64 .i64 ((l.length : Int) + 8) ((l.length : Int) + 8) (by omega) (by omega) (by rw [hz2]; omega) (by omega)
  rw [hz1, show ((l.length : Int) + 8).toNat = l.length + 8 by omega] at h
  exact ⟨_, h, RowAt.made inCells_len (0 : Int) _ rfl (l.length + 8) w 3, (Below.refl _ _).alloc (Nat.le_refl _) _, fun j => free_block (heap_alloc_new w _)⟩
 have hsrc := ints_src (hi.below hbel (Nat.le_refl _))
 have hcp := run_copy_rec (P := Tryz.prog) W1 55 55 3 3 w.heap.size 0 (l.length + 8) (l.length + 8) ad l.length c 1 (rowCells inCells l) Tryz.underlying55 (by kernel_rfl)
  (by rw [hlen]; congr 1; exact (Nat.min_eq_left (by omega)).symm) hsrc (fun j hj => hrow.there inCells_len j (by simp; omega)) (fun j _ => by rw [Nat.zero_add]; exact hfz j) (inCells_one l)
 have hrow2 : RowAt inCells 1 (W1.setCells w.heap.size 0 (rowCells inCells l)) w.heap.size 0 (imarked l 0) := by
  have := hrow.copied inCells_len l (by simp)
  unfold imarked
  simpa using this
 have hbel2 := below_setCells w.heap.size (Nat.le_refl _) (rowCells inCells l) 0 W1 hbel
 have hfz2 : ∀ j, (W1.setCells w.heap.size 0 (rowCells inCells l)).frozen? ⟨w.heap.size, j, none⟩ = false := fun j => by rw [World.frozen?_setCells]; exact hfz j
 generalize W1.setCells w.heap.size 0 (rowCells inCells l) = W2 at *
 clear hrow hfz hsrc hbel hi hlen
 go_enter Tryz.func164, Tryz.ntmps164
 go_wp2_with fail
 clear hcp hmk hq
 go_loopw [5] (fun i wr => ∃ k : Nat, k ≤ 8 ∧ i = .int .i64 k ∧ RowAt inCells 1 wr w.heap.size 0 (imarked l k) ∧ Below w.heap.size w wr ∧ ∀ j, wr.frozen? ⟨w.heap.size, j, none⟩ = false) (fun i _ => 8 - (intOf i).toNat)
 case atStart => exact ⟨0, by omega, rfl, hrow2, hbel2, hfz2⟩
 case round =>
  obtain ⟨k, hk, rfl, hr, hb, hf⟩ := hrel
  clear hrow2 hbel2 hfz2
  by_cases hlt : k < 8
  ·have c0 := InAt.of_row hr (l.length + k) (by rw [imarked_len l k hk]; omega)
   have hnew := hr.store inCells_len (l.length + k) (by rw [imarked_len l k hk]; omega) inMark
   rw [imarked_succ l k hlt] at hnew
   generalize (imarked l k)[l.length + k]'(by rw [imarked_len l k hk]; omega) = y at *
   simp only [Nat.zero_add] at c0
   have f0 := hf (l.length + k)
   have hb' := below_setCells w.heap.size (Nat.le_refl _) (inCells inMark) (0 + (l.length + k) * 1) wr hb
   have hf' : ∀ j, (wr.setCells w.heap.size (0 + (l.length + k) * 1) (inCells inMark)).frozen? ⟨w.heap.size, j, none⟩ = false := fun j => by rw [World.frozen?_setCells]; exact hf j
   have e1 : wr.setCells w.heap.size (0 + (l.length + k) * 1) (inCells inMark) = wr.setCell ⟨w.heap.size, l.length + k, none⟩ (.int .i64 (-77)) := by rw [Nat.zero_add, Nat.mul_one]; rfl
   rw [e1] at hnew hb'
   simp only [e1] at hf'
   have H := hide (And.intro hnew (And.intro hb' hf'))
   clear hnew hb' hf' hf e1
   go_wp2_with fail
   go_roundw
   case rel =>
    obtain ⟨hnew, hb', hf'⟩ := unhide H
    exact ⟨k + 1, by omega, by go_num, hnew, hb', hf'⟩
   case measure => simp [intOf]; omega
  ·obtain rfl : k = 8 := by omega
   go_wp2_with fail
   go_ret
   exact ⟨rfl, InAt.of_row hr, hb, hf⟩
theorem stillInts_nil (w : World) :
  Calls Tryz.prog 165 #[.slice none 0 0, .slice none 0 0] w fun e w' => e = .returned (.bool true) ∧ ∃ n, w' = w.drewN n := by
 have hq := eqlI_nil
 go_enter Tryz.func165, Tryz.ntmps165
 go_wp2_with fail
 go_loopw [5] (fun i wr => i = .int .i64 0 ∧ w = wr) (fun _ _ => 0)
 case atStart => exact ⟨rfl, rfl⟩
 case round =>
  obtain ⟨rfl, rfl⟩ := hrel
  go_wp2_with fail
  go_ret
  exact ⟨rfl, 0, rfl⟩
set_option maxRecDepth 100000 in
set_option maxHeartbeats 1000000 in
theorem stillInts_some (l : List Int) (g : Nat) (a2 : Option Addr) (c2 : Nat) (w : World) (hl : l.length * 8 ≤ 140737488351232) (h1 : InAt w g 0 (imarked l 8)) (h2 : IntsAt w a2 l) :
  Calls Tryz.prog 165 #[.slice (some ⟨g, 0, none⟩) l.length (l.length + 8), .slice a2 l.length c2] w fun e w' => e = .returned (.bool true) ∧ ∃ n, w' = w.drewN n := by
 have hq := eqlI_nil
 have h1l : InAt w g 0 l := fun i hi => by
  have := h1 i (by rw [imarked_len l 8 (by omega)]; omega)
  rw [imarked_lo l i hi] at this
  exact this
 have hle : (l.length : Int) + 8 ≤ ((l.length + 8 : Nat) : Int) := by omega
 go_enter Tryz.func165, Tryz.ntmps165
 go_wp2_with fail
 go_loopw [5] (fun i wr => ∃ k : Nat, k ≤ l.length ∧ i = .int .i64 k ∧ ∃ n, wr = w.drewN n) (fun i _ => l.length - (intOf i).toNat)
 case atStart => exact ⟨0, by omega, rfl, 0, rfl⟩
 case round =>
  obtain ⟨k, hk, rfl, n, rfl⟩ := hrel
  by_cases hlt : k < l.length
  ·obtain ⟨b, o, rfl, hci⟩ : ∃ b o, a2 = some ⟨b, o, none⟩ ∧ ∀ i (h : i < l.length), w.cell? ⟨b, o + i, none⟩ = some (.int .i64 l[i]) := by
    rcases h2 with h | h
    ·subst h; simp at hlt
    ·exact h
   have c1 := h1l k hlt
   have c2' := hci k hlt
   rw [Nat.zero_add] at c1
   have q1 : (k : Int) < (l.length : Int) := by omega
   generalize l[k] = x at *
   clear h1 h1l hci h2 hq hle
   go_upto_region 6 with fail
   go_quiet (fail)
   go_wp2_with fail
   exact ⟨⟨k + 1, by omega, by go_num, ⟨_, rfl⟩⟩, by simp [intOf]; omega⟩
  ·obtain rfl : k = l.length := by omega
   go_wp2_with fail
   clear hq
   go_loop [7] (fun i => ∃ j : Nat, l.length ≤ j ∧ j ≤ l.length + 8 ∧ i = .int .i64 j) (fun i => l.length + 8 - (intOf i).toNat)
   case atStart => exact ⟨l.length, by omega, by omega, rfl⟩
   case round =>
    obtain ⟨j, hj1, hj2, rfl⟩ := hrel
    by_cases hlt2 : j < l.length + 8
    ·have hjm : j < (imarked l 8).length := by rw [imarked_len l 8 (by omega)]; exact hlt2
     have hmk := imarked_at l j hj1 hjm
     have c0 := h1 j hjm
     rw [hmk] at c0
     have c0' : w.cell? ⟨g, j, none⟩ = some (.int .i64 (-77)) := by rw [Nat.zero_add] at c0; exact c0
     have hlt' : (j : Int) < ((l.length + 8 : Nat) : Int) := by omega
     clear hmk c0
     go_wp2_with fail
     go_round
     case rel => exact ⟨j + 1, by omega, by omega, by go_num⟩
     case measure => simp [intOf]; omega
    ·obtain rfl : j = l.length + 8 := by omega
     go_wp2_with fail
     go_ret
     exact ⟨rfl, n, rfl⟩
end Go.Proofs.YtjmacegibchplaaGreatDoor