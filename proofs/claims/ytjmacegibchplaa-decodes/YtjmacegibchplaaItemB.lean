/-
  The statements' own copies of lists of items, and how they are looked at again.
-/
import Derived.Test.YtjmacegibchplaaEncB
import Derived.Test.YtjmacegibchplaaRec
import Derived.Lib.SliceRun
namespace Go.Proofs.Ytjmacegibchplaa
open Go.RowKit
set_option linter.unusedVariables false

def itCells (x : P.It) : List Value := [.string x.name, .int .i64 x.kind, .string x.dig, .int .i64 x.size, .string x.tgt]
theorem itCells_len (x : P.It) : (itCells x).length = 5 := rfl
theorem itCells_one (l : List P.It) : ∀ v ∈ rowCells itCells l, v.oneCell' = true := by
  intro v hv
  simp only [rowCells, List.mem_flatten, List.mem_map] at hv
  obtain ⟨c, ⟨x, _, rfl⟩, hx⟩ := hv
  simp only [itCells, List.mem_cons, List.not_mem_nil, or_false] at hx
  rcases hx with rfl | rfl | rfl | rfl | rfl <;> rfl
theorem ItemsAt.row {w : World} {b o : Nat} {l : List P.It} (h : ItemsAt w b o l) : RowAt itCells 5 w b o l := by
  intro i hi j v hv
  obtain ⟨c0, c1, c2, c3, c4⟩ := h i hi
  match j, hv with
  | 0, hv => simp [itCells] at hv; rw [← hv]; exact c0
  | 1, hv => simp [itCells] at hv; rw [← hv]; exact c1
  | 2, hv => simp [itCells] at hv; rw [← hv]; exact c2
  | 3, hv => simp [itCells] at hv; rw [← hv]; exact c3
  | 4, hv => simp [itCells] at hv; rw [← hv]; exact c4
  | j + 5, hv => simp [itCells] at hv
theorem ItemsAt.of_row {w : World} {b o : Nat} {l : List P.It} (h : RowAt itCells 5 w b o l) : ItemsAt w b o l := by
  intro i hi
  exact ⟨h i hi 0 _ rfl, h i hi 1 _ rfl, h i hi 2 _ rfl, h i hi 3 _ rfl, h i hi 4 _ rfl⟩
def itMark : P.It := ⟨⟨#[]⟩, -77, ⟨#[]⟩, 0, ⟨#[]⟩⟩
def itZero : P.It := ⟨⟨#[]⟩, 0, ⟨#[]⟩, 0, ⟨#[]⟩⟩
theorem info_item : (Try.prog.info? 35).map (fun i => (i.zero, i.size, i.bytes)) = some (some (.agg #[.string ⟨#[]⟩, .int .i64 0, .string ⟨#[]⟩, .int .i64 0, .string ⟨#[]⟩]), 5, 64) := by kernel_rfl
/-- behind i marks -/
def marked (l : List P.It) (i : Nat) : List P.It := l ++ (List.replicate i itMark ++ List.replicate (8 - i) itZero)
theorem marked_len (l : List P.It) (i : Nat) (h : i ≤ 8) : (marked l i).length = l.length + 8 := by simp [marked]; omega
theorem marked_succ (l : List P.It) (i : Nat) (h : i < 8) : (marked l i).set (l.length + i) itMark = marked l (i + 1) := by
  unfold marked
  rw [List.set_append_right _ _ (by omega), List.set_append_right _ _ (by simp)]
  congr 1
  rw [show (8 - i) = (8 - (i + 1)) + 1 by omega, List.replicate_succ]
  simp [List.replicate_succ']
theorem eql_nil (a : Option Addr) (n c : Nat) (w : World) : (binOp .eql 24 (.slice a n c) (.slice none 0 0)).run Try.prog w = .ok (.bool a.isNone) w :=
  Lib.run_eql_slice_nil w 24 35 a n c 0 0 Try.underlying24
theorem itemsOf_nil (w : World) :
    Calls Try.prog 9 #[.slice none 0 0] w fun e w' => e = .returned (.slice none 0 0) ∧ w' = w := by
  have hq := eql_nil
  go_enter Try.func9, Try.ntmps9
  go_wp2
  go_ret
  exact ⟨rfl, rfl⟩
theorem Lies.src {w : World} {ad : Addr} {l : List P.It} (h : Lies w (some ad) l) : ∀ j v, (rowCells itCells l)[j]? = some v → w.cell? (ad.add j) = some v := by
  rcases h with rfl | ⟨b, o, e, h⟩
  · intro j v hv; simp [rowCells] at hv
  · simp at e; subst e
    exact h.row.src itCells_len
theorem set5 (w : World) (b p : Nat) (x : P.It) : w.setCells b p (itCells x) = ((((w.setCell ⟨b, p, none⟩ (.string x.name)).setCell ⟨b, p + 1, none⟩ (.int .i64 x.kind)).setCell ⟨b, p + 2, none⟩ (.string x.dig)).setCell ⟨b, p + 3, none⟩ (.int .i64 x.size)).setCell ⟨b, p + 4, none⟩ (.string x.tgt) := rfl
set_option maxRecDepth 100000 in
set_option maxHeartbeats 1000000 in
theorem itemsOf_some (l : List P.It) (ad : Addr) (c : Nat) (w : World) (hl : l.length * 64 ≤ 140737488351232) (hi : Lies w (some ad) l) :
    Calls Try.prog 9 #[.slice (some ad) l.length c] w fun e w' => e = .returned (.slice (some ⟨w.heap.size, 0, none⟩) l.length (l.length + 8)) ∧ ItemsAt w' w.heap.size 0 (marked l 8) ∧ Below w.heap.size w w' := by
  have hq := eql_nil
  have hlen := rowCells_length (n := 5) itCells_len l
  obtain ⟨W1, hmk, hrow, hbel, hfz⟩ : ∃ W1, (Instr.makeSlice 24 (.int .i64 ((l.length : Int) + 8)) (.int .i64 ((l.length : Int) + 8))).run Try.prog w = .ok (.slice (some ⟨w.heap.size, 0, none⟩) (l.length + 8) (l.length + 8)) W1
      ∧ RowAt itCells 5 W1 w.heap.size 0 (List.replicate (l.length + 8) itZero) ∧ Below w.heap.size w W1 ∧ ∀ j, W1.frozen? ⟨w.heap.size, j, none⟩ = false := by
    obtain ⟨i0, hi0, hz0, hz1, hz2⟩ := info_parts info_item
    have h := run_make (P := Try.prog) w 24 35 i0 _ Try.underlying24 hi0 hz0 .i64 .i64 ((l.length : Int) + 8) ((l.length : Int) + 8) (by omega) (by omega) (by rw [hz2]; omega) (by omega)
    rw [hz1, show ((l.length : Int) + 8).toNat = l.length + 8 by omega] at h
    exact ⟨_, h, RowAt.made itCells_len itZero _ rfl (l.length + 8) w 35, (Below.refl _ _).alloc (Nat.le_refl _) _, fun j => free_block (heap_alloc_new w _)⟩
  have hsrc := (hi.below hbel (Nat.le_refl _)).src
  have hcp := run_copy_rec (P := Try.prog) W1 24 24 3 35 w.heap.size 0 (l.length + 8) (l.length + 8) ad l.length c 5 (rowCells itCells l) Try.underlying24 (by kernel_rfl)
    (by rw [hlen]; congr 1; exact (Nat.min_eq_left (by omega)).symm) hsrc (fun j hj => hrow.there itCells_len j (by simp; omega)) (fun j _ => by rw [Nat.zero_add]; exact hfz j) (itCells_one l)
  have hrow2 : RowAt itCells 5 (W1.setCells w.heap.size 0 (rowCells itCells l)) w.heap.size 0 (marked l 0) := by
    have := hrow.copied itCells_len l (by simp)
    unfold marked
    simpa using this
  have hbel2 := below_setCells w.heap.size (Nat.le_refl _) (rowCells itCells l) 0 W1 hbel
  have hfz2 : ∀ j, (W1.setCells w.heap.size 0 (rowCells itCells l)).frozen? ⟨w.heap.size, j, none⟩ = false := fun j => by rw [World.frozen?_setCells]; exact hfz j
  generalize W1.setCells w.heap.size 0 (rowCells itCells l) = W2 at *
  clear hrow hfz hsrc hbel hi hlen
  go_enter Try.func9, Try.ntmps9
  go_wp2_with fail
  clear hcp hmk hq
  go_loopw [5] (fun i wr => ∃ k : Nat, k ≤ 8 ∧ i = .int .i64 k ∧ RowAt itCells 5 wr w.heap.size 0 (marked l k) ∧ Below w.heap.size w wr ∧ ∀ j, wr.frozen? ⟨w.heap.size, j, none⟩ = false) (fun i _ => 8 - (intOf i).toNat)
  case atStart => exact ⟨0, by omega, rfl, hrow2, hbel2, hfz2⟩
  case round =>
    obtain ⟨k, hk, rfl, hr, hb, hf⟩ := hrel
    clear hrow2 hbel2 hfz2
    by_cases hlt : k < 8
    · obtain ⟨c0, c1, c2, c3, c4⟩ := ItemsAt.of_row hr (l.length + k) (by rw [marked_len l k hk]; omega)
      have hnew := hr.store itCells_len (l.length + k) (by rw [marked_len l k hk]; omega) itMark
      rw [marked_succ l k hlt] at hnew
      generalize (marked l k)[l.length + k]'(by rw [marked_len l k hk]; omega) = y at *
      obtain ⟨nm, kd, dg, sz, tg⟩ := y
      simp only [Nat.zero_add] at c0 c1 c2 c3 c4
      have f0 := hf ((l.length + k) * 5)
      have f1 := hf ((l.length + k) * 5 + 1)
      have f2 := hf ((l.length + k) * 5 + 2)
      have f3 := hf ((l.length + k) * 5 + 3)
      have f4 := hf ((l.length + k) * 5 + 4)
      have hb' := below_setCells w.heap.size (Nat.le_refl _) (itCells itMark) (0 + (l.length + k) * 5) wr hb
      have hf' : ∀ j, (wr.setCells w.heap.size (0 + (l.length + k) * 5) (itCells itMark)).frozen? ⟨w.heap.size, j, none⟩ = false := fun j => by rw [World.frozen?_setCells]; exact hf j
      rw [Nat.zero_add, set5] at hnew hb'
      simp only [Nat.zero_add, set5] at hf'
      simp only [itMark] at hnew hb' hf'
      have H := hide (And.intro hnew (And.intro hb' hf'))
      clear hnew hb' hf' hf
      go_wp2_with fail
      go_roundw
      case rel =>
        obtain ⟨hnew, hb', hf'⟩ := unhide H
        exact ⟨k + 1, by omega, by go_num, hnew, hb', hf'⟩
      case measure => simp [intOf]; omega
    · obtain rfl : k = 8 := by omega
      go_wp2_with fail
      go_ret
      exact ⟨rfl, ItemsAt.of_row hr, hb⟩
end Go.Proofs.Ytjmacegibchplaa
