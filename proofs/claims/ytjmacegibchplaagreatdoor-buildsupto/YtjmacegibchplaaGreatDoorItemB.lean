/-
  The statements' own copies of lists of items, and how they are looked at again.
-/
import Derived.Test.YtjmacegibchplaaGreatDoorEncB
import Derived.Test.YtjmacegibchplaaGreatDoorRec
import Derived.Lib.SliceRun
namespace Go.Proofs.YtjmacegibchplaaGreatDoor
open Go.RowKit
set_option linter.unusedVariables false

def itCells (x : P.It) : List Value := [.string x.name, .int .i64 x.kind, .string x.dig, .int .i64 x.size, .string x.tgt]
theorem itCells_len (x : P.It) : (itCells x).length = 5 := rfl
theorem itCells_one (l : List P.It) : ∀ v ∈ rowCells itCells l, v.oneCell' = true := by
  intro v hv
  simp only [rowCells, List.mem_flatten, List.mem_map] at hv
  obtain ⟨c, ⟨x, _, rfl⟩, hx⟩ := hv
  simp only [itCells, List.mem_cons, List.not_mem_nil, or_false] at hx
  rcases hx with rfl | rfl | rfl | rfl | rfl <;> rfl
theorem ItemsAt.row {w : World} {b o : Nat} {l : List P.It} (h : ItemsAt w b o l) : RowAt itCells 5 w b o l := by
  intro i hi j v hv
  obtain ⟨c0, c1, c2, c3, c4⟩ := h i hi
  match j, hv with
  | 0, hv => simp [itCells] at hv; rw [← hv]; exact c0
  | 1, hv => simp [itCells] at hv; rw [← hv]; exact c1
  | 2, hv => simp [itCells] at hv; rw [← hv]; exact c2
  | 3, hv => simp [itCells] at hv; rw [← hv]; exact c3
  | 4, hv => simp [itCells] at hv; rw [← hv]; exact c4
  | j + 5, hv => simp [itCells] at hv
theorem ItemsAt.of_row {w : World} {b o : Nat} {l : List P.It} (h : RowAt itCells 5 w b o l) : ItemsAt w b o l := by
  intro i hi
  exact ⟨h i hi 0 _ rfl, h i hi 1 _ rfl, h i hi 2 _ rfl, h i hi 3 _ rfl, h i hi 4 _ rfl⟩
def itMark : P.It := ⟨⟨#[]⟩, -77, ⟨#[]⟩, 0, ⟨#[]⟩⟩
def itZero : P.It := ⟨⟨#[]⟩, 0, ⟨#[]⟩, 0, ⟨#[]⟩⟩
theorem info_item : (Tryz.prog.info? 47).map (fun i => (i.zero, i.size, i.bytes)) = some (some (.agg #[.string ⟨#[]⟩, .int .i64 0, .string ⟨#[]⟩, .int .i64 0, .string ⟨#[]⟩]), 5, 64) := by kernel_rfl
/-- behind i marks -/
def marked (l : List P.It) (i : Nat) : List P.It := l ++ (List.replicate i itMark ++ List.replicate (8 - i) itZero)
theorem marked_len (l : List P.It) (i : Nat) (h : i ≤ 8) : (marked l i).length = l.length + 8 := by simp [marked]; omega
theorem marked_succ (l : List P.It) (i : Nat) (h : i < 8) : (marked l i).set (l.length + i) itMark = marked l (i + 1) := by
  unfold marked
  rw [List.set_append_right _ _ (by omega), List.set_append_right _ _ (by simp)]
  congr 1
  rw [show (8 - i) = (8 - (i + 1)) + 1 by omega, List.replicate_succ]
  simp [List.replicate_succ']
theorem eql_nil (a : Option Addr) (n c : Nat) (w : World) : (binOp .eql 43 (.slice a n c) (.slice none 0 0)).run Tryz.prog w = .ok (.bool a.isNone) w :=
  Lib.run_eql_slice_nil w 43 47 a n c 0 0 Tryz.underlying43
theorem Lies.src {w : World} {ad : Addr} {l : List P.It} (h : Lies w (some ad) l) : ∀ j v, (rowCells itCells l)[j]? = some v → w.cell? (ad.add j) = some v := by
  rcases h with rfl | ⟨b, o, e, h⟩
  · intro j v hv; simp [rowCells] at hv
  · simp at e; subst e
    exact h.row.src itCells_len
theorem set5 (w : World) (b p : Nat) (x : P.It) : w.setCells b p (itCells x) = ((((w.setCell ⟨b, p, none⟩ (.string x.name)).setCell ⟨b, p + 1, none⟩ (.int .i64 x.kind)).setCell ⟨b, p + 2, none⟩ (.string x.dig)).setCell ⟨b, p + 3, none⟩ (.int .i64 x.size)).setCell ⟨b, p + 4, none⟩ (.string x.tgt) := rfl
end Go.Proofs.YtjmacegibchplaaGreatDoor
