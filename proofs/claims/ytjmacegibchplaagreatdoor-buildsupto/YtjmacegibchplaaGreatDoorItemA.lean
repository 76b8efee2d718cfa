/-
  Items of directories as values and in memory; the program's test of one item.
-/
import Derived.Test.YtjmacegibchplaaGreatDoorTextA
import Derived.Test.YtjmacegibchplaaGreatDoorTextB
namespace Go.Proofs.YtjmacegibchplaaGreatDoor
open Go.RowKit
set_option linter.unusedVariables false

def itVal (x : P.It) : Value := .agg #[.string x.name, .int .i64 x.kind, .string x.dig, .int .i64 x.size, .string x.tgt]
/-- its texts are no longer than a text may be -/
def Fits (x : P.It) : Prop := x.name.size ≤ maxLen ∧ x.dig.size ≤ maxLen ∧ x.tgt.size ≤ maxLen

set_option maxHeartbeats 1000000 in
theorem isItem_any (nm : ByteArray) (kd : Int) (dg : ByteArray) (sz : Int) (tg : ByteArray) (w : World) (h1 : nm.size ≤ maxLen) (h2 : dg.size ≤ maxLen) (h3 : tg.size ≤ maxLen) :
    Calls Tryz.prog 127 #[.agg #[.string nm, .int .i64 kd, .string dg, .int .i64 sz, .string tg]] w fun e w' => e = .returned (.bool (P.itemOk ⟨nm, kd, dg, sz, tg⟩)) ∧ Below w.heap.size w w' := by
  go_enter Tryz.func127, Tryz.ntmps127
  go_wp2_with (first
    | (go_at_call 170; refine (isName_any _ _ h1).mono ?_; rintro e w' ⟨rfl, rfl⟩)
    | (go_at_call 144; refine (shapeOf_any _ _).mono ?_; rintro e w' ⟨rfl, rfl⟩)
    | (go_at_call 171; refine (isDigest_any _ _ h2).mono ?_; rintro e w' ⟨rfl, rfl⟩)
    | (go_at_call 86; refine (within_any _ _ _ _ (by decide)).mono ?_; rintro e w' ⟨rfl, rfl⟩)
    | (go_at_call 172; refine (isTarget_any _ _ h3).mono ?_; rintro e w' ⟨rfl, rfl⟩))
  all_goals
    go_ret
    refine ⟨ret_bool ?_, (Below.refl _ _).alloc (Nat.le_refl _) _⟩
    simp only [P.itemOk, P.plainOk, P.linkOk]
    simp_all

/-- an item in memory: five cells -/
def ItemAt (w : World) (b p : Nat) (x : P.It) : Prop :=
  w.cell? ⟨b, p, none⟩ = some (.string x.name) ∧ w.cell? ⟨b, p + 1, none⟩ = some (.int .i64 x.kind)
    ∧ w.cell? ⟨b, p + 2, none⟩ = some (.string x.dig) ∧ w.cell? ⟨b, p + 3, none⟩ = some (.int .i64 x.size) ∧ w.cell? ⟨b, p + 4, none⟩ = some (.string x.tgt)
/-- items in a row of memory, five cells each -/
def ItemsAt (w : World) (b o : Nat) (l : List P.It) : Prop := ∀ i (h : i < l.length), ItemAt w b (o + i * 5) l[i]
def FitAll (l : List P.It) : Prop := ∀ i (h : i < l.length), Fits l[i]
theorem block_lt {w : World} {b o : Nat} {v : Value} (h : w.cell? ⟨b, o, none⟩ = some v) : b < w.heap.size := by
  rcases Nat.lt_or_ge b w.heap.size with hl | hl
  · exact hl
  · have hn : w.heap[b]? = none := by simp [hl]
    simp [World.cell?, hn] at h
theorem ItemAt.lt {w : World} {b p : Nat} {x : P.It} (h : ItemAt w b p x) : b < w.heap.size := block_lt h.1
theorem ItemAt.below {B : Nat} {w w' : World} {b p : Nat} {x : P.It} (h : ItemAt w b p x) (hb : Below B w w') (hB : b < B) : ItemAt w' b p x := by
  obtain ⟨c0, c1, c2, c3, c4⟩ := h
  exact ⟨(hb.cell (p := ⟨b, _, none⟩) hB).trans c0, (hb.cell (p := ⟨b, _, none⟩) hB).trans c1, (hb.cell (p := ⟨b, _, none⟩) hB).trans c2, (hb.cell (p := ⟨b, _, none⟩) hB).trans c3, (hb.cell (p := ⟨b, _, none⟩) hB).trans c4⟩
theorem ItemsAt.below {B : Nat} {w w' : World} {b o : Nat} {l : List P.It} (h : ItemsAt w b o l) (hb : Below B w w') (hB : w.heap.size ≤ B) : ItemsAt w' b o l :=
  fun i hi => (h i hi).below hb (Nat.lt_of_lt_of_le (h i hi).lt hB)

def it0 : P.It := ⟨ByteArray.empty, 0, ByteArray.empty, 0, ByteArray.empty⟩
/-- the i-th of some items is one, behind the one ahead of it -/
def okAt (l : List P.It) (i : Nat) : Bool := P.itemOk (l.getD i it0) && (i == 0 || Op.bytesLess (l.getD (i - 1) it0).name.toList (l.getD i it0).name.toList)
def okTo (l : List P.It) (k : Nat) : Bool := (List.range k).all (okAt l)
def dirOk (l : List P.It) : Bool := decide (l.length ≤ 40) && okTo l l.length
theorem okTo_succ (l : List P.It) (k : Nat) : okTo l (k + 1) = (okTo l k && okAt l k) := by simp [okTo, List.range_succ]
theorem okTo_mono (l : List P.It) (k n : Nat) (h : k ≤ n) (hk : okTo l k = false) : okTo l n = false := by
  simp only [okTo, List.all_eq_false, List.mem_range] at *
  obtain ⟨i, hi, hx⟩ := hk
  exact ⟨i, by omega, hx⟩
theorem getD_eq (l : List P.It) (k : Nat) (h : k < l.length) : l.getD k it0 = l[k] := by simp [List.getD, h]

theorem okAt_no (l : List P.It) (k : Nat) (h : k < l.length) (hn : P.itemOk l[k] = false) : okAt l k = false := by
  unfold okAt; rw [getD_eq l k h, hn]; rfl
theorem okAt_zero (l : List P.It) (h : 0 < l.length) (hy : P.itemOk l[0] = true) : okAt l 0 = true := by
  unfold okAt; rw [getD_eq l 0 h, hy]; rfl
theorem okAt_succ (l : List P.It) (j : Nat) (h : j + 1 < l.length) (hj : j < l.length) (hy : P.itemOk l[j + 1] = true) : okAt l (j + 1) = Op.bytesLess l[j].name.toList l[j + 1].name.toList := by
  unfold okAt; rw [Nat.add_sub_cancel, getD_eq l (j + 1) h, getD_eq l j hj, hy]; rfl
theorem dirOk_at (l : List P.It) (k : Nat) (h : k < l.length) (hn : okAt l k = false) : dirOk l = false := by
  have := okTo_mono l (k + 1) l.length (by omega) (by rw [okTo_succ, hn]; simp)
  unfold dirOk; rw [this]; simp

set_option maxHeartbeats 1000000 in
theorem isDirectory_some (l : List P.It) (b o c : Nat) (w : World) (hl : l.length ≤ maxLen) (hi : ItemsAt w b o l) (hf : FitAll l) :
    Calls Tryz.prog 85 #[.slice (some ⟨b, o, none⟩) l.length c] w fun e w' => e = .returned (.bool (dirOk l)) ∧ Below w.heap.size w w' := by
  unfold maxLen at hl
  by_cases h40 : (40 : Int) < (l.length : Int)
  · go_enter Tryz.func85, Tryz.ntmps85
    go_wp2
    go_ret
    exact ⟨ret_bool (by simp [dirOk]; omega), Below.refl _ _⟩
  go_enter Tryz.func85, Tryz.ntmps85
  go_wp2
  go_loopw [10] (fun i wr => ∃ k : Nat, k ≤ l.length ∧ i = .int .i64 k ∧ Below w.heap.size w wr ∧ okTo l k = true) (fun i _ => l.length - (intOf i).toNat)
  case atStart => exact ⟨0, Nat.zero_le _, rfl, Below.refl _ _, rfl⟩
  case round =>
    obtain ⟨k, hk, rfl, hbel, hok⟩ := hrel
    have Hok := hide hok
    clear hok
    by_cases hlt : k < l.length
    · obtain ⟨x, hx⟩ : ∃ x, l[k] = x := ⟨_, rfl⟩
      obtain ⟨nm, kd, dg, sz, tg⟩ := x
      obtain ⟨c0, c1, c2, c3, c4⟩ := (hi k hlt).below hbel (hi k hlt).lt
      obtain ⟨f0, f1, f2⟩ := hf k hlt
      rw [hx] at c0 c1 c2 c3 c4 f0 f1 f2
      have Hx := hide hx
      clear hx
      simp only at c0 c1 c2 c3 c4 f0 f1 f2
      by_cases hit : P.itemOk ⟨nm, kd, dg, sz, tg⟩ = true
      · have Hit := hide hit
        go_wp2_with fail
        refine (isItem_any nm kd dg sz tg _ f0 f1 f2).mono ?_
        rintro e w2 ⟨rfl, hb2⟩
        rw [hit]
        clear hit
        have hb2' : Below w.heap.size w w2 := (hbel.alloc hbel.size _).trans (hb2.mono (by simp; exact Nat.le_trans hbel.size (Nat.le_succ _)))
        have q0 : w2.cell? ⟨wr.heap.size, 0, none⟩ = some (.string nm) := by
          rw [hb2.cell (p := ⟨wr.heap.size, 0, none⟩) (by simp)]; simp
        rcases Nat.eq_zero_or_pos k with h0 | hp
        · subst h0
          go_wp2_with fail
          go_quiet (fail)
          go_wp2
          go_roundw
          case rel =>
            refine ⟨1, by omega, rfl, below_drewN hb2' _, ?_⟩
            rw [okTo_succ, unhide Hok, okAt_zero l hlt (by rw [unhide Hx]; exact unhide Hit)]; rfl
          case measure => simp [intOf]; omega
        · obtain ⟨j, rfl⟩ : ∃ j, k = j + 1 := ⟨k - 1, by omega⟩
          have hj : j < l.length := by omega
          have hj' : (j : Int) < (l.length : Int) := by omega
          obtain ⟨p0, -⟩ := (hi j hj).below hb2' (hi j hj).lt
          have Hs := hide (okAt_succ l j hlt hj (by rw [unhide Hx]; exact unhide Hit))
          rw [unhide Hx] at Hs
          generalize l[j].name = pn at *
          clear c0 c1 c2 c3 c4 hb2
          go_wp2_with fail
          go_quiet (fail)
          go_wp2
          · have hn : (!Op.bytesLess pn.toList nm.toList) = true := by assumption
            go_ret
            refine ⟨ret_bool (dirOk_at l (j + 1) hlt ?_).symm, below_drewN hb2' _⟩
            rw [unhide Hs]; simpa using hn
          · have hn : (!Op.bytesLess pn.toList nm.toList) = false := by assumption
            go_roundw
            case rel =>
              refine ⟨j + 1 + 1, by omega, by go_num, below_drewN hb2' _, ?_⟩
              rw [okTo_succ, unhide Hok, unhide Hs]; simpa using hn
            case measure => simp [intOf]; omega
      · have hit' : P.itemOk ⟨nm, kd, dg, sz, tg⟩ = false := by simpa using hit
        have Hit := hide hit'
        clear hit
        go_wp2_with fail
        refine (isItem_any nm kd dg sz tg _ f0 f1 f2).mono ?_
        rintro e w2 ⟨rfl, hb2⟩
        rw [hit']
        clear hit'
        have hb2' : Below w.heap.size w w2 := (hbel.alloc hbel.size _).trans (hb2.mono (by simp; exact Nat.le_trans hbel.size (Nat.le_succ _)))
        clear hb2
        go_wp2_with fail
        go_ret
        exact ⟨ret_bool (dirOk_at l k hlt (okAt_no l k hlt (by rw [unhide Hx]; exact unhide Hit))).symm, hb2'⟩
    · obtain rfl : k = l.length := by omega
      go_wp2
      go_ret
      exact ⟨ret_bool (by unfold dirOk; rw [unhide Hok, decide_eq_true (by omega)]; rfl), hbel⟩
end Go.Proofs.YtjmacegibchplaaGreatDoor
