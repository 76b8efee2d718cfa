/-
  The program's reader: one item: its contract.
-/
import Derived.Test.YtbfjbohdiemofaaGreatDoorReadA
import Derived.Deep.RegionHeld3
import Derived.Deep.DeepCutAuto
import Derived.Deep.DrawnRows
namespace Go.Proofs.YtbfjbohdiemofaaGreatDoor
open Go.RowKit
set_option linter.unusedVariables false
attribute [local go_sem ↓] Go.wp_at_zero Go.wp_at_succ

theorem rTake_len (s : RS) (n : Nat) : (rTake s n).2.rest.length ≤ s.rest.length := by
  unfold rTake; split <;> simp
theorem rOne_len (s : RS) : (rOne s).2.rest.length ≤ s.rest.length := by
  have := rTake_len s 1
  unfold rOne; split <;> exact this
theorem rOne_bd (s : RS) : (rOne s).1 ≤ 255 := by
  unfold rOne
  split
  · simp
  · have := ((rTake s 1).1.headD 0).toNat_lt; simp only; omega
/-- what an item comes to, read by the reader -/
def rItem (s : RS) : P.It × RS :=
  let k := rOne s
  let n := rOne k.2
  let nm := rTake n.2 n.1
  if k.1 = 3 then
    let t := rOne nm.2
    let tg := rTake t.2 t.1
    (⟨bs nm.1, (k.1 : Nat), ⟨#[]⟩, 0, bs tg.1⟩, tg.2)
  else
    let dg := rTake nm.2 3
    let a := rOne dg.2
    let b := rOne a.2
    (⟨bs nm.1, (k.1 : Nat), bs dg.1, ((a.1 + 256 * b.1 : Nat) : Int), ⟨#[]⟩⟩, b.2)
theorem Box.grown {q : Nat} {w w' : World} {k : Nat} {nm : ByteArray} {kd : Int} {dg : ByteArray} {sz : Int} {tg : ByteArray} (h : Box w k nm kd dg sz tg) (hg : w.grownBy w' (some q)) (hne : k ≠ q) : Box w' k nm kd dg sz tg :=
  (hg.block k (Array.getElem?_eq_some_iff.1 h).1 (by simpa using hne)).trans h
theorem Box.lt {w : World} {k : Nat} {nm : ByteArray} {kd : Int} {dg : ByteArray} {sz : Int} {tg : ByteArray} (h : Box w k nm kd dg sz tg) : k < w.heap.size := (Array.getElem?_eq_some_iff.1 h).1
theorem Box.free {w : World} {k : Nat} {nm : ByteArray} {kd : Int} {dg : ByteArray} {sz : Int} {tg : ByteArray} (h : Box w k nm kd dg sz tg) (j : Nat) : w.frozen? ⟨k, j, none⟩ = false := free_block h
theorem Box.set0 {w : World} {k : Nat} {nm : ByteArray} {kd : Int} {dg : ByteArray} {sz : Int} {tg : ByteArray} (h : Box w k nm kd dg sz tg) (x : ByteArray) : Box (w.setCell ⟨k, 0, none⟩ (.string x)) k x kd dg sz tg := setCell_block _ h
theorem Box.set2 {w : World} {k : Nat} {nm : ByteArray} {kd : Int} {dg : ByteArray} {sz : Int} {tg : ByteArray} (h : Box w k nm kd dg sz tg) (x : ByteArray) : Box (w.setCell ⟨k, 2, none⟩ (.string x)) k nm kd x sz tg := setCell_block _ h
theorem Box.set3 {w : World} {k : Nat} {nm : ByteArray} {kd : Int} {dg : ByteArray} {sz : Int} {tg : ByteArray} (h : Box w k nm kd dg sz tg) (x : Int) : Box (w.setCell ⟨k, 3, none⟩ (.int .i64 x)) k nm kd dg x tg := setCell_block _ h
theorem Box.set4 {w : World} {k : Nat} {nm : ByteArray} {kd : Int} {dg : ByteArray} {sz : Int} {tg : ByteArray} (h : Box w k nm kd dg sz tg) (x : ByteArray) : Box (w.setCell ⟨k, 4, none⟩ (.string x)) k nm kd dg sz x := setCell_block _ h
/-- what was there below z is as it was, but for block q -/
structure Keep (q z : Nat) (w w' : World) : Prop where
  os : w'.os = w.os
  tape : w'.tape = w.tape
  output : w'.output = w.output
  size : w.heap.size ≤ w'.heap.size
  block : ∀ k, k < z → k ≠ q → w'.heap[k]? = w.heap[k]?
  low : z ≤ w.heap.size
theorem Keep.of {q : Nat} {w w' : World} (h : w.grownBy w' (some q)) : Keep q w.heap.size w w' := ⟨h.os, h.tape, h.output, h.size, fun k hk hne => h.block k hk (by simpa using hne), Nat.le_refl _⟩
theorem Keep.set {q z : Nat} {w w' : World} (h : Keep q z w w') {k : Nat} (hk : z ≤ k) (j : Nat) (v : Value) : Keep q z w (w'.setCell ⟨k, j, none⟩ v) :=
  ⟨h.os, h.tape, h.output, Nat.le_trans h.size (by simp [World.setCell]), fun i hi hne => (Below.heap_setCell w' ⟨k, j, none⟩ v i (by simp; omega)).trans (h.block i hi hne), h.low⟩
theorem Keep.trans {q z : Nat} {w w' w2 : World} (h : Keep q z w w') (g : w'.grownBy w2 (some q)) : Keep q z w w2 :=
  ⟨g.os.trans h.os, g.tape.trans h.tape, g.output.trans h.output, Nat.le_trans h.size g.size, fun i hi hne => (g.block i (Nat.lt_of_lt_of_le hi (Nat.le_trans h.low h.size)) (by simpa using hne)).trans (h.block i hi hne), h.low⟩
theorem Keep.drew {q z : Nat} {w w' : World} (h : Keep q z w w') : Keep q z w w'.drew := ⟨h.os, h.tape, h.output, h.size, h.block, h.low⟩
theorem Keep.grown {q : Nat} {w w' : World} (h : Keep q w.heap.size w w') : w.grownBy w' (some q) := ⟨h.os, h.tape, h.output, h.size, fun k hk hne => h.block k hk (by simpa using hne)⟩
theorem shape_not (k : Nat) (h : k ≠ 3) : (P.shape (k : Int) == 2) = false := by
  unfold P.shape
  have : ¬ (k : Int) = 3 := by omega
  rw [if_neg this]
  repeat (first | rfl | split)
end Go.Proofs.YtbfjbohdiemofaaGreatDoor
