/-
  The program's reader: one item: its contract.
-/
import Derived.Test.YtjmacegibchplaaGreatDoorReadA
import Derived.Deep.RegionHeld3
import Derived.Deep.DeepCutAuto
import Derived.Deep.DrawnRows
namespace Go.Proofs.YtjmacegibchplaaGreatDoor
open Go.RowKit
set_option linter.unusedVariables false
attribute [local go_sem ↓] Go.wp_at_zero Go.wp_at_succ
theorem rTake_len (s : RS) (n : Nat) : (rTake s n).2.rest.length ≤ s.rest.length := by
  unfold rTake; split <;> simp
theorem rOne_len (s : RS) : (rOne s).2.rest.length ≤ s.rest.length := by
  have := rTake_len s 1
  unfold rOne; split <;> exact this
theorem rOne_bd (s : RS) : (rOne s).1 ≤ 255 := by
  unfold rOne
  split
  · simp
  · have := ((rTake s 1).1.headD 0).toNat_lt; simp only; omega
def rItem (s : RS) : P.It × RS :=
  let k := rOne s
  let n := rOne k.2
  let nm := rTake n.2 n.1
  if k.1 = 3 then
    let t := rOne nm.2
    let tg := rTake t.2 t.1
    (⟨bs nm.1, (k.1 : Nat), ⟨#[]⟩, 0, bs tg.1⟩, tg.2)
  else
    let dg := rTake nm.2 3
    let a := rOne dg.2
    let b := rOne a.2
    (⟨bs nm.1, (k.1 : Nat), bs dg.1, ((a.1 + 256 * b.1 : Nat) : Int), ⟨#[]⟩⟩, b.2)
theorem Box.grown {q : Nat} {w w' : World} {k : Nat} {nm : ByteArray} {kd : Int} {dg : ByteArray} {sz : Int} {tg : ByteArray} (h : Box w k nm kd dg sz tg) (hg : w.grownBy w' (some q)) (hne : k ≠ q) : Box w' k nm kd dg sz tg :=
  (hg.block k (Array.getElem?_eq_some_iff.1 h).1 (by simpa using hne)).trans h
theorem Box.lt {w : World} {k : Nat} {nm : ByteArray} {kd : Int} {dg : ByteArray} {sz : Int} {tg : ByteArray} (h : Box w k nm kd dg sz tg) : k < w.heap.size := (Array.getElem?_eq_some_iff.1 h).1
theorem Box.free {w : World} {k : Nat} {nm : ByteArray} {kd : Int} {dg : ByteArray} {sz : Int} {tg : ByteArray} (h : Box w k nm kd dg sz tg) (j : Nat) : w.frozen? ⟨k, j, none⟩ = false := free_block h
theorem Rd.other {w w' : World} {q k : Nat} {s : RS} (h : Rd w q s) (hg : w.grownBy w' (some k)) (hne : q ≠ k) : Rd w' q s :=
  (hg.block q h.lt (by simpa using hne)).trans h
theorem Box.set0 {w : World} {k : Nat} {nm : ByteArray} {kd : Int} {dg : ByteArray} {sz : Int} {tg : ByteArray} (h : Box w k nm kd dg sz tg) (x : ByteArray) : Box (w.setCell ⟨k, 0, none⟩ (.string x)) k x kd dg sz tg := setCell_block _ h
theorem Box.set2 {w : World} {k : Nat} {nm : ByteArray} {kd : Int} {dg : ByteArray} {sz : Int} {tg : ByteArray} (h : Box w k nm kd dg sz tg) (x : ByteArray) : Box (w.setCell ⟨k, 2, none⟩ (.string x)) k nm kd x sz tg := setCell_block _ h
theorem Box.set3 {w : World} {k : Nat} {nm : ByteArray} {kd : Int} {dg : ByteArray} {sz : Int} {tg : ByteArray} (h : Box w k nm kd dg sz tg) (x : Int) : Box (w.setCell ⟨k, 3, none⟩ (.int .i64 x)) k nm kd dg x tg := setCell_block _ h
structure Keep (q z : Nat) (w w' : World) : Prop where
  os : w'.os = w.os
  tape : w'.tape = w.tape
  output : w'.output = w.output
  size : w.heap.size ≤ w'.heap.size
  block : ∀ k, k < z → k ≠ q → w'.heap[k]? = w.heap[k]?
  low : z ≤ w.heap.size
theorem Keep.of {q : Nat} {w w' : World} (h : w.grownBy w' (some q)) : Keep q w.heap.size w w' := ⟨h.os, h.tape, h.output, h.size, fun k hk hne => h.block k hk (by simpa using hne), Nat.le_refl _⟩
theorem Keep.set {q z : Nat} {w w' : World} (h : Keep q z w w') {k : Nat} (hk : z ≤ k) (j : Nat) (v : Value) : Keep q z w (w'.setCell ⟨k, j, none⟩ v) :=
  ⟨h.os, h.tape, h.output, Nat.le_trans h.size (by simp [World.setCell]), fun i hi hne => (Below.heap_setCell w' ⟨k, j, none⟩ v i (by simp; omega)).trans (h.block i hi hne), h.low⟩
theorem Keep.trans {q z : Nat} {w w' w2 : World} (h : Keep q z w w') (g : w'.grownBy w2 (some q)) : Keep q z w w2 :=
  ⟨g.os.trans h.os, g.tape.trans h.tape, g.output.trans h.output, Nat.le_trans h.size g.size, fun i hi hne => (g.block i (Nat.lt_of_lt_of_le hi (Nat.le_trans h.low h.size)) (by simpa using hne)).trans (h.block i hi hne), h.low⟩
theorem Keep.drew {q z : Nat} {w w' : World} (h : Keep q z w w') : Keep q z w w'.drew := ⟨h.os, h.tape, h.output, h.size, h.block, h.low⟩
theorem Keep.grown {q : Nat} {w w' : World} (h : Keep q w.heap.size w w') : w.grownBy w' (some q) := ⟨h.os, h.tape, h.output, h.size, fun k hk hne => h.block k hk (by simpa using hne)⟩
theorem fin5 {q bx : Nat} {w w6 : World} {s : RS} {nm dg tg nm0 dg0 tg0 : ByteArray} {kd sz kd0 sz0 : Int} (h : Rd w6 q s) (hx : Box w6 bx nm kd dg sz tg) (hv : Box w6 w.heap.size nm0 kd0 dg0 sz0 tg0) (G : Keep q w.heap.size w w6) (hq : q < w.heap.size)
    (hne : ¬ w.heap.size = bx) (j : Nat) (v : Value) (hb : w.heap.size ≤ bx) (a : ByteArray) (b : Int) (c : ByteArray) (d : Int) (e : ByteArray) :
    Rd ((((((w6.setCell ⟨bx, j, none⟩ v).setCell ⟨w.heap.size, 0, none⟩ (.string a)).setCell ⟨w.heap.size, 1, none⟩ (.int .i64 b)).setCell ⟨w.heap.size, 2, none⟩ (.string c)).setCell ⟨w.heap.size, 3, none⟩ (.int .i64 d)).setCell ⟨w.heap.size, 4, none⟩ (.string e)) q s
    ∧ Box ((((((w6.setCell ⟨bx, j, none⟩ v).setCell ⟨w.heap.size, 0, none⟩ (.string a)).setCell ⟨w.heap.size, 1, none⟩ (.int .i64 b)).setCell ⟨w.heap.size, 2, none⟩ (.string c)).setCell ⟨w.heap.size, 3, none⟩ (.int .i64 d)).setCell ⟨w.heap.size, 4, none⟩ (.string e)) w.heap.size a b c d e
    ∧ w.grownBy ((((((w6.setCell ⟨bx, j, none⟩ v).setCell ⟨w.heap.size, 0, none⟩ (.string a)).setCell ⟨w.heap.size, 1, none⟩ (.int .i64 b)).setCell ⟨w.heap.size, 2, none⟩ (.string c)).setCell ⟨w.heap.size, 3, none⟩ (.int .i64 d)).setCell ⟨w.heap.size, 4, none⟩ (.string e)) (some q) := by
  refine ⟨?_, ?_, ?_⟩
  · exact (((((h.other (grown_setCell _ _ _ _) (by omega)).other (grown_setCell _ _ _ _) (by omega)).other (grown_setCell _ _ _ _) (by omega)).other (grown_setCell _ _ _ _) (by omega)).other (grown_setCell _ _ _ _) (by omega)).other (grown_setCell _ _ _ _) (by omega)
  · have h1 : Box (w6.setCell ⟨bx, j, none⟩ v) w.heap.size nm0 kd0 dg0 sz0 tg0 := hv.grown (grown_setCell _ _ _ _) hne
    exact setCell_block _ (setCell_block _ (setCell_block _ (setCell_block _ (setCell_block _ h1))))
  · exact ((((((G.set hb j v).set (Nat.le_refl _) _ _).set (Nat.le_refl _) _ _).set (Nat.le_refl _) _ _).set (Nat.le_refl _) _ _).set (Nat.le_refl _) _ _).grown
set_option maxHeartbeats 2000000 in
theorem item_link (q : Nat) (s : RS) (w : World) (hs : s.rest.length ≤ maxLen) (h : Rd w q s) (hk : (rOne s).1 = 3) :
    Calls Tryz.prog 126 #[.pointer (some ⟨q, 0, none⟩)] w fun e w' => e = .returned (itVal (rItem s).1) ∧ Rd w' q (rItem s).2 ∧ w.grownBy w' (some q) := by
  have hq := h.lt
  have er : rItem s = (⟨bs (rTake (rOne (rOne s).2).2 (rOne (rOne s).2).1).1, 3, ⟨#[]⟩, 0, bs (rTake (rOne (rTake (rOne (rOne s).2).2 (rOne (rOne s).2).1).2).2 (rOne (rTake (rOne (rOne s).2).2 (rOne (rOne s).2).1).2).1).1⟩,
      (rTake (rOne (rTake (rOne (rOne s).2).2 (rOne (rOne s).2).1).2).2 (rOne (rTake (rOne (rOne s).2).2 (rOne (rOne s).2).1).2).1).2) := by
    unfold rItem
    simp only
    rw [if_pos hk, hk]; rfl
  rw [er]
  have Hk := hide hk
  clear hk er
  have z1 := rOne_len s
  have b1 := rOne_bd s
  have z2 := rOne_len (rOne s).2
  have b2 := rOne_bd (rOne s).2
  generalize hr1 : rOne s = r1 at *
  generalize hr2 : rOne r1.2 = r2 at *
  have z3 := rTake_len r2.2 r2.1
  generalize hr3 : rTake r2.2 r2.1 = r3 at *
  have z4 := rOne_len r3.2
  have b4 := rOne_bd r3.2
  generalize hr4 : rOne r3.2 = r4 at *
  generalize hr5 : rTake r4.2 r4.1 = r5 at *
  have H1 := hide hr1
  have H2 := hide hr2
  have H3 := hide hr3
  have H4 := hide hr4
  have H5 := hide hr5
  clear hr1 hr2 hr3 hr4 hr5
  go_enter Tryz.func126, Tryz.ntmps126
  go_wp2_with fail
  refine (one_any q s _ hs (by exact (Below.heap_alloc w _ q hq).trans h)).mono ?_
  rintro e w1 ⟨rfl, h1, g1⟩
  rw [unhide H1] at h1 ⊢
  rw [unhide Hk]
  have hqz : q < w1.heap.size := h1.lt
  have s1 : w.heap.size + 1 ≤ w1.heap.size := by have := g1.size; simpa using this
  have hv1 : Box w1 w.heap.size ⟨#[]⟩ 0 ⟨#[]⟩ 0 ⟨#[]⟩ := (Box.new w ⟨#[]⟩ 0 ⟨#[]⟩ 0 ⟨#[]⟩).grown g1 (by omega)
  have hx1 := Box.new w1 ⟨#[]⟩ 3 ⟨#[]⟩ 0 ⟨#[]⟩
  have hv1' : Box (w1.alloc (.cells #[.string ⟨#[]⟩, .int .i64 3, .string ⟨#[]⟩, .int .i64 0, .string ⟨#[]⟩] 47)) w.heap.size ⟨#[]⟩ 0 ⟨#[]⟩ 0 ⟨#[]⟩ := (Below.heap_alloc w1 _ _ hv1.lt).trans hv1
  go_wp2_with fail
  refine (one_any q r1.2 _ (by omega) (by exact (Below.heap_alloc w1 _ q hqz).trans h1)).mono ?_
  rintro e w2 ⟨rfl, h2, g2⟩
  rw [unhide H2] at h2 ⊢
  have hx2 := hx1.grown g2 (by omega)
  have hv2 := hv1'.grown g2 (by omega)
  have G2 : w.grownBy w2 (some q) := grown_trans (grown_trans (World.grownBy_alloc _ _ _) g1) (grown_trans (World.grownBy_alloc _ _ _) g2)
  clear g1 g2 hx1 hv1 hv1' h1
  go_wp2_with fail
  refine (take_any q r2.2 r2.1 w2 b2 (by omega) h2).mono ?_
  rintro e w3 ⟨rfl, h3, g3⟩
  rw [unhide H3] at h3 ⊢
  have hx3 := hx2.grown g3 (by omega)
  have hv3 := hv2.grown g3 (by omega)
  have G3 := grown_trans G2 g3
  clear g3 hx2 hv2 h2 G2
  obtain ⟨c0, c1, c2, c3, c4⟩ := hx3.cells
  have f0 := hx3.free 0
  go_wp2_with fail
  refine (shapeOf_any _ _).mono ?_
  rintro e w4 ⟨rfl, hw4⟩
  have h4 : Rd w4 q r3.2 := by rw [hw4]; exact h3.other (grown_setCell _ _ _ _) (by omega)
  have hx4 : Box w4 w1.heap.size (bs r3.1) 3 ⟨#[]⟩ 0 ⟨#[]⟩ := by rw [hw4]; exact hx3.set0 _
  have hv4 : Box w4 w.heap.size ⟨#[]⟩ 0 ⟨#[]⟩ 0 ⟨#[]⟩ := by rw [hw4]; exact hv3.grown (grown_setCell _ _ _ _) (by omega)
  have G4 : Keep q w.heap.size w w4 := by rw [hw4]; exact (Keep.of G3).set (by omega) _ _
  have e3 : P.shape 3 = 2 := rfl
  rw [e3]
  clear hw4 h3 hx3 hv3 G3 c0 c1 c2 c3 c4 f0
  go_wp2_with fail
  refine (one_any q r3.2 w4 (by omega) h4).mono ?_
  rintro e w5 ⟨rfl, h5, g5⟩
  rw [unhide H4] at h5 ⊢
  have hx5 := hx4.grown g5 (by omega)
  have hv5 := hv4.grown g5 (by omega)
  have G5 := G4.trans g5
  clear g5 hx4 hv4 h4 G4
  go_wp2_with fail
  refine (take_any q r4.2 r4.1 w5 b4 (by omega) h5).mono ?_
  rintro e w6 ⟨rfl, h6, g6⟩
  rw [unhide H5] at h6 ⊢
  have hx6 := hx5.grown g6 (by omega)
  have hv6 := hv5.grown g6 (by omega)
  have G6 := G5.trans g6
  clear g6 hx5 hv5 h5 G5
  obtain ⟨c0, c1, c2, c3, c4⟩ := hx6.cells
  obtain ⟨v0, v1, v2, v3, v4⟩ := hv6.cells
  have f4 := hx6.free 4
  have y0 := hv6.free 0
  have y1 := hv6.free 1
  have y2 := hv6.free 2
  have y3 := hv6.free 3
  have y4 := hv6.free 4
  have n1 : ¬ w.heap.size = w1.heap.size := by omega
  have n2 : ¬ w1.heap.size = w.heap.size := by omega
  go_wp2_with fail
  have hfin := fin5 h6 hx6 hv6 G6 hq n1 4 (.string (bs r5.1)) (by omega) (bs r3.1) 3 ⟨#[]⟩ 0 (bs r5.1)
  clear c0 c1 c2 c3 c4 v0 v1 v2 v3 v4 f4 y0 y1 y2 y3 y4 h6 hx6 hv6 G6
  generalize (((((w6.setCell ⟨w1.heap.size, 4, none⟩ (Value.string (bs r5.1))).setCell ⟨w.heap.size, 0, none⟩ (Value.string (bs r3.1))).setCell ⟨w.heap.size, 1, none⟩ (Value.int IntKind.i64 3)).setCell ⟨w.heap.size, 2, none⟩ (Value.string ⟨#[]⟩)).setCell ⟨w.heap.size, 3, none⟩ (Value.int IntKind.i64 0)).setCell ⟨w.heap.size, 4, none⟩ (Value.string (bs r5.1)) = W9 at *
  obtain ⟨hr, hv, hg⟩ := hfin
  obtain ⟨v0, v1, v2, v3, v4⟩ := hv.cells
  exact bodyPost_ret (v := itVal ⟨bs r3.1, 3, ⟨#[]⟩, 0, bs r5.1⟩) (by simp [results, Tryz.results126, go_sem, itVal, v0, v1, v2, v3, v4]) rfl ⟨rfl, hr, hg⟩
theorem shape_not (k : Nat) (h : k ≠ 3) : (P.shape (k : Int) == 2) = false := by
  unfold P.shape
  have : ¬ (k : Int) = 3 := by omega
  rw [if_neg this]
  repeat (first | rfl | split)
set_option maxHeartbeats 2000000 in
theorem item_plain (q : Nat) (s : RS) (w : World) (hs : s.rest.length ≤ maxLen) (h : Rd w q s) (hk : (rOne s).1 ≠ 3) :
    Calls Tryz.prog 126 #[.pointer (some ⟨q, 0, none⟩)] w fun e w' => e = .returned (itVal (rItem s).1) ∧ Rd w' q (rItem s).2 ∧ w.grownBy w' (some q) := by
  have hq := h.lt
  have er : rItem s = (⟨bs (rTake (rOne (rOne s).2).2 (rOne (rOne s).2).1).1, ((rOne s).1 : Nat), bs (rTake (rTake (rOne (rOne s).2).2 (rOne (rOne s).2).1).2 3).1, (((rOne (rTake (rTake (rOne (rOne s).2).2 (rOne (rOne s).2).1).2 3).2).1 + 256 * (rOne (rOne (rTake (rTake (rOne (rOne s).2).2 (rOne (rOne s).2).1).2 3).2).2).1 : Nat) : Int), ⟨#[]⟩⟩,
      (rOne (rOne (rTake (rTake (rOne (rOne s).2).2 (rOne (rOne s).2).1).2 3).2).2).2) := by
    unfold rItem
    simp only
    rw [if_neg hk]
  rw [er]
  have hsn := shape_not _ hk
  clear er hk
  have z1 := rOne_len s
  have b1 := rOne_bd s
  have z2 := rOne_len (rOne s).2
  have b2 := rOne_bd (rOne s).2
  generalize hr1 : rOne s = r1 at *
  generalize hr2 : rOne r1.2 = r2 at *
  have z3 := rTake_len r2.2 r2.1
  generalize hr3 : rTake r2.2 r2.1 = r3 at *
  have z4 := rTake_len r3.2 3
  generalize hr4 : rTake r3.2 3 = r4 at *
  have z5 := rOne_len r4.2
  have b5 := rOne_bd r4.2
  generalize hr5 : rOne r4.2 = r5 at *
  have b6 := rOne_bd r5.2
  generalize hr6 : rOne r5.2 = r6 at *
  obtain ⟨kd, hkd⟩ : ∃ kd, r1.1 = kd := ⟨_, rfl⟩
  rw [hkd] at hsn ⊢
  obtain ⟨sa, hsa⟩ : ∃ sa, r5.1 = sa := ⟨_, rfl⟩
  obtain ⟨sb, hsb⟩ : ∃ sb, r6.1 = sb := ⟨_, rfl⟩
  rw [hsa] at b5 ⊢
  rw [hsb] at b6 ⊢
  rw [show ((sa + 256 * sb : Nat) : Int) = (sa : Int) + 256 * (sb : Int) by omega]
  have H1 := hide hr1
  have H2 := hide hr2
  have H3 := hide hr3
  have H4 := hide hr4
  have H5 := hide hr5
  have H6 := hide hr6
  have Hk := hide hkd
  have Ha := hide hsa
  have Hb := hide hsb
  clear hr1 hr2 hr3 hr4 hr5 hr6 hkd hsa hsb
  go_enter Tryz.func126, Tryz.ntmps126
  go_wp2_with fail
  refine (one_any q s _ hs (by exact (Below.heap_alloc w _ q hq).trans h)).mono ?_
  rintro e w1 ⟨rfl, h1, g1⟩
  rw [unhide H1] at h1 ⊢
  rw [unhide Hk]
  have hqz : q < w1.heap.size := h1.lt
  have s1 : w.heap.size + 1 ≤ w1.heap.size := by have := g1.size; simpa using this
  have hv1 : Box w1 w.heap.size ⟨#[]⟩ 0 ⟨#[]⟩ 0 ⟨#[]⟩ := (Box.new w ⟨#[]⟩ 0 ⟨#[]⟩ 0 ⟨#[]⟩).grown g1 (by omega)
  have hx1 := Box.new w1 ⟨#[]⟩ kd ⟨#[]⟩ 0 ⟨#[]⟩
  have hv1' : Box (w1.alloc (.cells #[.string ⟨#[]⟩, .int .i64 kd, .string ⟨#[]⟩, .int .i64 0, .string ⟨#[]⟩] 47)) w.heap.size ⟨#[]⟩ 0 ⟨#[]⟩ 0 ⟨#[]⟩ := (Below.heap_alloc w1 _ _ hv1.lt).trans hv1
  go_wp2_with fail
  refine (one_any q r1.2 _ (by omega) (by exact (Below.heap_alloc w1 _ q hqz).trans h1)).mono ?_
  rintro e w2 ⟨rfl, h2, g2⟩
  rw [unhide H2] at h2 ⊢
  have hx2 := hx1.grown g2 (by omega)
  have hv2 := hv1'.grown g2 (by omega)
  have G2 : w.grownBy w2 (some q) := grown_trans (grown_trans (World.grownBy_alloc _ _ _) g1) (grown_trans (World.grownBy_alloc _ _ _) g2)
  clear g1 g2 hx1 hv1 hv1' h1
  go_wp2_with fail
  refine (take_any q r2.2 r2.1 w2 b2 (by omega) h2).mono ?_
  rintro e w3 ⟨rfl, h3, g3⟩
  rw [unhide H3] at h3 ⊢
  have hx3 := hx2.grown g3 (by omega)
  have hv3 := hv2.grown g3 (by omega)
  have G3 := grown_trans G2 g3
  clear g3 hx2 hv2 h2 G2
  obtain ⟨c0, c1, c2, c3, c4⟩ := hx3.cells
  have f0 := hx3.free 0
  go_wp2_with fail
  refine (shapeOf_any _ _).mono ?_
  rintro e w4 ⟨rfl, hw4⟩
  have h4 : Rd w4 q r3.2 := by rw [hw4]; exact h3.other (grown_setCell _ _ _ _) (by omega)
  have hx4 : Box w4 w1.heap.size (bs r3.1) kd ⟨#[]⟩ 0 ⟨#[]⟩ := by rw [hw4]; exact hx3.set0 _
  have hv4 : Box w4 w.heap.size ⟨#[]⟩ 0 ⟨#[]⟩ 0 ⟨#[]⟩ := by rw [hw4]; exact hv3.grown (grown_setCell _ _ _ _) (by omega)
  have G4 : Keep q w.heap.size w w4 := by rw [hw4]; exact (Keep.of G3).set (by omega) _ _
  clear hw4 h3 hx3 hv3 G3 c0 c1 c2 c3 c4 f0
  go_wp2_with fail
  refine (take_any q r3.2 3 w4 (by omega) (by omega) h4).mono ?_
  rintro e w5 ⟨rfl, h5, g5⟩
  rw [unhide H4] at h5 ⊢
  have hx5 := hx4.grown g5 (by omega)
  have hv5 := hv4.grown g5 (by omega)
  have G5 := G4.trans g5
  clear g5 hx4 hv4 h4 G4
  obtain ⟨c0, c1, c2, c3, c4⟩ := hx5.cells
  have f2 := hx5.free 2
  go_wp2_with fail
  have h6 : Rd (w5.setCell ⟨w1.heap.size, 2, none⟩ (.string (bs r4.1))) q r4.2 := h5.other (grown_setCell _ _ _ _) (by omega)
  have hx6 := hx5.set2 (bs r4.1)
  have hv6 : Box (w5.setCell ⟨w1.heap.size, 2, none⟩ (.string (bs r4.1))) w.heap.size ⟨#[]⟩ 0 ⟨#[]⟩ 0 ⟨#[]⟩ := hv5.grown (grown_setCell _ _ _ _) (by omega)
  have G6 : Keep q w.heap.size w (w5.setCell ⟨w1.heap.size, 2, none⟩ (.string (bs r4.1))) := G5.set (by omega) _ _
  clear h5 hx5 hv5 G5 c0 c1 c2 c3 c4 f2
  generalize w5.setCell ⟨w1.heap.size, 2, none⟩ (.string (bs r4.1)) = w6 at *
  refine (one_any q r4.2 w6 (by omega) h6).mono ?_
  rintro e w7 ⟨rfl, h7, g7⟩
  rw [unhide H5] at h7 ⊢
  rw [unhide Ha]
  have hx7 := hx6.grown g7 (by omega)
  have hv7 := hv6.grown g7 (by omega)
  have G7 := G6.trans g7
  clear g7 hx6 hv6 h6 G6
  obtain ⟨c0, c1, c2, c3, c4⟩ := hx7.cells
  have f3 := hx7.free 3
  go_upto_region 8 with fail
  have h8 : Rd (w7.setCell ⟨w1.heap.size, 3, none⟩ (.int .i64 sa)) q r5.2 := h7.other (grown_setCell _ _ _ _) (by omega)
  have hx8 := hx7.set3 (sa : Int)
  have hv8 : Box (w7.setCell ⟨w1.heap.size, 3, none⟩ (.int .i64 sa)) w.heap.size ⟨#[]⟩ 0 ⟨#[]⟩ 0 ⟨#[]⟩ := hv7.grown (grown_setCell _ _ _ _) (by omega)
  have G8 : Keep q w.heap.size w (w7.setCell ⟨w1.heap.size, 3, none⟩ (.int .i64 sa)) := G7.set (by omega) _ _
  clear h7 hx7 hv7 G7 c0 c1 c2 c3 c4 f3
  generalize w7.setCell ⟨w1.heap.size, 3, none⟩ (.int .i64 sa) = w8 at *
  obtain ⟨c0, c1, c2, c3, c4⟩ := hx8.cells
  have hd8 : Rd w8.drew q r5.2 := h8
  have m1 : IntKind.i64.wrap (256 * (sb : Int)) = 256 * (sb : Int) := by rw [IntKind.wrap_i64]; omega
  have m2 : IntKind.i64.wrap ((sa : Int) + 256 * (sb : Int)) = (sa : Int) + 256 * (sb : Int) := by rw [IntKind.wrap_i64]; omega
  have n1 : ¬ w.heap.size = w1.heap.size := by omega
  have n2 : ¬ w1.heap.size = w.heap.size := by omega
  go_region_with ((go_at_call 125; refine (one_any q r5.2 _ (by omega) hd8).mono ?_; rintro e w9 ⟨rfl, h9, g9⟩; rw [unhide H6] at h9 ⊢; rw [unhide Hb]; have hx9 := (show Box w9 _ _ _ _ _ _ from Box.grown (w := w8.drew) hx8 g9 (by omega)); have hv9 := (show Box w9 _ _ _ _ _ _ from Box.grown (w := w8.drew) hv8 g9 (by omega)); have G9 := G8.drew.trans g9; obtain ⟨t0, t1, t2, t3, t4⟩ := hx9.cells; have t3f := hx9.free 3; obtain ⟨v0, v1, v2, v3, v4⟩ := hv9.cells; have y0 := hv9.free 0; have y1 := hv9.free 1; have y2 := hv9.free 2; have y3 := hv9.free 3; have y4 := hv9.free 4))
  all_goals
    clear hd8 h8 hx8 hv8 G8 c0 c1 c2 c3 c4
    go_wp2_with fail
    have hfin := fin5 h9 hx9 hv9 G9 hq n1 3 (.int .i64 ((sa : Int) + 256 * (sb : Int))) (by omega) (bs r3.1) kd (bs r4.1) ((sa : Int) + 256 * (sb : Int)) ⟨#[]⟩
    clear t0 t1 t2 t3 t4 t3f v0 v1 v2 v3 v4 y0 y1 y2 y3 y4 h9 hx9 hv9 G9 g9
    generalize (((((w9.setCell ⟨w1.heap.size, 3, none⟩ (Value.int IntKind.i64 ((sa : Int) + 256 * (sb : Int)))).setCell ⟨w.heap.size, 0, none⟩ (Value.string (bs r3.1))).setCell ⟨w.heap.size, 1, none⟩ (Value.int IntKind.i64 kd)).setCell ⟨w.heap.size, 2, none⟩ (Value.string (bs r4.1))).setCell ⟨w.heap.size, 3, none⟩ (Value.int IntKind.i64 ((sa : Int) + 256 * (sb : Int)))).setCell ⟨w.heap.size, 4, none⟩ (Value.string ⟨#[]⟩) = W9 at *
    obtain ⟨hr, hv, hg⟩ := hfin
    obtain ⟨v0, v1, v2, v3, v4⟩ := hv.cells
    exact bodyPost_ret (v := itVal ⟨bs r3.1, kd, bs r4.1, (sa : Int) + 256 * (sb : Int), ⟨#[]⟩⟩) (by simp [results, Tryz.results126, go_sem, itVal, v0, v1, v2, v3, v4]) rfl ⟨rfl, hr, hg⟩
theorem item_any (q : Nat) (s : RS) (w : World) (hs : s.rest.length ≤ maxLen) (h : Rd w q s) :
    Calls Tryz.prog 126 #[.pointer (some ⟨q, 0, none⟩)] w fun e w' => e = .returned (itVal (rItem s).1) ∧ Rd w' q (rItem s).2 ∧ w.grownBy w' (some q) := by
  by_cases hk : (rOne s).1 = 3
  · exact item_link q s w hs h hk
  · exact item_plain q s w hs h hk
end Go.Proofs.YtjmacegibchplaaGreatDoor
