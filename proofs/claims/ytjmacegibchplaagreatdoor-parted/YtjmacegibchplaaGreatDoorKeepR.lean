import Derived.Test.YtjmacegibchplaaGreatDoorUpA
import Derived.Test.YtjmacegibchplaaGreatDoorLnB
import Derived.Test.YtjmacegibchplaaGreatDoorCardA
import Derived.Test.YtjmacegibchplaaGreatDoorParA
import Derived.Test.YtjmacegibchplaaGreatDoorFtA
import Derived.Deep.DrawnRows
import Derived.Deep.RegionHeld3
/-
  Numbers owned: appended to, read.
-/
namespace Go.Proofs.YtjmacegibchplaaGreatDoor
open Go.RowKit
set_option linter.unusedVariables false
def OwnsN (w : World) (base : Nat) (v : Value) (l : List Int) : Prop := w.ownsRow base 3 1 v l.length (l.map (Value.int .i64))
theorem bw0 {wr w9 : World} (h : Below wr.drew.heap.size wr.drew w9) : Below wr.heap.size wr w9 := ⟨h.os, h.tape, h.output, h.size, h.block⟩
theorem bw1 {wr w9 : World} {x : Obj} (h : Below ((wr.alloc x).drew).heap.size ((wr.alloc x).drew) w9) : Below wr.heap.size wr w9 := by
  have h1 : Below ((wr.alloc x)).heap.size (wr.alloc x) w9 := ⟨h.os, h.tape, h.output, h.size, h.block⟩
  have h0 : Below wr.heap.size wr (wr.alloc x) := (Below.refl _ _).alloc (Nat.le_refl _) _
  exact h0.trans (h1.mono h0.size)
theorem bw2 {wr w9 : World} {x y : Obj} (h : Below (((wr.alloc x).alloc y).drew).heap.size (((wr.alloc x).alloc y).drew) w9) : Below wr.heap.size wr w9 := by
  have h1 : Below (((wr.alloc x).alloc y)).heap.size ((wr.alloc x).alloc y) w9 := ⟨h.os, h.tape, h.output, h.size, h.block⟩
  have h0 : Below wr.heap.size wr ((wr.alloc x).alloc y) := ((Below.refl _ _).alloc (Nat.le_refl _) _).alloc (by simp) _
  exact h0.trans (h1.mono h0.size)
end Go.Proofs.YtjmacegibchplaaGreatDoor

/-
  Trees made of raw numbers and texts: the one statement that makes an entry's path, in whatever order.
-/
namespace Go.Proofs.YtjmacegibchplaaGreatDoor
open Go.RowKit
set_option linter.unusedVariables false
attribute [local go_sem ↓] Go.wp_at_zero Go.wp_at_succ
theorem conv_at (W : World) (g : Nat) (x : Int) (h : W.cell? ⟨g, 0, none⟩ = some (.int .u8 x)) :
    (convert 102 9 (.slice (some ⟨g, 0, none⟩) 1 1)).run Tryz.prog W = .ok (.string (strOfNums [x])) W := by
  refine run_convert_bytes_arg _ 102 5 Tryz.underlying102 Tryz.underlying5 _ 0 1 1 [x] rfl ?_ 9 Tryz.underlying9
  intro i hi
  match i, hi with
  | 0, _ => simpa using h
theorem u8_wrap (n : Int) (h0 : 0 ≤ n) (h1 : n < 256) : IntKind.u8.wrap n = n := by
  unfold IntKind.wrap
  have e : (2 ^ IntKind.u8.bits : Int) = 256 := by decide
  have e2 : IntKind.u8.signed = false := rfl
  rw [e, e2]
  simp only [Bool.false_and, Bool.false_eq_true, if_false]
  omega
theorem let_num : ∀ m : Fin 26, strOfNums [97 + (m.val : Int)] = bs [UInt8.ofNat (97 + m.val)] := by decide
def EntB (b : Nat) (W : World) (p : ByteArray) : Prop := W.heap[b]? = some (.cells #[.string p, .int .i64 0, .string ⟨#[]⟩] 32 (0, 0))
theorem eb1 (w9 : World) (p : ByteArray) : EntB w9.heap.size (w9.alloc (.cells #[.string p, .int .i64 0, .string ⟨#[]⟩] 32)) p := heap_alloc_new w9 _
theorem eb2 (w9 : World) (p : ByteArray) (x : Obj) : EntB (w9.heap.size + 1) ((w9.alloc x).alloc (.cells #[.string p, .int .i64 0, .string ⟨#[]⟩] 32)) p := by
  have := heap_alloc_new (w9.alloc x) (.cells #[.string p, .int .i64 0, .string ⟨#[]⟩] 32)
  rw [show (w9.alloc x).heap.size = w9.heap.size + 1 by simp] at this
  exact this
theorem eb3 {b : Nat} {W : World} {p : ByteArray} (h : EntB b W p) (x : Obj) : EntB b (W.alloc x) p := (Below.heap_alloc _ _ _ (Array.getElem?_eq_some_iff.1 h).1).trans h
theorem eb4 {b : Nat} {w9 : World} (p : ByteArray) (h : EntB b w9 ⟨#[]⟩) : EntB b (((w9.setCell ⟨b, 0, none⟩ (.string p)).setCell ⟨b, 1, none⟩ (.int .i64 0)).setCell ⟨b, 2, none⟩ (.string ⟨#[]⟩)) p := by
  have h1 := heap_setCell_same w9 b 0 _ _ (.string p) h
  have h2 := heap_setCell_same _ b 1 _ _ (.int .i64 0) h1
  exact heap_setCell_same _ b 2 _ _ (.string ⟨#[]⟩) h2
theorem gb1 (w9 : World) (p : ByteArray) : (w9.alloc (.cells #[.string p, .int .i64 0, .string ⟨#[]⟩] 32)).heap[w9.heap.size]? = some (.cells #[.string p, .int .i64 0, .string ⟨#[]⟩] 32 (0, 0)) := eb1 w9 p
theorem gb2 (w9 : World) (p : ByteArray) (x : Obj) : ((w9.alloc x).alloc (.cells #[.string p, .int .i64 0, .string ⟨#[]⟩] 32)).heap[w9.heap.size + 1]? = some (.cells #[.string p, .int .i64 0, .string ⟨#[]⟩] 32 (0, 0)) := eb2 w9 p x
theorem gb3 (w9 : World) (p : ByteArray) (x : Obj) : ((w9.alloc (.cells #[.string p, .int .i64 0, .string ⟨#[]⟩] 32)).alloc x).heap[w9.heap.size]? = some (.cells #[.string p, .int .i64 0, .string ⟨#[]⟩] 32 (0, 0)) := eb3 (eb1 w9 p) x
theorem gb4 {b : Nat} {w9 : World} (p : ByteArray) (h : EntB b w9 ⟨#[]⟩) : (((w9.setCell ⟨b, 0, none⟩ (.string p)).setCell ⟨b, 1, none⟩ (.int .i64 0)).setCell ⟨b, 2, none⟩ (.string ⟨#[]⟩)).heap[b]? = some (.cells #[.string p, .int .i64 0, .string ⟨#[]⟩] 32 (0, 0)) := eb4 p h
theorem gb5 {b : Nat} {w9 : World} (p : ByteArray) (h : EntB b w9 ⟨#[]⟩) (x : Obj) : ((((w9.setCell ⟨b, 0, none⟩ (.string p)).setCell ⟨b, 1, none⟩ (.int .i64 0)).setCell ⟨b, 2, none⟩ (.string ⟨#[]⟩)).alloc x).heap[b]? = some (.cells #[.string p, .int .i64 0, .string ⟨#[]⟩] 32 (0, 0)) := eb3 (eb4 p h) x
theorem cal {W : World} {a : Addr} {v : Value} (o : Obj) (h : W.cell? a = some v) : (W.alloc o).cell? a = some v := by
  rw [World.cell?_alloc_some _ _ _ (by rw [h]; rfl), h]
theorem cn1 (w : World) (c : Value) (t : Nat) : (w.alloc (.cells #[c] t)).drew.cell? ⟨w.heap.size, 0, none⟩ = some c := by simp
theorem cn2 (w : World) (c : Value) (t : Nat) (y : Obj) : ((w.alloc (.cells #[c] t)).alloc y).drew.cell? ⟨w.heap.size, 0, none⟩ = some c := by simp
theorem cn3 (w : World) (c : Value) (t : Nat) (y : Obj) : ((w.alloc y).alloc (.cells #[c] t)).drew.cell? ⟨w.heap.size + 1, 0, none⟩ = some c := by simp
theorem EntB.c0 {b : Nat} {W : World} {p : ByteArray} (h : EntB b W p) : W.cell? ⟨b, 0, none⟩ = some (.string p) := by simpa using cell_of_block (j := 0) h
theorem EntB.c1 {b : Nat} {W : World} {p : ByteArray} (h : EntB b W p) : W.cell? ⟨b, 1, none⟩ = some (.int .i64 0) := by simpa using cell_of_block (j := 1) h
theorem EntB.c2 {b : Nat} {W : World} {p : ByteArray} (h : EntB b W p) : W.cell? ⟨b, 2, none⟩ = some (.string ⟨#[]⟩) := by simpa using cell_of_block (j := 2) h
def regionAt (n : Nat) : Code → Option Code
  | .region m ops d => if m = n then some (.region m ops d) else none
  | .loop c => regionAt n c
  | .seq a b => match regionAt n a with
    | some c => some c
    | none => regionAt n b
  | .block _ c => regionAt n c
  | .scope c => regionAt n c
  | .cond _ a b => match regionAt n a with
    | some c => some c
    | none => regionAt n b
  | _ => none
set_option maxRecDepth 1000000 in
set_option maxHeartbeats 40000000 in
theorem reg9 (Q : Exit → Act → World → Prop) (wr : World) (g6 dl J k M nj : Nat) (v : Int) (pj : List UInt8) (c6 : Nat) (c0 c1 c2 c3 c4 c5 c7 c11 c12 c13 c14 c15 c16 c17 c18 c19 c20 c21 c22 c23 c24 c25 c26 c27 c28 c29 c30 c31 c32 c33 c34 c35 c36 c37 c38 c39 c40 c41 c42 c43 c44 c45 c46 c47 c48 c49 c50 c51 c52 c53 c54 c55 c56 c57 c58 c59 c60 c61 c62 c63 c64 c65 c66 c67 c68 c69 c70 c71 c72 c73 c74 c75 c76 c77 c78 c79 c80 c81 c82 c83 c84 c85 c86 c87 c88 c89 c90 c91 c92 c93 c94 c95 c96 c97 c98 c99 c100 c101 c102 c103 c104 c105 c106 c107 c108 c109 c110 c111 c112 c113 c114 c115 c116 c117 c118 c119 c120 c121 c122 c123 c124 : Value)
    (k6 : wr.cell? ⟨g6, J, none⟩ = some (.string (bs pj))) (hl6 : g6 < wr.heap.size) (hJl : J < dl) (hk : k < 30) (hvb : 0 ≤ v ∧ v < 1099511627776) (hM : v / 800 % 26 = (M : Int)) (hMl : M < 26) (hpl : pj.length ≤ 120)
    (hpth : bs pj ++ strOfNums [97 + (M : Int)] ++ bs (digP k) = bs (pj ++ nameT k v))
    (hQ : ∀ (s34 s35 s36 s37 s38 s39 s40 s41 s42 s43 s44 s45 s46 s47 s48 s49 : Value) (b : Nat) (wx : World), wx.heap[b]? = some (.cells #[.string (bs (pj ++ nameT k v)), .int .i64 0, .string ⟨#[]⟩] 32 (0, 0)) → wr.heap.size ≤ b → Below wr.heap.size wr wx → Q .normal ⟨#[c0, c1, c2, c3, c4, c5, (.slice (some ⟨g6, 0, none⟩) dl c6), c7, (.int .i64 (k : Int)), (.int .i64 v), (.int .i64 (J : Int)), (.pointer (some ⟨b, 0, none⟩)), c12, c13, c14, c15, c16, c17, c18, c19, c20, c21, c22, c23, c24, c25, c26, c27, c28, c29, c30, c31, c32, c33, s34, s35, s36, s37, s38, s39, s40, s41, s42, s43, s44, s45, s46, s47, s48, s49, c50, c51, c52, c53, c54, c55, c56, c57, c58, c59, c60, c61, c62, c63, c64, c65, c66, c67, c68, c69, c70, c71, c72, c73, c74, c75, c76, c77, c78, c79, c80, c81, c82, c83, c84, c85, c86, c87, c88, c89, c90, c91, c92, c93, c94, c95, c96, c97, c98, c99, c100, c101, c102, c103, c104, c105, c106, c107, c108, c109, c110, c111, c112, c113, c114, c115, c116, c117, c118, c119, c120, c121, c122, c123, c124], []⟩ wx) :
    Code.wp Tryz.prog ((Tryz.f33.body.bind (regionAt 9)).getD .skip) (NoPanic Q) ⟨#[c0, c1, c2, c3, c4, c5, (.slice (some ⟨g6, 0, none⟩) dl c6), c7, (.int .i64 (k : Int)), (.int .i64 v), (.int .i64 (J : Int)), c11, c12, c13, c14, c15, c16, c17, c18, c19, c20, c21, c22, c23, c24, c25, c26, c27, c28, c29, c30, c31, c32, c33, c34, c35, c36, c37, c38, c39, c40, c41, c42, c43, c44, c45, c46, c47, c48, c49, c50, c51, c52, c53, c54, c55, c56, c57, c58, c59, c60, c61, c62, c63, c64, c65, c66, c67, c68, c69, c70, c71, c72, c73, c74, c75, c76, c77, c78, c79, c80, c81, c82, c83, c84, c85, c86, c87, c88, c89, c90, c91, c92, c93, c94, c95, c96, c97, c98, c99, c100, c101, c102, c103, c104, c105, c106, c107, c108, c109, c110, c111, c112, c113, c114, c115, c116, c117, c118, c119, c120, c121, c122, c123, c124], []⟩ wr := by
  have hl6' : g6 < wr.heap.size + 1 := by omega
  have q1 : (J : Int) < (dl : Int) := by omega
  have hcv : ∀ (W : World) (g : Nat), W.cell? ⟨g, 0, none⟩ = some (.int .u8 (97 + (M : Int))) → (convert 102 9 (.slice (some ⟨g, 0, none⟩) 1 1)).run Tryz.prog W = .ok (.string (strOfNums [97 + (M : Int)])) W := fun W g h => conv_at W g _ h
  have hq1 : IntKind.i64.wrap (v.tdiv 800) = v / 800 := by rw [Int.tdiv_eq_ediv_of_nonneg hvb.1, IntKind.wrap_i64]; omega
  have hq2 : (v / 800).tmod 26 = (M : Int) := by rw [Int.tmod_eq_emod_of_nonneg (by omega)]; exact hM
  have hw1 : IntKind.i64.wrap (97 + (M : Int)) = 97 + (M : Int) := by rw [IntKind.wrap_i64]; omega
  have hw2 : IntKind.u8.wrap (97 + (M : Int)) = 97 + (M : Int) := u8_wrap _ (by omega) (by omega)
  have hMb : (0 : Int) ≤ (M : Int) ∧ (M : Int) < 26 := by omega
  have hdg := fun w' => keepDigits k w' hk
  have hzp := bs_size pj
  have hzd := (dig_name ⟨k, hk⟩).1
  simp only at hzd
  have hz1 : (strOfNums [97 + (M : Int)]).size = 1 := rfl
  have hzg := bs_size (digP k)
  have ad1 := add_ok (bs pj) (strOfNums [97 + (M : Int)]) (by omega) (by omega)
  have ad2 := add_ok (bs pj ++ strOfNums [97 + (M : Int)]) (bs (digP k)) (by rw [ByteArray.size_append]; omega) (by omega)
  have Hpth := hide hpth
  have HQ := hide hQ
  clear hpth hQ hM
  conv => arg 2; whnf
  go_region_with ((go_at_call 58; refine (hdg _).mono ?_; rintro e w9 ⟨rfl, hb9⟩; obtain ⟨hc9, hf9⟩ := bcell hb9; have hbw : Below wr.heap.size wr w9 := (by first | exact bw0 hb9 | exact bw1 hb9 | exact bw2 hb9); have hz9 : wr.heap.size ≤ w9.heap.size := hbw.size; have hy6 : w9.cell? ⟨g6, J, none⟩ = some (.string (bs pj)) := ((bcell hbw).1 g6 J hl6).trans k6; have hl6n : g6 < w9.heap.size := Nat.lt_of_lt_of_le hl6 hz9; (try have hB0 : EntB wr.heap.size w9 ⟨#[]⟩ := (hb9.block wr.heap.size (by first | (simp; done) | (simp; omega))).trans (by first | exact eb1 wr _ | exact eb3 (eb1 wr _) _)); (try have hB1 : EntB (wr.heap.size + 1) w9 ⟨#[]⟩ := (hb9.block (wr.heap.size + 1) (by first | (simp; done) | (simp; omega))).trans (eb2 wr _ _)); (try have hz9a : wr.heap.size < w9.heap.size := (by have := hb9.size; simp at this; omega)); (try have hz9b : wr.heap.size + 1 < w9.heap.size := (by have := hb9.size; simp at this; omega)); (try have hcA : w9.cell? ⟨wr.heap.size, 0, none⟩ = some (.int .u8 (97 + (M : Int))) := (hc9 wr.heap.size 0 (by first | (simp; done) | (simp; omega))).trans (by first | exact cn1 wr _ _ | exact cn2 wr _ _ _)); (try have hcB : w9.cell? ⟨wr.heap.size + 1, 0, none⟩ = some (.int .u8 (97 + (M : Int))) := (hc9 (wr.heap.size + 1) 0 (by first | (simp; done) | (simp; omega))).trans (cn3 wr _ _ _)); (try have hvA := fun X => hcv (w9.alloc X) wr.heap.size (cal X hcA)); (try have hvB := fun X => hcv (w9.alloc X) (wr.heap.size + 1) (cal X hcB)); (try have hA0 := EntB.c0 hB0); (try have hA1 := EntB.c1 hB0); (try have hA2 := EntB.c2 hB0); (try have hD0 := EntB.c0 hB1); (try have hD1 := EntB.c1 hB1); (try have hD2 := EntB.c2 hB1); (try have hfA := fun o => hf9 wr.heap.size o (by first | (simp; done) | (simp; omega))); (try have hfB := fun o => hf9 (wr.heap.size + 1) o (by first | (simp; done) | (simp; omega))); clear hc9))
  all_goals
    clear hf9
    first
      | (rw [unhide Hpth]; refine NoPanic.normal (unhide HQ _ _ _ _ _ _ _ _ _ _ _ _ _ _ _ _ _ _ ?_ ?_ ?_))
      | refine NoPanic.normal (unhide HQ _ _ _ _ _ _ _ _ _ _ _ _ _ _ _ _ _ _ ?_ ?_ ?_)
    · first
        | with_reducible exact gb1 _ _
        | with_reducible exact gb2 _ _ _
        | with_reducible exact gb3 _ _ _
        | with_reducible exact gb4 _ hB1
        | with_reducible exact gb4 _ hB0
        | with_reducible exact gb5 _ hB0 _
        | exact gb1 _ _
        | exact gb2 _ _ _
        | exact gb3 _ _ _
        | exact gb4 _ hB1
        | exact gb4 _ hB0
        | exact gb5 _ hB0 _
    · first | exact hbw.size | exact Nat.le_refl _ | exact Nat.le_succ _ | exact Nat.le_succ_of_le hbw.size | omega
    · first
        | with_reducible exact hbw.alloc hbw.size _
        | with_reducible exact (hbw.alloc hbw.size _).alloc (by simp; exact Nat.le_succ_of_le hbw.size) _
        | with_reducible exact ((hbw.setCell (p := ⟨wr.heap.size + 1, 0, none⟩) (Nat.le_succ _) _).setCell (p := ⟨wr.heap.size + 1, 1, none⟩) (Nat.le_succ _) _).setCell (p := ⟨wr.heap.size + 1, 2, none⟩) (Nat.le_succ _) _
        | with_reducible exact ((hbw.setCell (p := ⟨wr.heap.size, 0, none⟩) (Nat.le_refl _) _).setCell (p := ⟨wr.heap.size, 1, none⟩) (Nat.le_refl _) _).setCell (p := ⟨wr.heap.size, 2, none⟩) (Nat.le_refl _) _
        | with_reducible exact (((hbw.setCell (p := ⟨wr.heap.size, 0, none⟩) (Nat.le_refl _) _).setCell (p := ⟨wr.heap.size, 1, none⟩) (Nat.le_refl _) _).setCell (p := ⟨wr.heap.size, 2, none⟩) (Nat.le_refl _) _).alloc (by simp; exact hbw.size) _
        | exact hbw.alloc hbw.size _
        | exact (hbw.alloc hbw.size _).alloc (by simp; exact Nat.le_succ_of_le hbw.size) _
        | exact ((hbw.setCell (p := ⟨wr.heap.size + 1, 0, none⟩) (Nat.le_succ _) _).setCell (p := ⟨wr.heap.size + 1, 1, none⟩) (Nat.le_succ _) _).setCell (p := ⟨wr.heap.size + 1, 2, none⟩) (Nat.le_succ _) _
        | exact ((hbw.setCell (p := ⟨wr.heap.size, 0, none⟩) (Nat.le_refl _) _).setCell (p := ⟨wr.heap.size, 1, none⟩) (Nat.le_refl _) _).setCell (p := ⟨wr.heap.size, 2, none⟩) (Nat.le_refl _) _
        | exact (((hbw.setCell (p := ⟨wr.heap.size, 0, none⟩) (Nat.le_refl _) _).setCell (p := ⟨wr.heap.size, 1, none⟩) (Nat.le_refl _) _).setCell (p := ⟨wr.heap.size, 2, none⟩) (Nat.le_refl _) _).alloc (by simp; exact hbw.size) _
end Go.Proofs.YtjmacegibchplaaGreatDoor
