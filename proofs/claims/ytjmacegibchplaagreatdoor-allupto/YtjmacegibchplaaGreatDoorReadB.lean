import Derived.Test.YtjmacegibchplaaGreatDoorEncA
import Derived.Lib.Strings
import Derived.Lib.BufferWrite
import Derived.Lib.UnsafeStr
import Derived.Lib.Hide
import Derived.Laws.MakeOwn
import Derived.Deep.RegionHeld3
import Derived.Deep.DeepCutAuto
import Derived.Deep.DrawnRows
namespace Go.Proofs.YtjmacegibchplaaGreatDoor
open Go.RowKit
set_option linter.unusedVariables false
def Lies (w : World) (a : Option Addr) (l : List P.It) : Prop := l = [] ∨ ∃ b o, a = some ⟨b, o, none⟩ ∧ ItemsAt w b o l
theorem Lies.below {B : Nat} {w w' : World} {a : Option Addr} {l : List P.It} (h : Lies w a l) (hb : Below B w w') (hB : w.heap.size ≤ B) : Lies w' a l := by
 rcases h with h | ⟨b, o, e, h⟩
 ·exact .inl h
 ·exact .inr ⟨b, o, e, h.below hb hB⟩
theorem isDirectory_nil (a : Option Addr) (c : Nat) (w : World) :
  Calls Tryz.prog 85 #[.slice a 0 c] w fun e w' => e = .returned (.bool true) ∧ w' = w := by
 go_enter Tryz.func85, Tryz.ntmps85
 go_wp2
 refine wp_loop_rounds 1 ?_
 rw [rounds_succ]
 go_wp2
 go_ret
 exact ⟨rfl, rfl⟩
theorem isDirectory_any (l : List P.It) (a : Option Addr) (c : Nat) (w : World) (hl : l.length ≤ maxLen) (hi : Lies w a l) (hf : FitAll l) :
  Calls Tryz.prog 85 #[.slice a l.length c] w fun e w' => e = .returned (.bool (dirOk l)) ∧ Below w.heap.size w w' := by
 rcases hi with rfl | ⟨b, o, rfl, h⟩
 ·refine (isDirectory_nil a c w).mono ?_
  rintro e w' ⟨rfl, rfl⟩
  exact ⟨rfl, Below.refl _ _⟩
 ·exact isDirectory_some l b o c w hl h hf
theorem take_snoc_it (l : List P.It) (k : Nat) (h : k < l.length) : l.take (k + 1) = l.take k ++ [l[k]] := by
 rw [List.take_succ_eq_append_getElem h]
theorem conv_own (w : World) (base : Nat) (v : Value) (l : List UInt8) (h : Owns w base v l) (hne : l ≠ []) :
  (convert 102 9 v).run Tryz.prog w = .ok (.string ⟨l.toArray⟩) w := by
 rcases h.2 with ⟨_, hn⟩ | ⟨g, cap, cur, rfl, _, hg, hnc, hcm, hcs, htake⟩
 ·exact absurd (List.eq_nil_of_length_eq_zero hn) hne
 ·refine run_convert_bytes_back w 102 9 5 ⟨g, 0, none⟩ cap l Tryz.underlying102 Tryz.underlying5 Tryz.underlying9 ?_
  intro j hj
  have hx := World.ownsRow.cells h (g := g) rfl j (byteVal l[j]) (by simp [List.getElem?_eq_getElem hj])
  exact hx
theorem owns_two (w : World) (base m n : Nat) (hm : m < 256) (hn : n < 256) (hb : base ≤ w.heap.size) :
  Owns (w.alloc (.cells #[.int .u8 (m : Int), .int .u8 (n : Int)] 5)) base (.slice (some ⟨w.heap.size, 0, none⟩) 2 2) [UInt8.ofNat m, UInt8.ofNat n] := by
 have h := World.ownsRow_lit (base := base) (e := 5) (size := 1) w #[.int .u8 (m : Int), .int .u8 (n : Int)] 2 hb (by decide) rfl
 unfold Owns
 rw [List.map_cons, List.map_cons, byteVal_nat m hm, byteVal_nat n hn]
 exact h
set_option maxHeartbeats 1000000 in
theorem dirEncode_yes (l : List P.It) (a : Option Addr) (c : Nat) (w : World) (hl : l.length ≤ maxLen) (hi : Lies w a l) (hf : FitAll l) (hd : dirOk l = true) :
  Calls Tryz.prog 57 #[.slice a l.length c] w fun e w' => e = .returned (.tuple #[.string ⟨(dirBytes l).toArray⟩, .int .i64 0]) ∧ Below w.heap.size w w' := by
 have h40 := len_of_dirOk l hd
 have hsane : ∀ x ∈ l, Sane x := fun x hx => by
  obtain ⟨k, hk, rfl⟩ := List.getElem_of_mem hx
  exact sane_of_ok _ (ok_of_dirOk l hd k hk)
 go_enter Tryz.func57, Tryz.ntmps57
 go_wp2_with fail
 refine (isDirectory_any l a c w hl hi hf).mono ?_
 rintro e w1 ⟨rfl, hb1⟩
 rw [hd]
 have hd' := hide hd
 clear hd
 have hi1 := hi.below hb1 (Nat.le_refl _)
 have hst := owns_two w1 w.heap.size 84 l.length (by omega) (by omega) hb1.size
 have hlb : itemsBytes l = itemsBytes l := rfl
 have hlen : ∀ k, (itemsBytes (l.take k)).length ≤ 2400 := fun k => by
  have h1 := itemsBytes_len (l.take k) (fun x hx => hsane x (List.mem_of_mem_take hx))
  have h2 : (l.take k).length ≤ l.length := by simp; omega
  omega
 clear hlb
 go_wp2_with fail
 go_loopw [4, 16] (fun v i wr => ∃ k : Nat, k ≤ l.length ∧ i = .int .i64 k ∧ Owns wr w.heap.size v (84 :: UInt8.ofNat l.length :: itemsBytes (l.take k)) ∧ Below w.heap.size w wr) (fun _ i _ => l.length - (intOf i).toNat)
 case atStart => exact ⟨0, Nat.zero_le _, rfl, hst, hb1.alloc hb1.size _⟩
 case round =>
  obtain ⟨k, hk, rfl, hown, hbel⟩ := hrel
  clear hst
  by_cases hlt : k < l.length
  ·obtain ⟨b, o, rfl, hit⟩ : ∃ b o, a = some ⟨b, o, none⟩ ∧ ItemsAt w b o l := by
    rcases hi with h | h
    ·subst h; simp at hlt
    ·exact h
   obtain ⟨x, hx⟩ : ∃ x, l[k] = x := ⟨_, rfl⟩
   have hsx := hsane x (by rw [← hx]; exact List.getElem_mem hlt)
   obtain ⟨c0, c1, c2, c3, c4⟩ := (hit k hlt).below hbel (hit k hlt).lt
   rw [hx] at c0 c1 c2 c3 c4
   have Hx := hide hx
   clear hx
   obtain ⟨nm, kd, dg, sz, tg⟩ := x
   simp only at c0 c1 c2 c3 c4
   obtain ⟨kn, rfl⟩ : ∃ kn : Nat, kd = kn := ⟨kd.toNat, by have := hsx.k0; simp only at this; omega⟩
   have hl' := hlen k
   have hsz := hbel.size
   go_wp2_with fail
   refine (appendItem_any w.heap.size _ _ nm kn dg sz tg _ hsx (by simp; omega) (by simp; omega) (hown.alloc _)).mono ?_
   rintro e w2 ⟨v2, rfl, ho2, hk2⟩
   have hb2 : Below w.heap.size w w2 := (hbel.alloc hbel.size _).trans (hk2.below (by simp; omega))
   go_wp2_with fail
   go_roundw
   case rel =>
    refine ⟨k + 1, by omega, by go_num, ?_, hb2⟩
    rw [take_snoc_it l k hlt, itemsBytes_snoc, unhide Hx]
    simpa using ho2
   case measure => simp [intOf]; omega
  ·obtain rfl : k = l.length := by omega
   have hcv := conv_own wr w.heap.size _ _ hown (by simp)
   rw [List.take_length] at hcv
   go_wp2_with fail
   go_ret2
   exact ⟨rfl, hbel⟩
def bs (l : List UInt8) : ByteArray := ⟨l.toArray⟩
theorem bs_data (l : List UInt8) : (bs l).data.toList = l := by simp [bs]
theorem bs_size (l : List UInt8) : (bs l).size = l.length := by simp [bs, ByteArray.size]
theorem bs_of (s : ByteArray) : bs s.data.toList = s := by
 apply ByteArray.ext; apply Array.ext'; simp [bs]
theorem extract_bs (l : List UInt8) (a b : Nat) : (bs l).extract a b = bs ((l.drop a).take (b - a)) := by
 rw [← bs_of ((bs l).extract a b), Lib.extract_data, bs_data]
theorem cells_u8 : Tryz.prog.cellsOf 5 = 1 := by kernel_rfl
set_option maxHeartbeats 2000000 in
set_option maxRecDepth 100000 in
theorem cloneLite (l : List UInt8) (w : World) (hl : l.length ≤ 1000) :
  Calls Tryz.prog 105 #[.string (bs l)] w fun e w' => e = .returned (.string (bs l)) ∧ Below w.heap.size w w' := by
 cases l with
 | nil =>
  go_enter Tryz.func105, Tryz.ntmps105
  go_wp2
  go_ret
  exact ⟨rfl, Below.refl _ _⟩
 | cons x r =>
  generalize hL : x :: r = L at *
  have hne : L ≠ [] := by rw [← hL]; simp
  have hpos : 0 < L.length := by rw [← hL]; simp
  clear hL
  have hsz := bs_size L
  obtain ⟨i0, hi, hz0, hz1, hz2⟩ := info_parts info_u8
  have hinfo : (Tryz.prog.info? 5).map (·.size) = some 1 := by rw [hi]; simp [hz1]
  obtain ⟨M, hMs, hmk⟩ : ∃ M : Array Value, M.size = L.length ∧ ∀ W : World, (Instr.makeSlice 102 (.int .i64 (L.length : Int)) (.int .i64 (L.length : Int))).run Tryz.prog W = .ok (.slice (some ⟨W.heap.size, 0, none⟩) L.length L.length) (W.alloc (.cells M 5)) := by
   refine ⟨madeCells (Value.int .u8 0).cells (((L.length : Nat) : Int).toNat * i0.size), by rw [size_madeCells, hz1]; simp, fun W => ?_⟩
   have h := run_make (P := Tryz.prog) W 102 5 i0 (.int .u8 0) Tryz.underlying102 hi hz0 .i64 .i64 (L.length : Int) (L.length : Int) (by omega) (by omega) (by rw [hz2]; omega) (by omega)
   simpa using h
  have hcp := Lib.run_copy_row_string (P := Tryz.prog) (w.alloc (.cells M 5)) 102 9 3 5 w.heap.size 0 L.length L.length (bs L) M 5 Tryz.underlying102 hinfo (heap_alloc_new w _) (by rw [hsz]; exact Nat.le_refl _) (by rw [hsz]; omega)
  obtain ⟨Y, hY⟩ : ∃ Y, Y = (M.toList.take 0 ++ Lib.byteCells (bs L).data.toList ++ M.toList.drop (0 + (bs L).size)).toArray := ⟨_, rfl⟩
  rw [← hY] at hcp
  have hYl : Y.toList = Lib.byteCells L := by
   rw [hY, bs_data, hsz]
   simp
   omega
  have hYs : Y.size = L.length := by rw [← Array.length_toList, hYl, Lib.byteCells_length]
  have hgY : ((w.alloc (.cells M 5)).setRow w.heap.size Y).heap[w.heap.size]? = some (.cells Y 5 (0, 0)) := setRow_heap _ _ M _ 5 (0, 0) (heap_alloc_new w _)
  have hUS := Lib.run_unsafeString_row (P := Tryz.prog) ((w.alloc (.cells M 5)).setRow w.heap.size Y) 197 3 9 5 Tryz.underlying197 cells_u8 w.heap.size Y.size (by unfold World.shape?; rw [hgY]) L hne (by omega) (by omega)
   (fun j y hy => Lib.cells_of_row hgY Y.size j _ (by rw [List.take_of_length_le (by rw [Array.length_toList]; exact Nat.le_refl _), hYl]; simp [Lib.byteCells, hy]))
  clear hY
  have hb1 : Below w.heap.size w (w.alloc (.cells M 5)) := (Below.refl _ w).alloc (Nat.le_refl _) _
  have hb2 : Below w.heap.size (w.alloc (.cells M 5)) ((w.alloc (.cells M 5)).setRow w.heap.size Y) := ⟨rfl, rfl, rfl, by simp, fun k hk => setRow_other _ _ _ _ (by omega)⟩
  have hb3 := Lib.below_freeze (hb1.trans hb2) (p := ⟨w.heap.size, 0, none⟩) (Nat.le_refl _) L.length
  rw [hsz] at hcp
  generalize (w.alloc (.cells M 5)).setRow w.heap.size Y = W2 at *
  have hb : ((L.length : Int) == 0) = false := by simp; omega
  have hlt : (0 : Int) < (L.length : Int) := by omega
  change Calls Tryz.prog 105 #[.string (bs L)] w fun e w' => e = .returned (.string (bs L)) ∧ Below w.heap.size w w'
  go_enter Tryz.func105, Tryz.ntmps105
  go_wp2
  go_ret
  exact ⟨rfl, hb3⟩
theorem clone_any (l : List UInt8) (w : World) (hl : l.length ≤ 1000) :
  Calls Tryz.prog 66 #[.string (bs l)] w fun e w' => e = .returned (.string (bs l)) ∧ Below w.heap.size w w' := by
 go_enter Tryz.func66, Tryz.ntmps66
 go_wp2_with fail
 refine (cloneLite l w hl).mono ?_
 rintro e w' ⟨rfl, hb⟩
 go_wp2_with fail
 go_ret
 exact ⟨rfl, hb⟩
structure RS where
 rest : List UInt8
 short : Bool
def rTake (s : RS) (n : Nat) : List UInt8 × RS := if s.rest.length < n then ([], ⟨[], true⟩) else (s.rest.take n, ⟨s.rest.drop n, s.short⟩)
def rOne (s : RS) : Nat × RS := if (rTake s 1).2.short = true then (0, (rTake s 1).2) else (((rTake s 1).1.headD 0).toNat, (rTake s 1).2)
def Rd (w : World) (q : Nat) (s : RS) : Prop := w.heap[q]? = some (.cells #[.string (bs s.rest), .bool s.short] 168 (0, 0))
theorem Rd.cells {w : World} {q : Nat} {s : RS} (h : Rd w q s) : w.cell? ⟨q, 0, none⟩ = some (.string (bs s.rest)) ∧ w.cell? ⟨q, 1, none⟩ = some (.bool s.short) ∧ w.frozen? ⟨q, 0, none⟩ = false ∧ w.frozen? ⟨q, 1, none⟩ = false :=
 ⟨by rw [cell_of_block h]; rfl, by rw [cell_of_block h]; rfl, free_block h, free_block h⟩
theorem Rd.lt {w : World} {q : Nat} {s : RS} (h : Rd w q s) : q < w.heap.size := (Array.getElem?_eq_some_iff.1 h).1
theorem setCell_block {w : World} {q j : Nat} {cur : Array Value} {t : TypeId} {fz : Nat × Nat} (v : Value) (h : w.heap[q]? = some (.cells cur t fz)) : (w.setCell ⟨q, j, none⟩ v).heap[q]? = some (.cells (cur.setIfInBounds j v) t fz) := by
 rw [setCell_eq_setRow w q j cur t fz v h]
 exact setRow_heap w q cur _ t fz h
theorem grown_setCell (w : World) (q j : Nat) (v : Value) : w.grownBy (w.setCell ⟨q, j, none⟩ v) (some q) :=
 ⟨rfl, rfl, rfl, by simp [World.setCell], fun k hk hne => Below.heap_setCell w ⟨q, j, none⟩ v k (fun e => hne (by rw [e]))⟩
theorem grown_trans {a b c : World} {r : Option Nat} (h : a.grownBy b r) (k : b.grownBy c r) : a.grownBy c r :=
 ⟨k.os.trans h.os, k.tape.trans h.tape, k.output.trans h.output, Nat.le_trans h.size k.size, fun j hj hne => (k.block j (Nat.lt_of_lt_of_le hj h.size) hne).trans (h.block j hj hne)⟩
theorem grown_below {a b : World} {r : Option Nat} (h : Below a.heap.size a b) : a.grownBy b r := ⟨h.os, h.tape, h.output, h.size, fun k hk _ => h.block k hk⟩
set_option maxHeartbeats 1000000 in
theorem take_any (q : Nat) (s : RS) (n : Nat) (w : World) (hn : n ≤ 255) (hs : s.rest.length ≤ maxLen) (h : Rd w q s) :
  Calls Tryz.prog 169 #[.pointer (some ⟨q, 0, none⟩), .int .i64 n] w fun e w' => e = .returned (.string (bs (rTake s n).1)) ∧ Rd w' q (rTake s n).2 ∧ w.grownBy w' (some q) := by
 obtain ⟨c0, c1, f0, f1⟩ := h.cells
 have hsz := bs_size s.rest
 unfold maxLen at hs
 by_cases hlt : s.rest.length < n
 ·have e : rTake s n = ([], ⟨[], true⟩) := by unfold rTake; rw [if_pos hlt]
  rw [e]
  have hlt' : ((bs s.rest).size : Int) < (n : Int) := by rw [hsz]; omega
  go_enter Tryz.func169, Tryz.ntmps169
  go_wp2
  go_ret
  refine ⟨rfl, ?_, grown_trans (grown_setCell _ _ _ _) (grown_setCell _ _ _ _)⟩
  exact setCell_block _ (setCell_block _ h)
 ·have e : rTake s n = (s.rest.take n, ⟨s.rest.drop n, s.short⟩) := by unfold rTake; rw [if_neg hlt]
  rw [e]
  have hle' : (n : Int) ≤ ((bs s.rest).size : Int) := by rw [hsz]; omega
  have hcut := extract_bs s.rest 0 n
  rw [List.drop_zero, Nat.sub_zero] at hcut
  go_enter Tryz.func169, Tryz.ntmps169
  go_wp2_with fail
  refine (clone_any _ w (by simp; omega)).mono ?_
  rintro e w1 ⟨rfl, hb⟩
  have hcut2 := extract_bs s.rest n s.rest.length
  rw [List.take_of_length_le (by simp)] at hcut2
  have h1 : Rd w1 q s := (hb.block q h.lt).trans h
  clear c0 c1 f0 f1
  obtain ⟨c0, c1, f0, f1⟩ := h1.cells
  go_wp2_with fail
  go_ret
  refine ⟨rfl, ?_, grown_trans (grown_below hb) (grown_setCell _ _ _ _)⟩
  exact setCell_block _ h1
theorem rTake_short (s : RS) (n : Nat) : (rTake s n).2.short = true ∨ ((rTake s n).2.short = false ∧ (rTake s n).1 = s.rest.take n ∧ n ≤ s.rest.length) := by
 unfold rTake
 split
 ·left; rfl
 ·cases h : s.short
  ·right; exact ⟨rfl, rfl, by omega⟩
  ·left; rfl
set_option maxHeartbeats 1000000 in
theorem one_any (q : Nat) (s : RS) (w : World) (hs : s.rest.length ≤ maxLen) (h : Rd w q s) :
  Calls Tryz.prog 125 #[.pointer (some ⟨q, 0, none⟩)] w fun e w' => e = .returned (.int .i64 ((rOne s).1 : Nat)) ∧ Rd w' q (rOne s).2 ∧ w.grownBy w' (some q) := by
 have e2 : (rOne s).2 = (rTake s 1).2 := by unfold rOne; split <;> rfl
 rw [e2]
 rcases rTake_short s 1 with hsh | ⟨hsh, ht, hl⟩
 ·have e1 : (rOne s).1 = 0 := by unfold rOne; rw [if_pos hsh]
  rw [e1]
  have Hsh := hide hsh
  clear hsh e1 e2
  go_enter Tryz.func125, Tryz.ntmps125
  go_wp2_with fail
  refine (take_any q s 1 w (by omega) hs h).mono ?_
  rintro e w1 ⟨rfl, h1, hg⟩
  obtain ⟨c0, c1, f0, f1⟩ := h1.cells
  rw [unhide Hsh] at c1
  go_wp2_with fail
  go_ret
  exact ⟨rfl, h1, hg⟩
 ·have e1 : (rOne s).1 = ((rTake s 1).1.headD 0).toNat := by unfold rOne; rw [if_neg (by simp [hsh])]
  obtain ⟨x, hx⟩ : ∃ x, (rTake s 1).1 = [x] := by
   rw [ht]
   match s.rest, hl with
   | x :: r, _ => exact ⟨x, rfl⟩
  rw [hx] at e1
  simp only [List.headD_cons] at e1
  rw [e1]
  have Hsh := hide hsh
  have Hx := hide hx
  clear hsh e1 e2 ht hx
  go_enter Tryz.func125, Tryz.ntmps125
  go_wp2_with fail
  refine (take_any q s 1 w (by omega) hs h).mono ?_
  rintro e w1 ⟨rfl, h1, hg⟩
  obtain ⟨c0, c1, f0, f1⟩ := h1.cells
  rw [unhide Hsh] at c1
  rw [unhide Hx]
  have hb : (x.toNat : Int) ≤ 255 := by have := x.toNat_lt; omega
  have hsz : (bs [x]).size = 1 := rfl
  have hx0 : (bs [x])[0]'(by rw [hsz]; omega) = x := rfl
  go_wp2_with fail
  go_ret
  exact ⟨ret_int (by first | rfl | omega), h1, hg⟩
attribute [local go_sem ↓] Go.wp_at_zero Go.wp_at_succ
theorem rTake_len (s : RS) (n : Nat) : (rTake s n).2.rest.length ≤ s.rest.length := by
 unfold rTake; split <;> simp
theorem rOne_len (s : RS) : (rOne s).2.rest.length ≤ s.rest.length := by
 have := rTake_len s 1
 unfold rOne; split <;> exact this
theorem rOne_bd (s : RS) : (rOne s).1 ≤ 255 := by
 unfold rOne
 split
 ·simp
 ·have := ((rTake s 1).1.headD 0).toNat_lt; simp only; omega
def rItem (s : RS) : P.It × RS :=
 let k := rOne s
 let n := rOne k.2
 let nm := rTake n.2 n.1
 if k.1 = 3 then
  let t := rOne nm.2
  let tg := rTake t.2 t.1
  (⟨bs nm.1, (k.1 : Nat), ⟨#[]⟩, 0, bs tg.1⟩, tg.2)
 else
  let dg := rTake nm.2 3
  let a := rOne dg.2
  let b := rOne a.2
  (⟨bs nm.1, (k.1 : Nat), bs dg.1, ((a.1 + 256 * b.1 : Nat) : Int), ⟨#[]⟩⟩, b.2)
theorem Box.grown {q : Nat} {w w' : World} {k : Nat} {nm : ByteArray} {kd : Int} {dg : ByteArray} {sz : Int} {tg : ByteArray} (h : Box w k nm kd dg sz tg) (hg : w.grownBy w' (some q)) (hne : k ≠ q) : Box w' k nm kd dg sz tg :=
 (hg.block k (Array.getElem?_eq_some_iff.1 h).1 (by simpa using hne)).trans h
theorem Box.lt {w : World} {k : Nat} {nm : ByteArray} {kd : Int} {dg : ByteArray} {sz : Int} {tg : ByteArray} (h : Box w k nm kd dg sz tg) : k < w.heap.size := (Array.getElem?_eq_some_iff.1 h).1
theorem Box.free {w : World} {k : Nat} {nm : ByteArray} {kd : Int} {dg : ByteArray} {sz : Int} {tg : ByteArray} (h : Box w k nm kd dg sz tg) (j : Nat) : w.frozen? ⟨k, j, none⟩ = false := free_block h
theorem Rd.other {w w' : World} {q k : Nat} {s : RS} (h : Rd w q s) (hg : w.grownBy w' (some k)) (hne : q ≠ k) : Rd w' q s :=
 (hg.block q h.lt (by simpa using hne)).trans h
theorem Box.set0 {w : World} {k : Nat} {nm : ByteArray} {kd : Int} {dg : ByteArray} {sz : Int} {tg : ByteArray} (h : Box w k nm kd dg sz tg) (x : ByteArray) : Box (w.setCell ⟨k, 0, none⟩ (.string x)) k x kd dg sz tg := setCell_block _ h
theorem Box.set2 {w : World} {k : Nat} {nm : ByteArray} {kd : Int} {dg : ByteArray} {sz : Int} {tg : ByteArray} (h : Box w k nm kd dg sz tg) (x : ByteArray) : Box (w.setCell ⟨k, 2, none⟩ (.string x)) k nm kd x sz tg := setCell_block _ h
theorem Box.set3 {w : World} {k : Nat} {nm : ByteArray} {kd : Int} {dg : ByteArray} {sz : Int} {tg : ByteArray} (h : Box w k nm kd dg sz tg) (x : Int) : Box (w.setCell ⟨k, 3, none⟩ (.int .i64 x)) k nm kd dg x tg := setCell_block _ h
structure Keep (q z : Nat) (w w' : World) : Prop where
 os : w'.os = w.os
 tape : w'.tape = w.tape
 output : w'.output = w.output
 size : w.heap.size ≤ w'.heap.size
 block : ∀ k, k < z → k ≠ q → w'.heap[k]? = w.heap[k]?
 low : z ≤ w.heap.size
theorem Keep.of {q : Nat} {w w' : World} (h : w.grownBy w' (some q)) : Keep q w.heap.size w w' := ⟨h.os, h.tape, h.output, h.size, fun k hk hne => h.block k hk (by simpa using hne), Nat.le_refl _⟩
theorem Keep.set {q z : Nat} {w w' : World} (h : Keep q z w w') {k : Nat} (hk : z ≤ k) (j : Nat) (v : Value) : Keep q z w (w'.setCell ⟨k, j, none⟩ v) :=
 ⟨h.os, h.tape, h.output, Nat.le_trans h.size (by simp [World.setCell]), fun i hi hne => (Below.heap_setCell w' ⟨k, j, none⟩ v i (by simp; omega)).trans (h.block i hi hne), h.low⟩
theorem Keep.trans {q z : Nat} {w w' w2 : World} (h : Keep q z w w') (g : w'.grownBy w2 (some q)) : Keep q z w w2 :=
 ⟨g.os.trans h.os, g.tape.trans h.tape, g.output.trans h.output, Nat.le_trans h.size g.size, fun i hi hne => (g.block i (Nat.lt_of_lt_of_le hi (Nat.le_trans h.low h.size)) (by simpa using hne)).trans (h.block i hi hne), h.low⟩
theorem Keep.drew {q z : Nat} {w w' : World} (h : Keep q z w w') : Keep q z w w'.drew := ⟨h.os, h.tape, h.output, h.size, h.block, h.low⟩
theorem Keep.grown {q : Nat} {w w' : World} (h : Keep q w.heap.size w w') : w.grownBy w' (some q) := ⟨h.os, h.tape, h.output, h.size, fun k hk hne => h.block k hk (by simpa using hne)⟩
theorem fin5 {q bx : Nat} {w w6 : World} {s : RS} {nm dg tg nm0 dg0 tg0 : ByteArray} {kd sz kd0 sz0 : Int} (h : Rd w6 q s) (hx : Box w6 bx nm kd dg sz tg) (hv : Box w6 w.heap.size nm0 kd0 dg0 sz0 tg0) (G : Keep q w.heap.size w w6) (hq : q < w.heap.size)
  (hne : ¬ w.heap.size = bx) (j : Nat) (v : Value) (hb : w.heap.size ≤ bx) (a : ByteArray) (b : Int) (c : ByteArray) (d : Int) (e : ByteArray) :
  Rd ((((((w6.setCell ⟨bx, j, none⟩ v).setCell ⟨w.heap.size, 0, none⟩ (.string a)).setCell ⟨w.heap.size, 1, none⟩ (.int .i64 b)).setCell ⟨w.heap.size, 2, none⟩ (.string c)).setCell ⟨w.heap.size, 3, none⟩ (.int .i64 d)).setCell ⟨w.heap.size, 4, none⟩ (.string e)) q s
  ∧ Box ((((((w6.setCell ⟨bx, j, none⟩ v).setCell ⟨w.heap.size, 0, none⟩ (.string a)).setCell ⟨w.heap.size, 1, none⟩ (.int .i64 b)).setCell ⟨w.heap.size, 2, none⟩ (.string c)).setCell ⟨w.heap.size, 3, none⟩ (.int .i64 d)).setCell ⟨w.heap.size, 4, none⟩ (.string e)) w.heap.size a b c d e
  ∧ w.grownBy ((((((w6.setCell ⟨bx, j, none⟩ v).setCell ⟨w.heap.size, 0, none⟩ (.string a)).setCell ⟨w.heap.size, 1, none⟩ (.int .i64 b)).setCell ⟨w.heap.size, 2, none⟩ (.string c)).setCell ⟨w.heap.size, 3, none⟩ (.int .i64 d)).setCell ⟨w.heap.size, 4, none⟩ (.string e)) (some q) := by
 refine ⟨?_, ?_, ?_⟩
 ·exact (((((h.other (grown_setCell _ _ _ _) (by omega)).other (grown_setCell _ _ _ _) (by omega)).other (grown_setCell _ _ _ _) (by omega)).other (grown_setCell _ _ _ _) (by omega)).other (grown_setCell _ _ _ _) (by omega)).other (grown_setCell _ _ _ _) (by omega)
 ·have h1 : Box (w6.setCell ⟨bx, j, none⟩ v) w.heap.size nm0 kd0 dg0 sz0 tg0 := hv.grown (grown_setCell _ _ _ _) hne
  exact setCell_block _ (setCell_block _ (setCell_block _ (setCell_block _ (setCell_block _ h1))))
 ·exact ((((((G.set hb j v).set (Nat.le_refl _) _ _).set (Nat.le_refl _) _ _).set (Nat.le_refl _) _ _).set (Nat.le_refl _) _ _).set (Nat.le_refl _) _ _).grown
set_option maxHeartbeats 2000000 in
theorem item_link (q : Nat) (s : RS) (w : World) (hs : s.rest.length ≤ maxLen) (h : Rd w q s) (hk : (rOne s).1 = 3) :
  Calls Tryz.prog 126 #[.pointer (some ⟨q, 0, none⟩)] w fun e w' => e = .returned (itVal (rItem s).1) ∧ Rd w' q (rItem s).2 ∧ w.grownBy w' (some q) := by
 have hq := h.lt
 have er : rItem s = (⟨bs (rTake (rOne (rOne s).2).2 (rOne (rOne s).2).1).1, 3, ⟨#[]⟩, 0, bs (rTake (rOne (rTake (rOne (rOne s).2).2 (rOne (rOne s).2).1).2).2 (rOne (rTake (rOne (rOne s).2).2 (rOne (rOne s).2).1).2).1).1⟩,
   (rTake (rOne (rTake (rOne (rOne s).2).2 (rOne (rOne s).2).1).2).2 (rOne (rTake (rOne (rOne s).2).2 (rOne (rOne s).2).1).2).1).2) := by
  unfold rItem
  simp only
  rw [if_pos hk, hk]; rfl
 rw [er]
 have Hk := hide hk
 clear hk er
 have z1 := rOne_len s
 have b1 := rOne_bd s
 have z2 := rOne_len (rOne s).2
 have b2 := rOne_bd (rOne s).2
 generalize hr1 : rOne s = r1 at *
 generalize hr2 : rOne r1.2 = r2 at *
 have z3 := rTake_len r2.2 r2.1
 generalize hr3 : rTake r2.2 r2.1 = r3 at *
 have z4 := rOne_len r3.2
 have b4 := rOne_bd r3.2
 generalize hr4 : rOne r3.2 = r4 at *
 generalize hr5 : rTake r4.2 r4.1 = r5 at *
 have H1 := hide hr1
 have H2 := hide hr2
 have H3 := hide hr3
 have H4 := hide hr4
 have H5 := hide hr5
 clear hr1 hr2 hr3 hr4 hr5
 go_enter Tryz.func126, Tryz.ntmps126
 go_wp2_with fail
 refine (one_any q s _ hs (by exact (Below.heap_alloc w _ q hq).trans h)).mono ?_
 rintro e w1 ⟨rfl, h1, g1⟩
 rw [unhide H1] at h1 ⊢
 rw [unhide Hk]
 have hqz : q < w1.heap.size := h1.lt
 have s1 : w.heap.size + 1 ≤ w1.heap.size := by have := g1.size; simpa using this
 have hv1 : Box w1 w.heap.size ⟨#[]⟩ 0 ⟨#[]⟩ 0 ⟨#[]⟩ := (Box.new w ⟨#[]⟩ 0 ⟨#[]⟩ 0 ⟨#[]⟩).grown g1 (by omega)
 have hx1 := Box.new w1 ⟨#[]⟩ 3 ⟨#[]⟩ 0 ⟨#[]⟩
 have hv1' : Box (w1.alloc (.cells #[.string ⟨#[]⟩, .int .i64 3, .string ⟨#[]⟩, .int .i64 0, .string ⟨#[]⟩] 47)) w.heap.size ⟨#[]⟩ 0 ⟨#[]⟩ 0 ⟨#[]⟩ := (Below.heap_alloc w1 _ _ hv1.lt).trans hv1
 go_wp2_with fail
 refine (one_any q r1.2 _ (by omega) (by exact (Below.heap_alloc w1 _ q hqz).trans h1)).mono ?_
 rintro e w2 ⟨rfl, h2, g2⟩
 rw [unhide H2] at h2 ⊢
 have hx2 := hx1.grown g2 (by omega)
 have hv2 := hv1'.grown g2 (by omega)
 have G2 : w.grownBy w2 (some q) := grown_trans (grown_trans (World.grownBy_alloc _ _ _) g1) (grown_trans (World.grownBy_alloc _ _ _) g2)
 clear g1 g2 hx1 hv1 hv1' h1
 go_wp2_with fail
 refine (take_any q r2.2 r2.1 w2 b2 (by omega) h2).mono ?_
 rintro e w3 ⟨rfl, h3, g3⟩
 rw [unhide H3] at h3 ⊢
 have hx3 := hx2.grown g3 (by omega)
 have hv3 := hv2.grown g3 (by omega)
 have G3 := grown_trans G2 g3
 clear g3 hx2 hv2 h2 G2
 obtain ⟨c0, c1, c2, c3, c4⟩ := hx3.cells
 have f0 := hx3.free 0
 go_wp2_with fail
 refine (shapeOf_any _ _).mono ?_
 rintro e w4 ⟨rfl, hw4⟩
 have h4 : Rd w4 q r3.2 := by rw [hw4]; exact h3.other (grown_setCell _ _ _ _) (by omega)
 have hx4 : Box w4 w1.heap.size (bs r3.1) 3 ⟨#[]⟩ 0 ⟨#[]⟩ := by rw [hw4]; exact hx3.set0 _
 have hv4 : Box w4 w.heap.size ⟨#[]⟩ 0 ⟨#[]⟩ 0 ⟨#[]⟩ := by rw [hw4]; exact hv3.grown (grown_setCell _ _ _ _) (by omega)
 have G4 : Keep q w.heap.size w w4 := by rw [hw4]; exact (Keep.of G3).set (by omega) _ _
 have e3 : P.shape 3 = 2 := rfl
 rw [e3]
 clear hw4 h3 hx3 hv3 G3 c0 c1 c2 c3 c4 f0
 go_wp2_with fail
 refine (one_any q r3.2 w4 (by omega) h4).mono ?_
 rintro e w5 ⟨rfl, h5, g5⟩
 rw [unhide H4] at h5 ⊢
 have hx5 := hx4.grown g5 (by omega)
 have hv5 := hv4.grown g5 (by omega)
 have G5 := G4.trans g5
 clear g5 hx4 hv4 h4 G4
 go_wp2_with fail
 refine (take_any q r4.2 r4.1 w5 b4 (by omega) h5).mono ?_
 rintro e w6 ⟨rfl, h6, g6⟩
 rw [unhide H5] at h6 ⊢
 have hx6 := hx5.grown g6 (by omega)
 have hv6 := hv5.grown g6 (by omega)
 have G6 := G5.trans g6
 clear g6 hx5 hv5 h5 G5
 obtain ⟨c0, c1, c2, c3, c4⟩ := hx6.cells
 obtain ⟨v0, v1, v2, v3, v4⟩ := hv6.cells
 have f4 := hx6.free 4
 have y0 := hv6.free 0
 have y1 := hv6.free 1
 have y2 := hv6.free 2
 have y3 := hv6.free 3
 have y4 := hv6.free 4
 have n1 : ¬ w.heap.size = w1.heap.size := by omega
 have n2 : ¬ w1.heap.size = w.heap.size := by omega
 go_wp2_with fail
 have hfin := fin5 h6 hx6 hv6 G6 hq n1 4 (.string (bs r5.1)) (by omega) (bs r3.1) 3 ⟨#[]⟩ 0 (bs r5.1)
 clear c0 c1 c2 c3 c4 v0 v1 v2 v3 v4 f4 y0 y1 y2 y3 y4 h6 hx6 hv6 G6
 generalize (((((w6.setCell ⟨w1.heap.size, 4, none⟩ (Value.string (bs r5.1))).setCell ⟨w.heap.size, 0, none⟩ (Value.string (bs r3.1))).setCell ⟨w.heap.size, 1, none⟩ (Value.int IntKind.i64 3)).setCell ⟨w.heap.size, 2, none⟩ (Value.string ⟨#[]⟩)).setCell ⟨w.heap.size, 3, none⟩ (Value.int IntKind.i64 0)).setCell ⟨w.heap.size, 4, none⟩ (Value.string (bs r5.1)) = W9 at *
 obtain ⟨hr, hv, hg⟩ := hfin
 obtain ⟨v0, v1, v2, v3, v4⟩ := hv.cells
 exact bodyPost_ret (v := itVal ⟨bs r3.1, 3, ⟨#[]⟩, 0, bs r5.1⟩) (by simp [results, Tryz.results126, go_sem, itVal, v0, v1, v2, v3, v4]) rfl ⟨rfl, hr, hg⟩
theorem shape_not (k : Nat) (h : k ≠ 3) : (P.shape (k : Int) == 2) = false := by
 unfold P.shape
 have : ¬ (k : Int) = 3 := by omega
 rw [if_neg this]
 repeat (first | rfl | split)
set_option maxHeartbeats 2000000 in
theorem item_plain (q : Nat) (s : RS) (w : World) (hs : s.rest.length ≤ maxLen) (h : Rd w q s) (hk : (rOne s).1 ≠ 3) :
  Calls Tryz.prog 126 #[.pointer (some ⟨q, 0, none⟩)] w fun e w' => e = .returned (itVal (rItem s).1) ∧ Rd w' q (rItem s).2 ∧ w.grownBy w' (some q) := by
 have hq := h.lt
 have er : rItem s = (⟨bs (rTake (rOne (rOne s).2).2 (rOne (rOne s).2).1).1, ((rOne s).1 : Nat), bs (rTake (rTake (rOne (rOne s).2).2 (rOne (rOne s).2).1).2 3).1, (((rOne (rTake (rTake (rOne (rOne s).2).2 (rOne (rOne s).2).1).2 3).2).1 + 256 * (rOne (rOne (rTake (rTake (rOne (rOne s).2).2 (rOne (rOne s).2).1).2 3).2).2).1 : Nat) : Int), ⟨#[]⟩⟩,
   (rOne (rOne (rTake (rTake (rOne (rOne s).2).2 (rOne (rOne s).2).1).2 3).2).2).2) := by
  unfold rItem
  simp only
  rw [if_neg hk]
 rw [er]
 have hsn := shape_not _ hk
 clear er hk
 have z1 := rOne_len s
 have b1 := rOne_bd s
 have z2 := rOne_len (rOne s).2
 have b2 := rOne_bd (rOne s).2
 generalize hr1 : rOne s = r1 at *
 generalize hr2 : rOne r1.2 = r2 at *
 have z3 := rTake_len r2.2 r2.1
 generalize hr3 : rTake r2.2 r2.1 = r3 at *
 have z4 := rTake_len r3.2 3
 generalize hr4 : rTake r3.2 3 = r4 at *
 have z5 := rOne_len r4.2
 have b5 := rOne_bd r4.2
 generalize hr5 : rOne r4.2 = r5 at *
 have b6 := rOne_bd r5.2
 generalize hr6 : rOne r5.2 = r6 at *
 obtain ⟨kd, hkd⟩ : ∃ kd, r1.1 = kd := ⟨_, rfl⟩
 rw [hkd] at hsn ⊢
 obtain ⟨sa, hsa⟩ : ∃ sa, r5.1 = sa := ⟨_, rfl⟩
 obtain ⟨sb, hsb⟩ : ∃ sb, r6.1 = sb := ⟨_, rfl⟩
 rw [hsa] at b5 ⊢
 rw [hsb] at b6 ⊢
 rw [show ((sa + 256 * sb : Nat) : Int) = (sa : Int) + 256 * (sb : Int) by omega]
 have H1 := hide hr1
 have H2 := hide hr2
 have H3 := hide hr3
 have H4 := hide hr4
 have H5 := hide hr5
 have H6 := hide hr6
 have Hk := hide hkd
 have Ha := hide hsa
 have Hb := hide hsb
 clear hr1 hr2 hr3 hr4 hr5 hr6 hkd hsa hsb
 go_enter Tryz.func126, Tryz.ntmps126
 go_wp2_with fail
 refine (one_any q s _ hs (by exact (Below.heap_alloc w _ q hq).trans h)).mono ?_
 rintro e w1 ⟨rfl, h1, g1⟩
 rw [unhide H1] at h1 ⊢
 rw [unhide Hk]
 have hqz : q < w1.heap.size := h1.lt
 have s1 : w.heap.size + 1 ≤ w1.heap.size := by have := g1.size; simpa using this
 have hv1 : Box w1 w.heap.size ⟨#[]⟩ 0 ⟨#[]⟩ 0 ⟨#[]⟩ := (Box.new w ⟨#[]⟩ 0 ⟨#[]⟩ 0 ⟨#[]⟩).grown g1 (by omega)
 have hx1 := Box.new w1 ⟨#[]⟩ kd ⟨#[]⟩ 0 ⟨#[]⟩
 have hv1' : Box (w1.alloc (.cells #[.string ⟨#[]⟩, .int .i64 kd, .string ⟨#[]⟩, .int .i64 0, .string ⟨#[]⟩] 47)) w.heap.size ⟨#[]⟩ 0 ⟨#[]⟩ 0 ⟨#[]⟩ := (Below.heap_alloc w1 _ _ hv1.lt).trans hv1
 go_wp2_with fail
 refine (one_any q r1.2 _ (by omega) (by exact (Below.heap_alloc w1 _ q hqz).trans h1)).mono ?_
 rintro e w2 ⟨rfl, h2, g2⟩
 rw [unhide H2] at h2 ⊢
 have hx2 := hx1.grown g2 (by omega)
 have hv2 := hv1'.grown g2 (by omega)
 have G2 : w.grownBy w2 (some q) := grown_trans (grown_trans (World.grownBy_alloc _ _ _) g1) (grown_trans (World.grownBy_alloc _ _ _) g2)
 clear g1 g2 hx1 hv1 hv1' h1
 go_wp2_with fail
 refine (take_any q r2.2 r2.1 w2 b2 (by omega) h2).mono ?_
 rintro e w3 ⟨rfl, h3, g3⟩
 rw [unhide H3] at h3 ⊢
 have hx3 := hx2.grown g3 (by omega)
 have hv3 := hv2.grown g3 (by omega)
 have G3 := grown_trans G2 g3
 clear g3 hx2 hv2 h2 G2
 obtain ⟨c0, c1, c2, c3, c4⟩ := hx3.cells
 have f0 := hx3.free 0
 go_wp2_with fail
 refine (shapeOf_any _ _).mono ?_
 rintro e w4 ⟨rfl, hw4⟩
 have h4 : Rd w4 q r3.2 := by rw [hw4]; exact h3.other (grown_setCell _ _ _ _) (by omega)
 have hx4 : Box w4 w1.heap.size (bs r3.1) kd ⟨#[]⟩ 0 ⟨#[]⟩ := by rw [hw4]; exact hx3.set0 _
 have hv4 : Box w4 w.heap.size ⟨#[]⟩ 0 ⟨#[]⟩ 0 ⟨#[]⟩ := by rw [hw4]; exact hv3.grown (grown_setCell _ _ _ _) (by omega)
 have G4 : Keep q w.heap.size w w4 := by rw [hw4]; exact (Keep.of G3).set (by omega) _ _
 clear hw4 h3 hx3 hv3 G3 c0 c1 c2 c3 c4 f0
 go_wp2_with fail
 refine (take_any q r3.2 3 w4 (by omega) (by omega) h4).mono ?_
 rintro e w5 ⟨rfl, h5, g5⟩
 rw [unhide H4] at h5 ⊢
 have hx5 := hx4.grown g5 (by omega)
 have hv5 := hv4.grown g5 (by omega)
 have G5 := G4.trans g5
 clear g5 hx4 hv4 h4 G4
 obtain ⟨c0, c1, c2, c3, c4⟩ := hx5.cells
 have f2 := hx5.free 2
 go_wp2_with fail
 have h6 : Rd (w5.setCell ⟨w1.heap.size, 2, none⟩ (.string (bs r4.1))) q r4.2 := h5.other (grown_setCell _ _ _ _) (by omega)
 have hx6 := hx5.set2 (bs r4.1)
 have hv6 : Box (w5.setCell ⟨w1.heap.size, 2, none⟩ (.string (bs r4.1))) w.heap.size ⟨#[]⟩ 0 ⟨#[]⟩ 0 ⟨#[]⟩ := hv5.grown (grown_setCell _ _ _ _) (by omega)
 have G6 : Keep q w.heap.size w (w5.setCell ⟨w1.heap.size, 2, none⟩ (.string (bs r4.1))) := G5.set (by omega) _ _
 clear h5 hx5 hv5 G5 c0 c1 c2 c3 c4 f2
 generalize w5.setCell ⟨w1.heap.size, 2, none⟩ (.string (bs r4.1)) = w6 at *
 refine (one_any q r4.2 w6 (by omega) h6).mono ?_
 rintro e w7 ⟨rfl, h7, g7⟩
 rw [unhide H5] at h7 ⊢
 rw [unhide Ha]
 have hx7 := hx6.grown g7 (by omega)
 have hv7 := hv6.grown g7 (by omega)
 have G7 := G6.trans g7
 clear g7 hx6 hv6 h6 G6
 obtain ⟨c0, c1, c2, c3, c4⟩ := hx7.cells
 have f3 := hx7.free 3
 go_upto_region 8 with fail
 have h8 : Rd (w7.setCell ⟨w1.heap.size, 3, none⟩ (.int .i64 sa)) q r5.2 := h7.other (grown_setCell _ _ _ _) (by omega)
 have hx8 := hx7.set3 (sa : Int)
 have hv8 : Box (w7.setCell ⟨w1.heap.size, 3, none⟩ (.int .i64 sa)) w.heap.size ⟨#[]⟩ 0 ⟨#[]⟩ 0 ⟨#[]⟩ := hv7.grown (grown_setCell _ _ _ _) (by omega)
 have G8 : Keep q w.heap.size w (w7.setCell ⟨w1.heap.size, 3, none⟩ (.int .i64 sa)) := G7.set (by omega) _ _
 clear h7 hx7 hv7 G7 c0 c1 c2 c3 c4 f3
 generalize w7.setCell ⟨w1.heap.size, 3, none⟩ (.int .i64 sa) = w8 at *
 obtain ⟨c0, c1, c2, c3, c4⟩ := hx8.cells
 have hd8 : Rd w8.drew q r5.2 := h8
 have m1 : IntKind.i64.wrap (256 * (sb : Int)) = 256 * (sb : Int) := by rw [IntKind.wrap_i64]; omega
 have m2 : IntKind.i64.wrap ((sa : Int) + 256 * (sb : Int)) = (sa : Int) + 256 * (sb : Int) := by rw [IntKind.wrap_i64]; omega
 have n1 : ¬ w.heap.size = w1.heap.size := by omega
 have n2 : ¬ w1.heap.size = w.heap.size := by omega
 go_region_with ((go_at_call 125; refine (one_any q r5.2 _ (by omega) hd8).mono ?_; rintro e w9 ⟨rfl, h9, g9⟩; rw [unhide H6] at h9 ⊢; rw [unhide Hb]; have hx9 := (show Box w9 _ _ _ _ _ _ from Box.grown (w := w8.drew) hx8 g9 (by omega)); have hv9 := (show Box w9 _ _ _ _ _ _ from Box.grown (w := w8.drew) hv8 g9 (by omega)); have G9 := G8.drew.trans g9; obtain ⟨t0, t1, t2, t3, t4⟩ := hx9.cells; have t3f := hx9.free 3; obtain ⟨v0, v1, v2, v3, v4⟩ := hv9.cells; have y0 := hv9.free 0; have y1 := hv9.free 1; have y2 := hv9.free 2; have y3 := hv9.free 3; have y4 := hv9.free 4))
 all_goals
  clear hd8 h8 hx8 hv8 G8 c0 c1 c2 c3 c4
  go_wp2_with fail
  have hfin := fin5 h9 hx9 hv9 G9 hq n1 3 (.int .i64 ((sa : Int) + 256 * (sb : Int))) (by omega) (bs r3.1) kd (bs r4.1) ((sa : Int) + 256 * (sb : Int)) ⟨#[]⟩
  clear t0 t1 t2 t3 t4 t3f v0 v1 v2 v3 v4 y0 y1 y2 y3 y4 h9 hx9 hv9 G9 g9
  generalize (((((w9.setCell ⟨w1.heap.size, 3, none⟩ (Value.int IntKind.i64 ((sa : Int) + 256 * (sb : Int)))).setCell ⟨w.heap.size, 0, none⟩ (Value.string (bs r3.1))).setCell ⟨w.heap.size, 1, none⟩ (Value.int IntKind.i64 kd)).setCell ⟨w.heap.size, 2, none⟩ (Value.string (bs r4.1))).setCell ⟨w.heap.size, 3, none⟩ (Value.int IntKind.i64 ((sa : Int) + 256 * (sb : Int)))).setCell ⟨w.heap.size, 4, none⟩ (Value.string ⟨#[]⟩) = W9 at *
  obtain ⟨hr, hv, hg⟩ := hfin
  obtain ⟨v0, v1, v2, v3, v4⟩ := hv.cells
  exact bodyPost_ret (v := itVal ⟨bs r3.1, kd, bs r4.1, (sa : Int) + 256 * (sb : Int), ⟨#[]⟩⟩) (by simp [results, Tryz.results126, go_sem, itVal, v0, v1, v2, v3, v4]) rfl ⟨rfl, hr, hg⟩
theorem item_any (q : Nat) (s : RS) (w : World) (hs : s.rest.length ≤ maxLen) (h : Rd w q s) :
  Calls Tryz.prog 126 #[.pointer (some ⟨q, 0, none⟩)] w fun e w' => e = .returned (itVal (rItem s).1) ∧ Rd w' q (rItem s).2 ∧ w.grownBy w' (some q) := by
 by_cases hk : (rOne s).1 = 3
 ·exact item_link q s w hs h hk
 ·exact item_plain q s w hs h hk
end Go.Proofs.YtjmacegibchplaaGreatDoor