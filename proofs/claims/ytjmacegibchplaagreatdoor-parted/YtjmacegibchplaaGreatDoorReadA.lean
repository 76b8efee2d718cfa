import Derived.Test.YtjmacegibchplaaGreatDoorEncA
import Derived.Lib.Strings
import Derived.Lib.BufferWrite
import Derived.Lib.UnsafeStr
import Derived.Lib.Hide
import Derived.Laws.MakeOwn
/-
  The program's Encode: its contract.
-/
namespace Go.Proofs.YtjmacegibchplaaGreatDoor
open Go.RowKit
set_option linter.unusedVariables false
def Lies (w : World) (a : Option Addr) (l : List P.It) : Prop := l = [] ∨ ∃ b o, a = some ⟨b, o, none⟩ ∧ ItemsAt w b o l
theorem Lies.below {B : Nat} {w w' : World} {a : Option Addr} {l : List P.It} (h : Lies w a l) (hb : Below B w w') (hB : w.heap.size ≤ B) : Lies w' a l := by
  rcases h with h | ⟨b, o, e, h⟩
  · exact .inl h
  · exact .inr ⟨b, o, e, h.below hb hB⟩
theorem isDirectory_nil (a : Option Addr) (c : Nat) (w : World) :
    Calls Tryz.prog 85 #[.slice a 0 c] w fun e w' => e = .returned (.bool true) ∧ w' = w := by
  go_enter Tryz.func85, Tryz.ntmps85
  go_wp2
  refine wp_loop_rounds 1 ?_
  rw [rounds_succ]
  go_wp2
  go_ret
  exact ⟨rfl, rfl⟩
theorem isDirectory_any (l : List P.It) (a : Option Addr) (c : Nat) (w : World) (hl : l.length ≤ maxLen) (hi : Lies w a l) (hf : FitAll l) :
    Calls Tryz.prog 85 #[.slice a l.length c] w fun e w' => e = .returned (.bool (dirOk l)) ∧ Below w.heap.size w w' := by
  rcases hi with rfl | ⟨b, o, rfl, h⟩
  · refine (isDirectory_nil a c w).mono ?_
    rintro e w' ⟨rfl, rfl⟩
    exact ⟨rfl, Below.refl _ _⟩
  · exact isDirectory_some l b o c w hl h hf
theorem take_snoc_it (l : List P.It) (k : Nat) (h : k < l.length) : l.take (k + 1) = l.take k ++ [l[k]] := by
  rw [List.take_succ_eq_append_getElem h]
theorem conv_own (w : World) (base : Nat) (v : Value) (l : List UInt8) (h : Owns w base v l) (hne : l ≠ []) :
    (convert 102 9 v).run Tryz.prog w = .ok (.string ⟨l.toArray⟩) w := by
  rcases h.2 with ⟨_, hn⟩ | ⟨g, cap, cur, rfl, _, hg, hnc, hcm, hcs, htake⟩
  · exact absurd (List.eq_nil_of_length_eq_zero hn) hne
  · refine run_convert_bytes_back w 102 9 5 ⟨g, 0, none⟩ cap l Tryz.underlying102 Tryz.underlying5 Tryz.underlying9 ?_
    intro j hj
    have hx := World.ownsRow.cells h (g := g) rfl j (byteVal l[j]) (by simp [List.getElem?_eq_getElem hj])
    exact hx
theorem owns_two (w : World) (base m n : Nat) (hm : m < 256) (hn : n < 256) (hb : base ≤ w.heap.size) :
    Owns (w.alloc (.cells #[.int .u8 (m : Int), .int .u8 (n : Int)] 5)) base (.slice (some ⟨w.heap.size, 0, none⟩) 2 2) [UInt8.ofNat m, UInt8.ofNat n] := by
  have h := World.ownsRow_lit (base := base) (e := 5) (size := 1) w #[.int .u8 (m : Int), .int .u8 (n : Int)] 2 hb (by decide) rfl
  unfold Owns
  rw [List.map_cons, List.map_cons, byteVal_nat m hm, byteVal_nat n hn]
  exact h
set_option maxHeartbeats 1000000 in
theorem dirEncode_yes (l : List P.It) (a : Option Addr) (c : Nat) (w : World) (hl : l.length ≤ maxLen) (hi : Lies w a l) (hf : FitAll l) (hd : dirOk l = true) :
    Calls Tryz.prog 57 #[.slice a l.length c] w fun e w' => e = .returned (.tuple #[.string ⟨(dirBytes l).toArray⟩, .int .i64 0]) ∧ Below w.heap.size w w' := by
  have h40 := len_of_dirOk l hd
  have hsane : ∀ x ∈ l, Sane x := fun x hx => by
    obtain ⟨k, hk, rfl⟩ := List.getElem_of_mem hx
    exact sane_of_ok _ (ok_of_dirOk l hd k hk)
  go_enter Tryz.func57, Tryz.ntmps57
  go_wp2_with fail
  refine (isDirectory_any l a c w hl hi hf).mono ?_
  rintro e w1 ⟨rfl, hb1⟩
  rw [hd]
  have hd' := hide hd
  clear hd
  have hi1 := hi.below hb1 (Nat.le_refl _)
  have hst := owns_two w1 w.heap.size 84 l.length (by omega) (by omega) hb1.size
  have hlb : itemsBytes l = itemsBytes l := rfl
  have hlen : ∀ k, (itemsBytes (l.take k)).length ≤ 2400 := fun k => by
    have h1 := itemsBytes_len (l.take k) (fun x hx => hsane x (List.mem_of_mem_take hx))
    have h2 : (l.take k).length ≤ l.length := by simp; omega
    omega
  clear hlb
  go_wp2_with fail
  go_loopw [4, 16] (fun v i wr => ∃ k : Nat, k ≤ l.length ∧ i = .int .i64 k ∧ Owns wr w.heap.size v (84 :: UInt8.ofNat l.length :: itemsBytes (l.take k)) ∧ Below w.heap.size w wr) (fun _ i _ => l.length - (intOf i).toNat)
  case atStart => exact ⟨0, Nat.zero_le _, rfl, hst, hb1.alloc hb1.size _⟩
  case round =>
    obtain ⟨k, hk, rfl, hown, hbel⟩ := hrel
    clear hst
    by_cases hlt : k < l.length
    · obtain ⟨b, o, rfl, hit⟩ : ∃ b o, a = some ⟨b, o, none⟩ ∧ ItemsAt w b o l := by
        rcases hi with h | h
        · subst h; simp at hlt
        · exact h
      obtain ⟨x, hx⟩ : ∃ x, l[k] = x := ⟨_, rfl⟩
      have hsx := hsane x (by rw [← hx]; exact List.getElem_mem hlt)
      obtain ⟨c0, c1, c2, c3, c4⟩ := (hit k hlt).below hbel (hit k hlt).lt
      rw [hx] at c0 c1 c2 c3 c4
      have Hx := hide hx
      clear hx
      obtain ⟨nm, kd, dg, sz, tg⟩ := x
      simp only at c0 c1 c2 c3 c4
      obtain ⟨kn, rfl⟩ : ∃ kn : Nat, kd = kn := ⟨kd.toNat, by have := hsx.k0; simp only at this; omega⟩
      have hl' := hlen k
      have hsz := hbel.size
      go_wp2_with fail
      refine (appendItem_any w.heap.size _ _ nm kn dg sz tg _ hsx (by simp; omega) (by simp; omega) (hown.alloc _)).mono ?_
      rintro e w2 ⟨v2, rfl, ho2, hk2⟩
      have hb2 : Below w.heap.size w w2 := (hbel.alloc hbel.size _).trans (hk2.below (by simp; omega))
      go_wp2_with fail
      go_roundw
      case rel =>
        refine ⟨k + 1, by omega, by go_num, ?_, hb2⟩
        rw [take_snoc_it l k hlt, itemsBytes_snoc, unhide Hx]
        simpa using ho2
      case measure => simp [intOf]; omega
    · obtain rfl : k = l.length := by omega
      have hcv := conv_own wr w.heap.size _ _ hown (by simp)
      rw [List.take_length] at hcv
      go_wp2_with fail
      go_ret2
      exact ⟨rfl, hbel⟩
end Go.Proofs.YtjmacegibchplaaGreatDoor

/-
  The program's reader of bytes: strings.Clone, take, one: their contracts.
-/
namespace Go.Proofs.YtjmacegibchplaaGreatDoor
open Go.RowKit
set_option linter.unusedVariables false
def bs (l : List UInt8) : ByteArray := ⟨l.toArray⟩
theorem bs_data (l : List UInt8) : (bs l).data.toList = l := by simp [bs]
theorem bs_size (l : List UInt8) : (bs l).size = l.length := by simp [bs, ByteArray.size]
theorem bs_of (s : ByteArray) : bs s.data.toList = s := by
  apply ByteArray.ext; apply Array.ext'; simp [bs]
theorem extract_bs (l : List UInt8) (a b : Nat) : (bs l).extract a b = bs ((l.drop a).take (b - a)) := by
  rw [← bs_of ((bs l).extract a b), Lib.extract_data, bs_data]
theorem cells_u8 : Tryz.prog.cellsOf 5 = 1 := by kernel_rfl
set_option maxHeartbeats 2000000 in
set_option maxRecDepth 100000 in
theorem cloneLite (l : List UInt8) (w : World) (hl : l.length ≤ 1000) :
    Calls Tryz.prog 105 #[.string (bs l)] w fun e w' => e = .returned (.string (bs l)) ∧ Below w.heap.size w w' := by
  cases l with
  | nil =>
    go_enter Tryz.func105, Tryz.ntmps105
    go_wp2
    go_ret
    exact ⟨rfl, Below.refl _ _⟩
  | cons x r =>
    generalize hL : x :: r = L at *
    have hne : L ≠ [] := by rw [← hL]; simp
    have hpos : 0 < L.length := by rw [← hL]; simp
    clear hL
    have hsz := bs_size L
    obtain ⟨i0, hi, hz0, hz1, hz2⟩ := info_parts info_u8
    have hinfo : (Tryz.prog.info? 5).map (·.size) = some 1 := by rw [hi]; simp [hz1]
    obtain ⟨M, hMs, hmk⟩ : ∃ M : Array Value, M.size = L.length ∧ ∀ W : World, (Instr.makeSlice 102 (.int .i64 (L.length : Int)) (.int .i64 (L.length : Int))).run Tryz.prog W = .ok (.slice (some ⟨W.heap.size, 0, none⟩) L.length L.length) (W.alloc (.cells M 5)) := by
      refine ⟨madeCells (Value.int .u8 0).cells (((L.length : Nat) : Int).toNat * i0.size), by rw [size_madeCells, hz1]; simp, fun W => ?_⟩
      have h := run_make (P := Tryz.prog) W 102 5 i0 (.int .u8 0) Tryz.underlying102 hi hz0 .i64 .i64 (L.length : Int) (L.length : Int) (by omega) (by omega) (by rw [hz2]; omega) (by omega)
      simpa using h
    have hcp := Lib.run_copy_row_string (P := Tryz.prog) (w.alloc (.cells M 5)) 102 9 3 5 w.heap.size 0 L.length L.length (bs L) M 5 Tryz.underlying102 hinfo (heap_alloc_new w _) (by rw [hsz]; exact Nat.le_refl _) (by rw [hsz]; omega)
    obtain ⟨Y, hY⟩ : ∃ Y, Y = (M.toList.take 0 ++ Lib.byteCells (bs L).data.toList ++ M.toList.drop (0 + (bs L).size)).toArray := ⟨_, rfl⟩
    rw [← hY] at hcp
    have hYl : Y.toList = Lib.byteCells L := by
      rw [hY, bs_data, hsz]
      simp
      omega
    have hYs : Y.size = L.length := by rw [← Array.length_toList, hYl, Lib.byteCells_length]
    have hgY : ((w.alloc (.cells M 5)).setRow w.heap.size Y).heap[w.heap.size]? = some (.cells Y 5 (0, 0)) := setRow_heap _ _ M _ 5 (0, 0) (heap_alloc_new w _)
    have hUS := Lib.run_unsafeString_row (P := Tryz.prog) ((w.alloc (.cells M 5)).setRow w.heap.size Y) 197 3 9 5 Tryz.underlying197 cells_u8 w.heap.size Y.size (by unfold World.shape?; rw [hgY]) L hne (by omega) (by omega)
      (fun j y hy => Lib.cells_of_row hgY Y.size j _ (by rw [List.take_of_length_le (by rw [Array.length_toList]; exact Nat.le_refl _), hYl]; simp [Lib.byteCells, hy]))
    clear hY
    have hb1 : Below w.heap.size w (w.alloc (.cells M 5)) := (Below.refl _ w).alloc (Nat.le_refl _) _
    have hb2 : Below w.heap.size (w.alloc (.cells M 5)) ((w.alloc (.cells M 5)).setRow w.heap.size Y) := ⟨rfl, rfl, rfl, by simp, fun k hk => setRow_other _ _ _ _ (by omega)⟩
    have hb3 := Lib.below_freeze (hb1.trans hb2) (p := ⟨w.heap.size, 0, none⟩) (Nat.le_refl _) L.length
    rw [hsz] at hcp
    generalize (w.alloc (.cells M 5)).setRow w.heap.size Y = W2 at *
    have hb : ((L.length : Int) == 0) = false := by simp; omega
    have hlt : (0 : Int) < (L.length : Int) := by omega
    change Calls Tryz.prog 105 #[.string (bs L)] w fun e w' => e = .returned (.string (bs L)) ∧ Below w.heap.size w w'
    go_enter Tryz.func105, Tryz.ntmps105
    go_wp2
    go_ret
    exact ⟨rfl, hb3⟩
theorem clone_any (l : List UInt8) (w : World) (hl : l.length ≤ 1000) :
    Calls Tryz.prog 66 #[.string (bs l)] w fun e w' => e = .returned (.string (bs l)) ∧ Below w.heap.size w w' := by
  go_enter Tryz.func66, Tryz.ntmps66
  go_wp2_with fail
  refine (cloneLite l w hl).mono ?_
  rintro e w' ⟨rfl, hb⟩
  go_wp2_with fail
  go_ret
  exact ⟨rfl, hb⟩
structure RS where
  rest : List UInt8
  short : Bool
def rTake (s : RS) (n : Nat) : List UInt8 × RS := if s.rest.length < n then ([], ⟨[], true⟩) else (s.rest.take n, ⟨s.rest.drop n, s.short⟩)
def rOne (s : RS) : Nat × RS := if (rTake s 1).2.short = true then (0, (rTake s 1).2) else (((rTake s 1).1.headD 0).toNat, (rTake s 1).2)
def Rd (w : World) (q : Nat) (s : RS) : Prop := w.heap[q]? = some (.cells #[.string (bs s.rest), .bool s.short] 168 (0, 0))
theorem Rd.cells {w : World} {q : Nat} {s : RS} (h : Rd w q s) : w.cell? ⟨q, 0, none⟩ = some (.string (bs s.rest)) ∧ w.cell? ⟨q, 1, none⟩ = some (.bool s.short) ∧ w.frozen? ⟨q, 0, none⟩ = false ∧ w.frozen? ⟨q, 1, none⟩ = false :=
  ⟨by rw [cell_of_block h]; rfl, by rw [cell_of_block h]; rfl, free_block h, free_block h⟩
theorem Rd.lt {w : World} {q : Nat} {s : RS} (h : Rd w q s) : q < w.heap.size := (Array.getElem?_eq_some_iff.1 h).1
theorem setCell_block {w : World} {q j : Nat} {cur : Array Value} {t : TypeId} {fz : Nat × Nat} (v : Value) (h : w.heap[q]? = some (.cells cur t fz)) : (w.setCell ⟨q, j, none⟩ v).heap[q]? = some (.cells (cur.setIfInBounds j v) t fz) := by
  rw [setCell_eq_setRow w q j cur t fz v h]
  exact setRow_heap w q cur _ t fz h
theorem grown_setCell (w : World) (q j : Nat) (v : Value) : w.grownBy (w.setCell ⟨q, j, none⟩ v) (some q) :=
  ⟨rfl, rfl, rfl, by simp [World.setCell], fun k hk hne => Below.heap_setCell w ⟨q, j, none⟩ v k (fun e => hne (by rw [e]))⟩
theorem grown_trans {a b c : World} {r : Option Nat} (h : a.grownBy b r) (k : b.grownBy c r) : a.grownBy c r :=
  ⟨k.os.trans h.os, k.tape.trans h.tape, k.output.trans h.output, Nat.le_trans h.size k.size, fun j hj hne => (k.block j (Nat.lt_of_lt_of_le hj h.size) hne).trans (h.block j hj hne)⟩
theorem grown_below {a b : World} {r : Option Nat} (h : Below a.heap.size a b) : a.grownBy b r := ⟨h.os, h.tape, h.output, h.size, fun k hk _ => h.block k hk⟩
set_option maxHeartbeats 1000000 in
theorem take_any (q : Nat) (s : RS) (n : Nat) (w : World) (hn : n ≤ 255) (hs : s.rest.length ≤ maxLen) (h : Rd w q s) :
    Calls Tryz.prog 169 #[.pointer (some ⟨q, 0, none⟩), .int .i64 n] w fun e w' => e = .returned (.string (bs (rTake s n).1)) ∧ Rd w' q (rTake s n).2 ∧ w.grownBy w' (some q) := by
  obtain ⟨c0, c1, f0, f1⟩ := h.cells
  have hsz := bs_size s.rest
  unfold maxLen at hs
  by_cases hlt : s.rest.length < n
  · have e : rTake s n = ([], ⟨[], true⟩) := by unfold rTake; rw [if_pos hlt]
    rw [e]
    have hlt' : ((bs s.rest).size : Int) < (n : Int) := by rw [hsz]; omega
    go_enter Tryz.func169, Tryz.ntmps169
    go_wp2
    go_ret
    refine ⟨rfl, ?_, grown_trans (grown_setCell _ _ _ _) (grown_setCell _ _ _ _)⟩
    exact setCell_block _ (setCell_block _ h)
  · have e : rTake s n = (s.rest.take n, ⟨s.rest.drop n, s.short⟩) := by unfold rTake; rw [if_neg hlt]
    rw [e]
    have hle' : (n : Int) ≤ ((bs s.rest).size : Int) := by rw [hsz]; omega
    have hcut := extract_bs s.rest 0 n
    rw [List.drop_zero, Nat.sub_zero] at hcut
    go_enter Tryz.func169, Tryz.ntmps169
    go_wp2_with fail
    refine (clone_any _ w (by simp; omega)).mono ?_
    rintro e w1 ⟨rfl, hb⟩
    have hcut2 := extract_bs s.rest n s.rest.length
    rw [List.take_of_length_le (by simp)] at hcut2
    have h1 : Rd w1 q s := (hb.block q h.lt).trans h
    clear c0 c1 f0 f1
    obtain ⟨c0, c1, f0, f1⟩ := h1.cells
    go_wp2_with fail
    go_ret
    refine ⟨rfl, ?_, grown_trans (grown_below hb) (grown_setCell _ _ _ _)⟩
    exact setCell_block _ h1
theorem rTake_short (s : RS) (n : Nat) : (rTake s n).2.short = true ∨ ((rTake s n).2.short = false ∧ (rTake s n).1 = s.rest.take n ∧ n ≤ s.rest.length) := by
  unfold rTake
  split
  · left; rfl
  · cases h : s.short
    · right; exact ⟨rfl, rfl, by omega⟩
    · left; rfl
set_option maxHeartbeats 1000000 in
theorem one_any (q : Nat) (s : RS) (w : World) (hs : s.rest.length ≤ maxLen) (h : Rd w q s) :
    Calls Tryz.prog 125 #[.pointer (some ⟨q, 0, none⟩)] w fun e w' => e = .returned (.int .i64 ((rOne s).1 : Nat)) ∧ Rd w' q (rOne s).2 ∧ w.grownBy w' (some q) := by
  have e2 : (rOne s).2 = (rTake s 1).2 := by unfold rOne; split <;> rfl
  rw [e2]
  rcases rTake_short s 1 with hsh | ⟨hsh, ht, hl⟩
  · have e1 : (rOne s).1 = 0 := by unfold rOne; rw [if_pos hsh]
    rw [e1]
    have Hsh := hide hsh
    clear hsh e1 e2
    go_enter Tryz.func125, Tryz.ntmps125
    go_wp2_with fail
    refine (take_any q s 1 w (by omega) hs h).mono ?_
    rintro e w1 ⟨rfl, h1, hg⟩
    obtain ⟨c0, c1, f0, f1⟩ := h1.cells
    rw [unhide Hsh] at c1
    go_wp2_with fail
    go_ret
    exact ⟨rfl, h1, hg⟩
  · have e1 : (rOne s).1 = ((rTake s 1).1.headD 0).toNat := by unfold rOne; rw [if_neg (by simp [hsh])]
    obtain ⟨x, hx⟩ : ∃ x, (rTake s 1).1 = [x] := by
      rw [ht]
      match s.rest, hl with
      | x :: r, _ => exact ⟨x, rfl⟩
    rw [hx] at e1
    simp only [List.headD_cons] at e1
    rw [e1]
    have Hsh := hide hsh
    have Hx := hide hx
    clear hsh e1 e2 ht hx
    go_enter Tryz.func125, Tryz.ntmps125
    go_wp2_with fail
    refine (take_any q s 1 w (by omega) hs h).mono ?_
    rintro e w1 ⟨rfl, h1, hg⟩
    obtain ⟨c0, c1, f0, f1⟩ := h1.cells
    rw [unhide Hsh] at c1
    rw [unhide Hx]
    have hb : (x.toNat : Int) ≤ 255 := by have := x.toNat_lt; omega
    have hsz : (bs [x]).size = 1 := rfl
    have hx0 : (bs [x])[0]'(by rw [hsz]; omega) = x := rfl
    go_wp2_with fail
    go_ret
    exact ⟨ret_int (by first | rfl | omega), h1, hg⟩
end Go.Proofs.YtjmacegibchplaaGreatDoor
