import Derived.Test.YtjmacegibchplaaGreatDoorLbP
import Derived.Test.YtjmacegibchplaaGreatDoorLcG
import Derived.Test.YtjmacegibchplaaGreatDoorLawM
namespace Go.Proofs.YtjmacegibchplaaGreatDoor
open Go.RowKit
set_option linter.unusedVariables false
theorem cells_op : Tryz.prog.cellsOf 93 = 11 := by kernel_rfl
theorem cells_plan : Tryz.prog.cellsOf 57 = 3 := by kernel_rfl
theorem cells_texts : Tryz.prog.cellsOf 23 = 1 := by kernel_rfl
theorem cells_ents : Tryz.prog.cellsOf 22 = 1 := by kernel_rfl
theorem cells_ints : Tryz.prog.cellsOf 55 = 1 := by kernel_rfl
structure OpP.More (w : World) (o : OpP) : Prop where
 t0 : -9223372036854775808 ≤ o.tr
 t1 : o.tr ≤ 9223372036854775807
 b0 : -9223372036854775808 ≤ o.ba
 b1 : o.ba ≤ 9223372036854775807
 li : ∃ (a : Option Addr) (l : List Int) (c : Nat), o.Li = .slice a l.length c ∧ IntsAt w a l ∧ (∀ r ∈ l, -9223372036854775808 ≤ r ∧ r ≤ 9223372036854775807) ∧ l.length ≤ 1048576 ∧ (a = none → l = [] ∧ c = 0)
theorem lit_i64 {n : Int} (h : Lit.wf (.int .i64 n)) : -9223372036854775808 ≤ n ∧ n ≤ 9223372036854775807 := by
 have h1 := h
 simp [Lit.wf] at h1
 have hmin : IntKind.i64.min = -9223372036854775808 := by decide
 have hmax : IntKind.i64.max = 9223372036854775807 := by decide
 omega
theorem bulk_some {H : Type} {k : Nat} : ∀ l : List (DataW H), (∀ d ∈ l, k ≤ Rows.uptoBulk d) → k * l.length ≤ Rows.uptoBulkAll l
 | [], _ => Nat.zero_le _
 | d :: l, h => by
  have h1 := h d (by simp)
  have h2 := bulk_some l (fun x hx => h x (by simp [hx]))
  rw [Rows.uptoBulkAll, List.length_cons, Nat.mul_add]
  omega
set_option maxRecDepth 100000 in
theorem open_planB {H : Type} {enc : TypeId × Value → H} {W : World} {base : Nat} {sp : Nat → Bool} {held : Bool} {fuel : Nat} {cs : List Value} {x : DataW H × List MemPlace}
  (h : DataW.trod enc Tryz.prog W base sp held fuel 57 cs = some x) (hk : Rows.uptoBulk x.1 ≤ 1048576) : ∃ (tr ba : Int) (a : Option Addr) (l : List Int) (c : Nat), cs = [.int .i64 tr, .int .i64 ba, .slice a l.length c] ∧ (-9223372036854775808 ≤ tr ∧ tr ≤ 9223372036854775807) ∧ (-9223372036854775808 ≤ ba ∧ ba ≤ 9223372036854775807) ∧ IntsAt W a l ∧ (∀ r ∈ l, -9223372036854775808 ≤ r ∧ r ≤ 9223372036854775807) ∧ l.length ≤ 1048576 ∧ (a = none → l = [] ∧ c = 0) := by
 obtain ⟨xs, n, _, rfl, hl, hlen, hf⟩ := DataW.trod_struct Tryz.underlying57 h
 rw [cells_plan] at hl
 match cs, hl with
 | [v0, v1, v2], _ =>
  have h0 : DataW.trod enc Tryz.prog W base sp held n 3 (([v0, v1, v2].drop 0).take (Tryz.prog.cellsOf 3)) = xs[0]? := hf 0 _ rfl
  have h1 : DataW.trod enc Tryz.prog W base sp held n 3 (([v0, v1, v2].drop 1).take (Tryz.prog.cellsOf 3)) = xs[1]? := hf 1 _ rfl
  have h2 : DataW.trod enc Tryz.prog W base sp held n 55 (([v0, v1, v2].drop 2).take (Tryz.prog.cellsOf 55)) = xs[2]? := hf 2 _ rfl
  rw [cells_int] at h0 h1
  rw [cells_ints] at h2
  match xs, hlen with
  | [y0, y1, y2], _ =>
   obtain ⟨s0, e0, r0, z0⟩ := DataW.trod_int Tryz.underlying3 h0
   obtain ⟨s1, e1, r1, z1⟩ := DataW.trod_int Tryz.underlying3 h1
   simp at e0 e1
   subst e0 e1
   obtain ⟨a2, n2, c2, e2⟩ : ∃ a len cap, v2 = .slice a len cap := by
    rcases Deep.open_slice Tryz.underlying55 h2 with ⟨hcs, _⟩ | ⟨ad, len', cap', m, n, D, Pl, hcs, _⟩
    ·simp at hcs; exact ⟨_, _, _, hcs⟩
    ·simp at hcs; exact ⟨_, _, _, hcs⟩
   subst e2
   simp only [List.map_cons, List.map_nil, Rows.uptoBulk, Rows.uptoBulkAll] at hk
   obtain ⟨l, hl2, hs2, hb2, hn2, ho2⟩ := open_intsB h2 (by show Rows.uptoBulk y2.1 ≤ 1048576; omega)
   subst hl2
   exact ⟨s0, s1, a2, l, c2, rfl, lit_i64 z0, lit_i64 z1, hs2, hb2, hn2, ho2⟩
set_option maxRecDepth 100000 in
theorem open_opB {H : Type} {enc : TypeId × Value → H} {W : World} {base : Nat} {sp : Nat → Bool} {held : Bool} {fuel : Nat} {cs : List Value} {x : DataW H × List MemPlace}
  (h : DataW.trod enc Tryz.prog W base sp held fuel 93 cs = some x) (hk : Rows.uptoBulk x.1 ≤ 1048576) : 9 ≤ Rows.uptoBulk x.1 ∧ ∃ o : OpP, cs = o.cells.toList ∧ o.Ok W ∧ o.More W := by
 obtain ⟨xs, n, _, rfl, hl, hlen, hf⟩ := DataW.trod_struct Tryz.underlying93 h
 rw [cells_op] at hl
 match cs, hl with
 | [v0, v1, v2, v3, v4, v5, v6, v7, v8, v9, v10], _ =>
  have h0 : DataW.trod enc Tryz.prog W base sp held n 3 (([v0, v1, v2, v3, v4, v5, v6, v7, v8, v9, v10].drop 0).take (Tryz.prog.cellsOf 3)) = xs[0]? := hf 0 _ rfl
  have h1 : DataW.trod enc Tryz.prog W base sp held n 3 (([v0, v1, v2, v3, v4, v5, v6, v7, v8, v9, v10].drop 1).take (Tryz.prog.cellsOf 3)) = xs[1]? := hf 1 _ rfl
  have h2 : DataW.trod enc Tryz.prog W base sp held n 3 (([v0, v1, v2, v3, v4, v5, v6, v7, v8, v9, v10].drop 2).take (Tryz.prog.cellsOf 3)) = xs[2]? := hf 2 _ rfl
  have h3 : DataW.trod enc Tryz.prog W base sp held n 3 (([v0, v1, v2, v3, v4, v5, v6, v7, v8, v9, v10].drop 3).take (Tryz.prog.cellsOf 3)) = xs[3]? := hf 3 _ rfl
  have h4 : DataW.trod enc Tryz.prog W base sp held n 9 (([v0, v1, v2, v3, v4, v5, v6, v7, v8, v9, v10].drop 4).take (Tryz.prog.cellsOf 9)) = xs[4]? := hf 4 _ rfl
  have h5 : DataW.trod enc Tryz.prog W base sp held n 9 (([v0, v1, v2, v3, v4, v5, v6, v7, v8, v9, v10].drop 5).take (Tryz.prog.cellsOf 9)) = xs[5]? := hf 5 _ rfl
  have h6 : DataW.trod enc Tryz.prog W base sp held n 23 (([v0, v1, v2, v3, v4, v5, v6, v7, v8, v9, v10].drop 6).take (Tryz.prog.cellsOf 23)) = xs[6]? := hf 6 _ rfl
  have h7 : DataW.trod enc Tryz.prog W base sp held n 22 (([v0, v1, v2, v3, v4, v5, v6, v7, v8, v9, v10].drop 7).take (Tryz.prog.cellsOf 22)) = xs[7]? := hf 7 _ rfl
  have h8 : DataW.trod enc Tryz.prog W base sp held n 57 (([v0, v1, v2, v3, v4, v5, v6, v7, v8, v9, v10].drop 8).take (Tryz.prog.cellsOf 57)) = xs[8]? := hf 8 _ rfl
  rw [cells_int] at h0 h1 h2 h3
  rw [cells_str] at h4 h5
  rw [cells_texts] at h6
  rw [cells_ents] at h7
  rw [cells_plan] at h8
  match xs, hlen with
  | [y0, y1, y2, y3, y4, y5, y6, y7, y8], _ =>
   obtain ⟨s0, e0, r0, z0⟩ := DataW.trod_int Tryz.underlying3 h0
   obtain ⟨s1, e1, r1, z1⟩ := DataW.trod_int Tryz.underlying3 h1
   obtain ⟨s2, e2, r2, z2⟩ := DataW.trod_int Tryz.underlying3 h2
   obtain ⟨s3, e3, r3, z3⟩ := DataW.trod_int Tryz.underlying3 h3
   obtain ⟨s4, e4, r4, z4⟩ := DataW.trod_string Tryz.underlying9 h4
   obtain ⟨s5, e5, r5, z5⟩ := DataW.trod_string Tryz.underlying9 h5
   simp at e0 e1 e2 e3 e4 e5
   subst e0 e1 e2 e3 e4 e5
   obtain ⟨a6, n6, c6, e6⟩ : ∃ a len cap, v6 = .slice a len cap := by
    rcases Deep.open_slice Tryz.underlying23 h6 with ⟨hcs, _⟩ | ⟨ad, len', cap', m, n, D, Pl, hcs, _⟩
    ·simp at hcs; exact ⟨_, _, _, hcs⟩
    ·simp at hcs; exact ⟨_, _, _, hcs⟩
   obtain ⟨a7, n7, c7, e7⟩ : ∃ a len cap, v7 = .slice a len cap := by
    rcases Deep.open_slice Tryz.underlying22 h7 with ⟨hcs, _⟩ | ⟨ad, len', cap', m, n, D, Pl, hcs, _⟩
    ·simp at hcs; exact ⟨_, _, _, hcs⟩
    ·simp at hcs; exact ⟨_, _, _, hcs⟩
   subst e6 e7
   have q0 := bulk_pos y0.1
   have q1 := bulk_pos y1.1
   have q2 := bulk_pos y2.1
   have q3 := bulk_pos y3.1
   have q4 := bulk_pos y4.1
   have q5 := bulk_pos y5.1
   have q6 := bulk_pos y6.1
   have q7 := bulk_pos y7.1
   have q8 := bulk_pos y8.1
   have f4 : Rows.uptoBulk y4.1 = s4.data.toList.length + 1 := by rw [r4]; simp only [Rows.uptoBulk]
   have f5 : Rows.uptoBulk y5.1 = s5.data.toList.length + 1 := by rw [r5]; simp only [Rows.uptoBulk]
   simp only [List.map_cons, List.map_nil, Rows.uptoBulk, Rows.uptoBulkAll] at hk ⊢
   obtain ⟨l6, hl6, hs6, hb6, hn6, ho6⟩ := open_textsB h6 (by show Rows.uptoBulk y6.1 ≤ 1048576; omega)
   obtain ⟨l7, hl7, hs7, hb7, hn7, ho7⟩ := open_entriesB h7 (by show Rows.uptoBulk y7.1 ≤ 1048576; omega)
   obtain ⟨tr, ba, a8, l8, c8, e8, ht8, hb8, hs8, hr8, hn8, ho8⟩ := open_planB (x := y8) h8 (by omega)
   subst hl6 hl7
   simp at e8
   obtain ⟨e8, e9, e10⟩ := e8
   subst e8 e9 e10
   have i1 := lit_i64 z1
   refine ⟨by omega, ⟨s0, s1, s2, s3, s4.data.toList, s5.data.toList, l6, a6, c6, l7, a7, c7, tr, ba, .slice a8 l8.length c8⟩, ?_, ⟨i1.1, i1.2, ?_, ?_, ?_, hs6, ho6, fun x hx => ?_, ?_, hs7, ho7, hb7⟩, ⟨ht8.1, ht8.2, hb8.1, hb8.2, ⟨a8, l8, c8, rfl, hs8, hr8, hn8, ho8⟩⟩⟩
   ·unfold OpP.cells opC
    rw [bs_of, bs_of]
   ·show s4.data.toList.length ≤ _; omega
   ·show s5.data.toList.length ≤ _; omega
   ·show l6.length ≤ _; omega
   ·have := hb6 x hx; omega
   ·show l7.length ≤ _; omega
set_option maxRecDepth 100000 in
theorem open_opsB {H : Type} {enc : TypeId × Value → H} {W : World} {base : Nat} {sp : Nat → Bool} {held : Bool} {fuel : Nat} {a : Option Addr} {len cap : Nat} {x : DataW H × List MemPlace}
  (h : DataW.trod enc Tryz.prog W base sp held fuel 39 [.slice a len cap] = some x) (hk : Rows.uptoBulk x.1 ≤ 1048576) :
  ∃ l : List OpP, l.length = len ∧ LiesO W a l ∧ (∀ i (h : i < l.length), (l[i]).Ok W ∧ (l[i]).More W) ∧ len ≤ 120000 ∧ (a = none → l = [] ∧ cap = 0) := by
 rcases Deep.open_slice Tryz.underlying39 h with ⟨hcs, rfl⟩ | ⟨ad, len', cap', m, n, D, Pl, hcs, _, hl, hm, hmm, rfl, hel⟩
 ·simp at hcs
  obtain ⟨rfl, rfl, rfl⟩ := hcs
  exact ⟨[], rfl, .inl rfl, fun i hi => absurd hi (by simp), by decide, fun _ => ⟨rfl, rfl⟩⟩
 ·simp at hcs
  obtain ⟨rfl, rfl, rfl⟩ := hcs
  have hlm : len ≤ m := by rw [hmm]; split <;> omega
  simp only [Rows.uptoBulk] at hk
  have hpart : ∀ i, i < len → Rows.uptoBulk (D i) ≤ 1048576 := fun i hi => by
   have hp := bulk_part (d := D i) (l := (List.range len).map D) (List.mem_map.2 ⟨i, by simpa using hi, rfl⟩)
   omega
  have hex : ∀ i, i < len → ∃ o : OpP, (o.Ok W ∧ o.More W) ∧ ∀ j v, o.cells[j]? = some v → W.cell? ((ad.add (i * 11)).add j) = some v := by
   intro i hi
   obtain ⟨cs', hc, ht⟩ := hel i (by omega)
   obtain ⟨_, o, rfl, ho⟩ := open_opB ht (hpart i hi)
   rw [cells_op] at hc
   obtain ⟨_, hlen, hcc⟩ := World.cells?_some hc
   refine ⟨o, ho, fun j v hv => ?_⟩
   have hj : j < 11 := (Array.getElem?_eq_some_iff.1 hv).1
   rw [← hv, ← Array.getElem?_toList]
   exact hcc j hj
  have hln := bulk_some (k := 9) ((List.range len).map D) (fun d hd => by
   obtain ⟨i, hi, rfl⟩ := List.mem_map.1 hd
   have hi' : i < len := by simpa using hi
   obtain ⟨cs', hc, ht⟩ := hel i (by omega)
   exact (open_opB ht (hpart i hi')).1)
  rw [List.length_map, List.length_range] at hln
  obtain ⟨l, hll, hp⟩ := list_choose hex
  refine ⟨l, hll, ?_, fun i hi => (hp i hi).1, by omega, fun h => by simp at h⟩
  rcases Nat.eq_zero_or_pos len with h0 | hpos
  ·left; exact List.eq_nil_of_length_eq_zero (by omega)
  ·right
   obtain ⟨b, o, spot⟩ := ad
   have hc := (hp 0 (by omega)).2 0 _ rfl
   have hspot : spot = none := by simpa [Addr.add] using World.cell?_spot hc
   subst hspot
   refine ⟨b, o, rfl, ?_⟩
   intro i hi j v hv
   have := (hp i hi).2 j v hv
   rw [add_off, add_off] at this
   exact this
end Go.Proofs.YtjmacegibchplaaGreatDoor
namespace Go.Proofs.YtjmacegibchplaaGreatDoor
open Go.RowKit Go.Maps Go.WideMaps
set_option linter.unusedVariables false
theorem OpP.More.below {w w' : World} {o : OpP} (h : o.More w) (hb : Below w.heap.size w w') : o.More w' := by
 obtain ⟨a, l, c, e, hi, hr, hl, hn⟩ := h.li
 exact ⟨h.t0, h.t1, h.b0, h.b1, ⟨a, l, c, e, hi.below hb (Nat.le_refl _), hr, hl, hn⟩⟩
def OpP.Low (base : Nat) (o : OpP) : Prop := (∀ b s, o.aE = some ⟨b, s, none⟩ → o.tree ≠ [] → b < base) ∧ ∀ b s n c, o.Li = .slice (some ⟨b, s, none⟩) n c → n ≠ 0 → b < base
theorem OpP.low_of {w : World} {o : OpP} (h1 : o.Ok w) (h2 : o.More w) : o.Low w.heap.size := by
 refine ⟨fun b s e hne => ?_, fun b s n c e hne => ?_⟩
 ·rcases h1.et with h | ⟨b', s', e', h⟩
  ·exact absurd h hne
  ·rw [e'] at e
   obtain ⟨rfl, rfl⟩ : b' = b ∧ s' = s := by simpa using e
   exact entAt_lt (h 0 (List.length_pos_iff.2 hne))
 ·obtain ⟨a, l, c', e2, hi, -⟩ := h2.li
  rw [e2] at e
  obtain ⟨rfl, rfl, -⟩ : a = some ⟨b, s, none⟩ ∧ l.length = n ∧ c' = c := by simpa using e
  rcases hi with h | ⟨b', s', e', h⟩
  ·rw [h] at hne; simp at hne
  ·obtain ⟨rfl, rfl⟩ : b = b' ∧ s = s' := by simpa using e'
   exact block_lt (h 0 (by omega))
def StepOk (hi : Int) : Prop := ∀ (w : World) (wb base N K : Nat) (ps : Value) (B : Nat → Prop) (L : List PR) (o : OpP), Sd w wb base ps B N K L → o.Ok w → o.More w → o.Low base → GlobOk w → 0 < L.length → L.length ≤ 900000 → N ≤ 4000000 → K ≤ 500000 → (o.kind ≤ hi ∨ 7 < o.kind) →
  Calls Tryz.prog 49 #[.pointer (some ⟨wb, 0, none⟩), .agg o.cells] w fun e w' => e = .returned (.bool true) ∧ Next w wb base (N + 2) (K + 1) L.length w'
def StR (w : World) (N K m : Nat) (W : World) : Prop := ∃ ps B L, (2 ≤ List.length L ∧ List.length L ≤ m) ∧ Sd W w.heap.size w.heap.size ps B N K L ∧ Below w.heap.size w W
theorem Next.toR {w W W' : World} {N K N' K' n m : Nat} (h : Next W w.heap.size w.heap.size N K n W') (hb : Below w.heap.size w W) (hn : 2 ≤ n) (hm : n + 1 ≤ m) (hN : N ≤ N') (hK : K ≤ K') : StR w N' K' m W' := by
 obtain ⟨ps, B, L, hl, hs, hf⟩ := h
 exact ⟨ps, B, L, ⟨by omega, by omega⟩, hs.mono hN hK, hb.trans (hf.toBelow hb.size (fun x hx => hx))⟩
theorem plays_sd (hi : Int) (h3 : 3 ≤ hi) (hstep : StepOk hi) (l : List OpP) (a : Option Addr) (c : Nat) (w : World) (hg : GlobOk w) (hll : l.length ≤ 120000) (hlies : LiesO w a l) (hoks : ∀ i (h : i < l.length), (l[i]).Ok w ∧ (l[i]).More w) :
  Calls Tryz.prog 21 #[.slice a l.length c, .int .i64 hi] w fun e w' => e = .returned (.bool true) ∧ Below w.heap.size w w' := by
 refine (plays_of w a l.length c hi (by omega) (fun W => ∃ ps q, Sd W w.heap.size w.heap.size ps (fun x => x = w.heap.size) 0 0 ([] ++ [q]) ∧ Below w.heap.size w W)
  (fun W => ∃ ps q1 q2, Sd W w.heap.size w.heap.size ps (fun x => x = w.heap.size) 0 0 ([] ++ [q1] ++ [q2]) ∧ Below w.heap.size w W)
  (fun W => StR w 2 1 3 W) (fun k W => StR w (2 * k + 10) (k + 10) (k + 4) W) (fun k W => k < l.length ∧ StR w (2 * (k + 1) + 10) (k + 1 + 10) (k + 5) W) ?_ ?_ ?_ ?_ ?_ ?_ ?_).mono ?_
 ·intro W0 hW0
  have hz := Sd.zero w w.heap.size (Nat.le_refl _)
  have hb0 : Below w.heap.size w (w.alloc (.cells #[.int .i64 0, .bool false, .slice none 0 0, .slice none 0 0, .slice none 0 0, .slice none 0 0, .slice none 0 0, .slice none 0 0, .slice none 0 0, .slice none 0 0, .slice none 0 0, .slice none 0 0, .slice none 0 0, .slice none 0 0, .slice none 0 0] 90)) := (Below.refl _ _).alloc (Nat.le_refl _) _
  rw [hW0] at hz hb0
  refine (step_new 0 1000 0 0 0 [] [] (.slice none 0 0) (.slice none 0 0) (.slice none 0 0) (by omega) (by omega) hz (by simp) hz.base_le).mono ?_
  rintro e W1 ⟨rfl, ps1, q1, h1, f1⟩
  exact ⟨rfl, ps1, q1, h1, hb0.trans (f1.toBelow hb0.size (fun x hx => hx))⟩
 ·rintro W ⟨ps1, q1, h1, hb1⟩
  refine (step_new 0 60 0 0 0 [] [] (.slice none 0 0) (.slice none 0 0) (.slice none 0 0) (by omega) (by omega) h1 (by simp) h1.base_le).mono ?_
  rintro e W2 ⟨rfl, ps2, q2, h2, f2⟩
  exact ⟨rfl, ps2, q1, q2, h2, hb1.trans (f2.toBelow hb1.size (fun x hx => hx))⟩
 ·rintro W ⟨ps2, q1, q2, h2, hb2⟩
  obtain ⟨aps, cps, eps⟩ := row_shape h2.row
  obtain ⟨-, cur2, hwa2, h82⟩ := h2.kp.wa
  rw [eps] at h82
  exact ⟨aps, cps, cur2, hwa2, (cell_of_block hwa2).symm.trans h82⟩
 ·rintro W ⟨ps2, q1, q2, h2, hb2⟩
  refine (hstep W _ _ _ _ _ _ _ ⟨2, 0, 0, 0, [102, 105, 114, 115, 116], [], [], none, 0, [], none, 0, 0, 0, .slice none 0 0⟩ h2 ⟨by simp, by simp, by simp, by simp, by simp, .inl rfl, fun _ => ⟨rfl, rfl⟩, by simp, by simp, .inl rfl, fun _ => ⟨rfl, rfl⟩, fun i h => by simp at h⟩ ⟨by simp, by simp, by simp, by simp, ⟨none, [], 0, rfl, .inl rfl, by simp, by simp, fun _ => ⟨rfl, rfl⟩⟩⟩ ⟨fun b s e => by simp at e, fun b s n c e => by simp at e⟩ (glob_stays w W hg hb2) (by simp) (by simp) (by omega) (by omega) (.inl (by simp only; omega))).mono ?_
  rintro e W3 ⟨rfl, h3⟩
  exact ⟨rfl, h3.toR hb2 (by simp) (by simp) (by omega) (by omega)⟩
 ·rintro W ⟨ps3, B3, L3, hl3, h3', hb3⟩
  refine (hstep W _ _ _ _ _ _ _ ⟨3, 0, 0, 0, [48, 48, 49], [], [], none, 0, [], none, 0, 0, 0, .slice none 0 0⟩ h3' ⟨by simp, by simp, by simp, by simp, by simp, .inl rfl, fun _ => ⟨rfl, rfl⟩, by simp, by simp, .inl rfl, fun _ => ⟨rfl, rfl⟩, fun i h => by simp at h⟩ ⟨by simp, by simp, by simp, by simp, ⟨none, [], 0, rfl, .inl rfl, by simp, by simp, fun _ => ⟨rfl, rfl⟩⟩⟩ ⟨fun b s e => by simp at e, fun b s n c e => by simp at e⟩ (glob_stays w W hg hb3) (by omega) (by omega) (by omega) (by omega) (.inl (by simp only; omega))).mono ?_
  rintro e W4 ⟨rfl, h4⟩
  exact ⟨rfl, h4.toR hb3 (by omega) (by omega) (by omega) (by omega)⟩
 ·intro k hk
  obtain ⟨b, s, rfl, hat⟩ : ∃ b s, a = some ⟨b, s, none⟩ ∧ ∀ i (h : i < l.length), OpAt w b (s + i * 11) l[i] := by
   rcases hlies with h0 | h0
   ·rw [h0] at hk; simp at hk
   ·exact h0
  have hop := hat k hk
  have ho := hoks k hk
  generalize l[k] = o at *
  refine ⟨b, s, o.kind, .int .i64 o.store, .int .i64 o.A, .int .i64 o.B, .string (bs o.S), .string (bs o.T), .slice o.aX o.texts.length o.cX, .slice o.aE o.tree.length o.cE, .int .i64 o.tr, .int .i64 o.ba, o.Li, rfl, ?_, ?_, ?_⟩
  rotate_left
  ·rintro - W ⟨ps, B, L, hL, hs, hb⟩
   exact ⟨ps, B, L, by omega, hs.mono (by omega) (by omega), hb⟩
  ·rintro hc W ⟨ps, B, L, hL, hs, hb⟩
   refine (hstep W _ _ _ _ _ _ _ o hs (ho.1.below hb) (ho.2.below hb) (OpP.low_of ho.1 ho.2) (glob_stays w W hg hb) (by omega) (by omega) (by omega) (by omega) (by omega)).mono ?_
   rintro e W5 ⟨rfl, h5⟩
   exact ⟨rfl, hk, h5.toR hb (by omega) (by omega) (by omega) (by omega)⟩
  ·rintro W ⟨ps, B, L, hL, hs, hb⟩ j v hv
   refine (hop.below hb) j v ?_
   rw [← hv]
   simp [OpP.cells, opC]
 ·rintro k W ⟨hk, ps, B, L, hL, hs, hb⟩
  refine (hs.kp.looks (by omega)).mono ?_
  rintro e W6 ⟨rfl, hb6⟩
  exact ⟨rfl, ps, B, L, by omega, hs.below hb6, hb.trans (hb6.mono hb.size)⟩
 ·rintro e w' ⟨rfl, ps, B, L, hL, hs, hb⟩
  exact ⟨rfl, hb⟩
theorem Grew.wide {a b : List (List UInt8 × List UInt8)} {l n : List (List UInt8)} (h : Grew a b l) (hl : ∀ x ∈ l, x ∈ n) : Grew a b n := h.trans (Grew.refl b []) n hl (by simp)
theorem send_grew (room batch : Int) (T : Nat) (L : List Int) : ∀ (f : Nat) (miss : List (List UInt8)) (st : List (List UInt8 × List UInt8)) (s : Nat × Nat × Nat), Grew st (sendP room batch T L f miss st s).2.1 miss
 | 0, miss, st, s => by simp only [sendP]; exact Grew.refl _ _
 | f + 1, miss, st, s => by
  simp only [sendP]
  by_cases h : miss = []
  ·rw [if_pos h]; exact Grew.refl _ _
  ·rw [if_neg h]
   have h1 := tryP_grew room L (miss.take (sizeP batch miss)) T st s
   by_cases hq : (tryP room L (miss.take (sizeP batch miss)) T st s).1 ≠ 0
   ·rw [if_pos hq]; exact h1.wide (fun x hx => List.mem_of_mem_take hx)
   ·rw [if_neg hq]; exact h1.trans (send_grew room batch T L f _ _ _) miss (fun x hx => List.mem_of_mem_take hx) (fun x hx => List.mem_of_mem_drop hx)
theorem send_len (room batch : Int) (T : Nat) (hT : T ≤ 9) (L : List Int) : ∀ (f : Nat) (miss : List (List UInt8)) (st : List (List UInt8 × List UInt8)) (s : Nat × Nat × Nat), (sendP room batch T L f miss st s).2.1.length ≤ st.length + 18 * miss.length
 | 0, miss, st, s => by simp only [sendP]; omega
 | f + 1, miss, st, s => by
  simp only [sendP]
  by_cases h : miss = []
  ·rw [if_pos h]; simp only; omega
  ·rw [if_neg h]
   have h1 := try_len room L (miss.take (sizeP batch miss)) T st s
   have h2 := Nat.mul_le_mul_right (2 * (miss.take (sizeP batch miss)).length) hT
   have h3 : (miss.take (sizeP batch miss)).length + (miss.drop (sizeP batch miss)).length = miss.length := by rw [← List.length_append, List.take_append_drop]
   by_cases hq : (tryP room L (miss.take (sizeP batch miss)) T st s).1 ≠ 0
   ·rw [if_pos hq]; omega
   ·rw [if_neg hq]
    have h4 := send_len room batch T hT L f (miss.drop (sizeP batch miss)) (tryP room L (miss.take (sizeP batch miss)) T st s).2.1 (tryP room L (miss.take (sizeP batch miss)) T st s).2.2
    omega
theorem send_sum {M : Nat} {room : Int} (hr : room ≤ (M : Int)) (batch : Int) (T : Nat) (L : List Int) : ∀ (f : Nat) (miss : List (List UInt8)) (st : List (List UInt8 × List UInt8)) (s : Nat × Nat × Nat), sumP st ≤ M → sumP (sendP room batch T L f miss st s).2.1 ≤ M
 | 0, miss, st, s, h => by simpa only [sendP] using h
 | f + 1, miss, st, s, h => by
  simp only [sendP]
  by_cases h' : miss = []
  ·rw [if_pos h']; exact h
  ·rw [if_neg h']
   have h1 := try_sum hr L (miss.take (sizeP batch miss)) T st s h
   by_cases hq : (tryP room L (miss.take (sizeP batch miss)) T st s).1 ≠ 0
   ·rw [if_pos hq]; exact h1
   ·rw [if_neg hq]; exact send_sum hr batch T L f _ _ _ h1
theorem bring_facts {M : Nat} {room : Int} (hr : room ≤ (M : Int)) (batch : Int) (T : Nat) (hT : T ≤ 9) (L : List Int) (blobs : List (List UInt8)) (st : List (List UInt8 × List UInt8)) (hb : blobs.length ≤ 41) (hs : sumP st ≤ M) :
  (bringP room batch T L blobs st).2.1.length ≤ st.length + 1000 ∧ sumP (bringP room batch T L blobs st).2.1 ≤ M ∧ Grew st (bringP room batch T L blobs st).2.1 blobs := by
 have h1 := try_len room L [] T st (0, 0, 0)
 have h2 := try_sum hr L [] T st (0, 0, 0) hs
 have h3 := tryP_grew room L [] T st (0, 0, 0)
 simp only [List.length_nil, Nat.mul_zero, Nat.add_zero] at h1
 simp only [bringP]
 by_cases hq : (tryP room L [] T st (0, 0, 0)).1 ≠ 0
 ·rw [if_pos hq]; exact ⟨by omega, h2, h3.wide (by simp)⟩
 ·rw [if_neg hq]
  have hl := List.length_filter_le (fun b => !(atP st (P.digest b)).isSome) blobs
  have hsub : ∀ x ∈ blobs.filter (fun b => !(atP st (P.digest b)).isSome), x ∈ blobs := fun x hx => (List.mem_filter.1 hx).1
  generalize blobs.filter (fun b => !(atP st (P.digest b)).isSome) = miss at *
  have h4 := send_len room batch T hT L miss.length miss (tryP room L [] T st (0, 0, 0)).2.1 (tryP room L [] T st (0, 0, 0)).2.2
  exact ⟨by omega, send_sum hr batch T L _ _ _ _ h2, h3.trans (send_grew room batch T L _ _ _ _) blobs (by simp) hsub⟩
theorem up_facts {M : Nat} {room : Int} (hr : room ≤ (M : Int)) (l : List En) (tries batch : Int) (L : List Int) (st : List (List UInt8 × List UInt8)) (hs : sumP st ≤ M) (hbig : ∀ d b, atP st d = some b → b.length ≤ 1100000) :
  (upP room l tries batch L st).2.2.2.length ≤ st.length + 1000 ∧ sumP (upP room l tries batch L st).2.2.2 ≤ M ∧ ∀ d b, atP (upP room l tries batch L st).2.2.2 d = some b → b.length ≤ 1100000 := by
 unfold upP
 by_cases hw : wrongP l ≠ 0
 ·rw [if_pos hw]; exact ⟨by simp only; omega, hs, hbig⟩
 ·rw [if_neg hw]
  cases hb : builtP l with
  | none => exact ⟨by simp only; omega, hs, hbig⟩
  | some blobs =>
   simp only
   by_cases hp : planOk tries batch L = false
   ·rw [if_pos hp]; exact ⟨by simp only; omega, hs, hbig⟩
   ·rw [if_neg hp]
    have ht : Tree l := tree_of_wrong (Decidable.not_not.1 hw)
    obtain ⟨-, -, h1, h2⟩ := built_facts ht hb
    have hT : tries.toNat ≤ 9 := by
     unfold planOk at hp
     simp only [Bool.and_eq_false_iff, decide_eq_false_iff_not, not_or, Decidable.not_not] at hp
     omega
    obtain ⟨f1, f2, f3⟩ := bring_facts hr batch tries.toNat hT L blobs st h1 hs
    refine ⟨f1, f2, fun d b hd => ?_⟩
    rcases f3.new d b hd with h | ⟨h, -⟩
    ·exact hbig d b h
    ·have := bytes_mem blobs b h; omega
theorem PR.Ok.up {w w' : World} {base K n' : Nat} {p : PR} (h : p.Ok w base K) (l : List En) (tries batch : Int) (L : List Int) {v1' v2' : Value} (hn : n' ≤ p.n + 100000) (hp : Pair w' p.pp p.sb p.pb p.um n' p.rb v1' v2' base p.room (upP p.room l tries batch L p.st).2.2.2) :
  PR.Ok w' base (K + 1) ⟨p.pp, p.sb, p.pb, p.um, n', p.rb, v1', v2', p.room, (upP p.room l tries batch L p.st).2.2.2⟩ := by
 have h3 := h.len
 have h4 := h.cnt
 have h5 := h.sum
 have h6 := h.r1
 obtain ⟨f1, f2, f3⟩ := up_facts (M := 1100000 * (K + 1)) (room := p.room) (by omega) l tries batch L p.st (by omega) h.big
 exact ⟨hp, h.r0, h.r1, by simp only; omega, by simp only; omega, f2, f3⟩
set_option maxRecDepth 100000 in
set_option maxHeartbeats 4000000 in
theorem uses_fetch {w : World} {wb base N K : Nat} {ps : Value} {B : Nat → Prop} {L : List PR} (h : Sd w wb base ps B N K L) (hL : 0 < L.length) (hL2 : L.length ≤ 1000000) (hK : K ≤ 500000) (store A B' tr ba : Int) (S T : List UInt8) (X E Li : Value) (hs0 : -9223372036854775808 ≤ store) (hs1 : store ≤ 9223372036854775807) (hN : N ≤ 4000000) (hbase : base ≤ w.heap.size) (hS : S.length ≤ 1100000) (hg : GlobOk w) :
  Calls Tryz.prog 78 #[.pointer (some ⟨wb, 0, none⟩), .agg (opC 7 store A B' S T X E Li tr ba)] w fun e w' => e = .returned (.bool true) ∧ ∃ B2, Sd w' wb base ps B2 (N + 2) K L ∧ Fr (fun x => base ≤ x) w w' := by
 obtain ⟨i, hi, hpi⟩ := pick_at store L.length hL
 have hpick := fun W => lawPick store L.length W hs0 hs1 (by omega) (by omega)
 rw [hpi] at hpick
 have hb0 : Below w.heap.size w (w.alloc (.cells (opC 7 store A B' S T X E Li tr ba) 93)) := (Below.refl _ _).alloc (Nat.le_refl _) _
 have hnew := heap_alloc_new w (.cells (opC 7 store A B' S T X E Li tr ba) 93)
 obtain ⟨W0, hW0⟩ : ∃ W0, w.alloc (.cells (opC 7 store A B' S T X E Li tr ba) 93) = W0 := ⟨_, rfl⟩
 rw [hW0] at hb0 hnew
 have h0 := h.below hb0
 obtain ⟨g, cg, eps, hcell⟩ := h0.at i hi
 subst eps
 obtain ⟨-, cur, hwb, h8⟩ := h0.kp.wa
 have hwl := (Array.getElem?_eq_some_iff.1 hwb).1
 have hnl := (Array.getElem?_eq_some_iff.1 hnew).1
 have hgl := block_lt hcell
 have x0 := cell_of_block (j := 0) hnew
 have x1 := cell_of_block (j := 1) hnew
 have x2 := cell_of_block (j := 2) hnew
 have x3 := cell_of_block (j := 3) hnew
 have x4 := cell_of_block (j := 4) hnew
 unfold opC at x0 x1 x2 x3 x4 hW0 ⊢
 simp at x0 x1 x2 x3 x4
 have hok := h0.ok i hi
 have y0 := cell_of_block (j := 0) hok.pair.p
 have y1 := cell_of_block (j := 1) hok.pair.p
 simp at y0 y1
 have hpl := (Array.getElem?_eq_some_iff.1 hok.pair.p).1
 unfold PR.ptr at hcell
 have qi : (i : Int) < (L.length : Int) := by omega
 have HW0 := hide hW0
 have Hall := hide (And.intro h0 (And.intro hok hb0))
 have hold : ∀ x, B x → x < w.heap.size := fun x hx => h.kp.setLt x hx
 have hold2 : ∀ j (hj : j < L.length) x, (L[j]).set x → x < w.heap.size := fun j hj x hx => (h.ok j hj).lt x hx
 have hold3 : ∀ x, (Value.slice (some ⟨g, 0, none⟩) L.length cg).ownBlock = some x → x < w.heap.size := fun x hx => own_lt h.row hx
 generalize L[i] = p at *
 clear h h0 hok hb0 hW0 hnew hwb
 go_enter Tryz.func78, Tryz.ntmps78
 go_wp2_with fail
 rw [unhide HW0]
 go_quiet ((go_at_call 116; exact Calls.quiet_of_same (hpick _)))
 obtain ⟨W1, hW1⟩ : ∃ W1, W0.drewN nq = W1 := ⟨_, rfl⟩
 rw [hW1]
 have hb1 : Below W0.heap.size W0 W1 := by rw [← hW1]; exact below_drewN (Below.refl _ _) _
 have hsz1 : W1.heap.size = W0.heap.size := by rw [← hW1]; simp
 have x0' : W1.cell? ⟨w.heap.size, 0, none⟩ = some (.int .i64 7) := (hb1.cell (p := ⟨w.heap.size, 0, none⟩) hnl).trans x0
 have x2' : W1.cell? ⟨w.heap.size, 2, none⟩ = some (.int .i64 A) := (hb1.cell (p := ⟨w.heap.size, 2, none⟩) hnl).trans x2
 have x3' : W1.cell? ⟨w.heap.size, 3, none⟩ = some (.int .i64 B') := (hb1.cell (p := ⟨w.heap.size, 3, none⟩) hnl).trans x3
 have x4' : W1.cell? ⟨w.heap.size, 4, none⟩ = some (.string (bs S)) := (hb1.cell (p := ⟨w.heap.size, 4, none⟩) hnl).trans x4
 have hnl1 : w.heap.size < W1.heap.size := by omega
 have hpl1 : p.pp < W1.heap.size := by omega
 have hb01 : Below w.heap.size w W1 := (unhide Hall).2.2.trans (hb1.mono (unhide Hall).2.2.size)
 have hln := fetch_len (atP p.st) S A B'
 have H1 := hide (fetched_any S A B' p.pp p.sb p.pb p.um p.n p.rb p.v1 p.v2 base p.room p.st W1 ((unhide Hall).2.1.pair.below hb1 (Nat.le_refl _)) (hg.below hb01 (Nat.le_refl _)) (by unfold maxLen; omega) (by have := (unhide Hall).2.1.len; unfold maxLen; omega) (unhide Hall).2.1.big)
 have hs0' := (unhide Hall).2.2.size
 clear hW1 x0 x1 x2 x3 x4 y0 y1 hcell h8 hg
 generalize (fetchP (atP p.st) S A B').2 = lv at *
 go_wp2_with fail
 refine (unhide H1).mono ?_
 rintro e W2 ⟨v, rfl, ho2, hb2⟩
 have hS2 := ((unhide Hall).1.below hb1).below hb2
 have hvx : ∀ x, v.ownBlock = some x → w.heap.size ≤ x := fun x hx => by have := (World.ownsRow.lt ho2 x hx).1; omega
 have H2 := hide (hS2.kp.takeE (own_weak ho2 (by omega)) (fun x hx hB => by have h1 := hvx x hx; have h2 := hold x hB; omega) (by omega) hN (by have := hb2.size; omega))
 have HS2 := hide (And.intro hS2 hvx)
 clear hS2 ho2 hvx
 go_wp2_with fail
 refine (unhide H2).mono ?_
 rintro e W3 ⟨rfl, hk3, hf3⟩
 have hbw2 := ((unhide Hall).2.2.trans (hb1.mono (unhide Hall).2.2.size))
 have Hend := hide (And.intro ((unhide HS2).1.took hk3 hf3 (fun x hx e => by have h1 := (unhide HS2).2 x hx; have h2 := hold3 x e; omega) (fun j hj x hx e => by have h1 := (unhide HS2).2 x e; have h2 := hold2 j hj x hx; omega) (fun x hx => by have h1 := (unhide HS2).2 x hx; omega)) ((Fr.below (hbw2.trans (hb2.mono hbw2.size))).trans (hf3.mono (T := fun x => base ≤ x) (fun x hx => hx.elim ((unhide HS2).1.low.1 x) (fun e => by have h1 := (unhide HS2).2 x e; omega)))))
 clear hk3 hf3
 go_wp2_with fail
 go_ret
 exact ⟨rfl, _, unhide Hend⟩
set_option maxRecDepth 100000 in
set_option maxHeartbeats 4000000 in
theorem uses_upload {w : World} {wb base N K : Nat} {ps : Value} {B : Nat → Prop} {L : List PR} (h : Sd w wb base ps B N K L) (hL : 0 < L.length) (hL2 : L.length ≤ 1000000) (hK : K ≤ 500000) (store A B' tr ba : Int) (S T : List UInt8) (X : Value) (hs0 : -9223372036854775808 ≤ store) (hs1 : store ≤ 9223372036854775807) (hbase : base ≤ w.heap.size) (hg : GlobOk w)
  (tree : List En) (aE : Option Addr) (cE : Nat) (hl : tree.length ≤ 1100000) (het : LiesE w aE tree) (hen : aE = none → tree = [] ∧ cE = 0) (hef : TFit tree) (link : List Int) (aL : Option Addr) (cL : Nat) (hil : IntsAt w aL link) (hlen : aL = none → link = [] ∧ cL = 0) (hll : link.length ≤ 1100000)
  (hlow1 : ∀ b s, aE = some ⟨b, s, none⟩ → tree ≠ [] → b < base) (hlow2 : ∀ b s, aL = some ⟨b, s, none⟩ → link ≠ [] → b < base) :
  Calls Tryz.prog 78 #[.pointer (some ⟨wb, 0, none⟩), .agg (opC 6 store A B' S T X (.slice aE tree.length cE) (.slice aL link.length cL) tr ba)] w fun e w' => e = .returned (.bool true) ∧ ∃ L', L'.length = L.length ∧ Sd w' wb base ps B N (K + 1) L' ∧ Fr (fun x => base ≤ x) w w' := by
 obtain ⟨i, hi, hpi⟩ := pick_at store L.length hL
 have hpick := fun W => lawPick store L.length W hs0 hs1 (by omega) (by omega)
 rw [hpi] at hpick
 have hb0 : Below w.heap.size w (w.alloc (.cells (opC 6 store A B' S T X (.slice aE tree.length cE) (.slice aL link.length cL) tr ba) 93)) := (Below.refl _ _).alloc (Nat.le_refl _) _
 have hnew := heap_alloc_new w (.cells (opC 6 store A B' S T X (.slice aE tree.length cE) (.slice aL link.length cL) tr ba) 93)
 obtain ⟨W0, hW0⟩ : ∃ W0, w.alloc (.cells (opC 6 store A B' S T X (.slice aE tree.length cE) (.slice aL link.length cL) tr ba) 93) = W0 := ⟨_, rfl⟩
 rw [hW0] at hb0 hnew
 have h0 := h.below hb0
 obtain ⟨g, cg, eps, hcell⟩ := h0.at i hi
 subst eps
 obtain ⟨-, cur, hwb, h8⟩ := h0.kp.wa
 have hwl := (Array.getElem?_eq_some_iff.1 hwb).1
 have hnl := (Array.getElem?_eq_some_iff.1 hnew).1
 have hgl := block_lt hcell
 have x0 := cell_of_block (j := 0) hnew
 have x1 := cell_of_block (j := 1) hnew
 have x7 := cell_of_block (j := 7) hnew
 have x8 := cell_of_block (j := 8) hnew
 have x9 := cell_of_block (j := 9) hnew
 have x10 := cell_of_block (j := 10) hnew
 unfold opC at x0 x1 x7 x8 x9 x10 hW0 ⊢
 simp at x0 x1 x7 x8 x9 x10
 have hok := h0.ok i hi
 have y0 := cell_of_block (j := 0) hok.pair.p
 have y1 := cell_of_block (j := 1) hok.pair.p
 simp at y0 y1
 have hpl := (Array.getElem?_eq_some_iff.1 hok.pair.p).1
 unfold PR.ptr at hcell
 have qi : (i : Int) < (L.length : Int) := by omega
 have HW0 := hide hW0
 have Hput := hide (fun W (q : PR) (f : Fr (L[i]).set W0 W) (hq : q.Ok W base (K + 1)) (hp : q.ptr = (L[i]).ptr) (hs : ∀ x, q.set x → (L[i]).set x ∨ W0.heap.size ≤ x) => And.intro (h0.put i hi q hq (Nat.le_succ K) hp f hs) ((Fr.below hb0).trans (f.mono (T := fun x => base ≤ x) (fun x hx => h0.low.2 i hi x hx))))
 have hlowp : ∀ x, (L[i]).set x → base ≤ x := fun x hx => h0.low.2 i hi x hx
 have Hall := hide (And.intro h0 (And.intro hok hb0))
 generalize L[i] = p at *
 have Hlist := hide (And.intro het (And.intro hil hef))
 clear h h0 hok hb0 hW0 hnew hwb het hil hef
 go_enter Tryz.func78, Tryz.ntmps78
 go_wp2_with fail
 rw [unhide HW0]
 go_quiet ((go_at_call 116; exact Calls.quiet_of_same (hpick _)))
 obtain ⟨W1, hW1⟩ : ∃ W1, W0.drewN nq = W1 := ⟨_, rfl⟩
 rw [hW1]
 have hb1 : Below W0.heap.size W0 W1 := by rw [← hW1]; exact below_drewN (Below.refl _ _) _
 have hsz1 : W1.heap.size = W0.heap.size := by rw [← hW1]; simp
 have x0' : W1.cell? ⟨w.heap.size, 0, none⟩ = some (.int .i64 6) := (hb1.cell (p := ⟨w.heap.size, 0, none⟩) hnl).trans x0
 have x7' : W1.cell? ⟨w.heap.size, 7, none⟩ = some (.slice aE tree.length cE) := (hb1.cell (p := ⟨w.heap.size, 7, none⟩) hnl).trans x7
 have x8' : W1.cell? ⟨w.heap.size, 8, none⟩ = some (.int .i64 tr) := (hb1.cell (p := ⟨w.heap.size, 8, none⟩) hnl).trans x8
 have x9' : W1.cell? ⟨w.heap.size, 9, none⟩ = some (.int .i64 ba) := (hb1.cell (p := ⟨w.heap.size, 9, none⟩) hnl).trans x9
 have x10' : W1.cell? ⟨w.heap.size, 10, none⟩ = some (.slice aL link.length cL) := (hb1.cell (p := ⟨w.heap.size, 10, none⟩) hnl).trans x10
 have hnl1 : w.heap.size < W1.heap.size := by omega
 have hpl1 : p.pp < W1.heap.size := by omega
 have hb01 : Below w.heap.size w W1 := (unhide Hall).2.2.trans (hb1.mono (unhide Hall).2.2.size)
 have hok := (unhide Hall).2.1
 have k1 := hok.len
 have k2 := hok.cnt
 have k3 := hok.sum
 have k4 := hok.r1
 have H1 := hide (uploaded_any tree aE cE tr ba link aL cL p.pp p.sb p.pb p.um p.n p.rb p.v1 p.v2 base p.room p.st W1 (1100000 * (K + 1)) (hok.pair.below hb1 (Nat.le_refl _)) (by have := hb01.size; omega) (hg.below hb01 (Nat.le_refl _)) hl ((unhide Hlist).1.below hb01 (Nat.le_refl _)) hen (unhide Hlist).2.2 ((unhide Hlist).2.1.below hb01 (Nat.le_refl _)) hlen hll (fun b s e hne hx => by have h1 := hlow1 b s e hne; have h2 := hlowp b hx; omega) (fun b s e hne hx => by have h1 := hlow2 b s e hne; have h2 := hlowp b hx; omega) (by omega) (by omega) (by omega) (by omega) hok.r0 k4 (by omega))
 unfold planV at H1
 clear hW1 x0 x1 x7 x8 x9 x10 y0 y1 hcell h8 hg hok k1 k2 k3 k4
 go_wp2_with fail
 refine (unhide H1).mono ?_
 rintro e W2 ⟨rfl, n', v1', v2', hn', hp2, hf2, hs2⟩
 have Hend := hide (unhide Hput W2 ⟨p.pp, p.sb, p.pb, p.um, n', p.rb, v1', v2', p.room, (upP p.room tree tr ba link p.st).2.2.2⟩ (fr_comp (Fr.below hb1) hf2 (fun x hx => .inl hx)) ((unhide Hall).2.1.up tree tr ba link hn' hp2) rfl (fun x hx => (hs2 x hx).imp id (fun h => by omega)))
 clear hp2 hf2 hs2
 go_wp2_with fail
 go_ret
 exact ⟨rfl, _, by simp, unhide Hend⟩
theorem step_seven : StepOk 7 := by
 intro w wb base N K ps B L o h ho hm hlow hg hL hL2 hN hK hk
 by_cases h67 : o.kind = 6 ∨ o.kind = 7
 ·obtain ⟨kind, store, A, B', S, T, texts, aX, cX, tree, aE, cE, tr, ba, Li⟩ := o
  unfold OpP.cells
  simp only at h67 hk ⊢
  obtain ⟨aL, link, cL, eL, hi, hr, hll, hln⟩ := hm.li
  simp only at eL
  refine step_uses (Q := Next w wb base (N + 2) (K + 1) L.length) kind store A B' tr ba S T _ _ Li (by omega) (by omega) (fun W hW => ?_)
  have hs := h.below hW
  have how := ho.below hW
  have hgW := hg.below hW (Nat.le_refl _)
  have hbW : base ≤ W.heap.size := hs.base_le
  rcases h67 with h6 | h7
  ·subst h6
   subst eL
   refine (uses_upload hs hL (by omega) hK store A B' tr ba S T _ how.s0 how.s1 hbW hgW tree aE cE how.el how.et how.en how.ef link aL cL (hi.below hW (Nat.le_refl _)) hln (by omega) hlow.1 (fun b s e hne => hlow.2 b s link.length cL (by simp only; rw [e]) (by intro h0; exact hne (List.eq_nil_of_length_eq_zero h0)))).mono ?_
   rintro e w' ⟨rfl, L', hl, h1, h2⟩
   exact ⟨rfl, ps, B, L', by omega, h1.mono (by omega) (by omega), (Fr.below hW).trans h2⟩
  ·subst h7
   refine (uses_fetch hs hL (by omega) hK store A B' tr ba S T _ _ Li how.s0 how.s1 hN hbW how.hS hgW).mono ?_
   rintro e w' ⟨rfl, B2, h1, h2⟩
   exact ⟨rfl, ps, B2, L, ⟨Nat.le_refl _, Nat.le_succ _⟩, h1.mono (by omega) (by omega), (Fr.below hW).trans h2⟩
 ·exact step_any o h ho hg hL hL2 hN hK (by omega)
set_option maxRecDepth 100000 in
theorem all_law (l : List OpP) (a : Option Addr) (c : Nat) (w : World) (hg : GlobOk w) (hll : l.length ≤ 120000) (hlies : LiesO w a l) (hoks : ∀ i (h : i < l.length), (l[i]).Ok w ∧ (l[i]).More w) :
  Calls Tryz.prog 6 #[.slice a l.length c] w fun e w' => e = .returned (.bool true) ∧ Below w.heap.size w w' := by
 have H := hide (plays_sd 7 (by omega) step_seven l a c w hg hll hlies hoks)
 clear hlies hoks
 go_enter Tryz.func6, Tryz.ntmps6
 go_wp2_with fail
 refine (unhide H).mono ?_
 rintro e w' ⟨rfl, hb⟩
 have Hb := hide hb
 clear hb
 go_wp2_with fail
 go_ret
 exact ⟨rfl, unhide Hb⟩
end Go.Proofs.YtjmacegibchplaaGreatDoor