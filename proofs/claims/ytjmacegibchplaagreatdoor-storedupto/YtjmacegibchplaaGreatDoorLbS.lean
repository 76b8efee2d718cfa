import Derived.Test.YtjmacegibchplaaGreatDoorOfB
import Derived.Test.YtjmacegibchplaaGreatDoorLbP
import Derived.Test.YtjmacegibchplaaGreatDoorEntO
/-
  A script that comes in and is of bounded bulk, opened.
-/
namespace Go.Proofs.YtjmacegibchplaaGreatDoor
open Go.RowKit
set_option linter.unusedVariables false
theorem cells_op : Tryz.prog.cellsOf 93 = 11 := by kernel_rfl
theorem cells_plan : Tryz.prog.cellsOf 57 = 3 := by kernel_rfl
theorem cells_texts : Tryz.prog.cellsOf 23 = 1 := by kernel_rfl
theorem cells_ents : Tryz.prog.cellsOf 22 = 1 := by kernel_rfl
theorem cells_ints : Tryz.prog.cellsOf 55 = 1 := by kernel_rfl
structure OpP.More (w : World) (o : OpP) : Prop where
  t0 : -9223372036854775808 ≤ o.tr
  t1 : o.tr ≤ 9223372036854775807
  b0 : -9223372036854775808 ≤ o.ba
  b1 : o.ba ≤ 9223372036854775807
  li : ∃ (a : Option Addr) (l : List Int) (c : Nat), o.Li = .slice a l.length c ∧ IntsAt w a l ∧ (∀ r ∈ l, -9223372036854775808 ≤ r ∧ r ≤ 9223372036854775807) ∧ l.length ≤ 1048576 ∧ (a = none → l = [] ∧ c = 0)
theorem lit_i64 {n : Int} (h : Lit.wf (.int .i64 n)) : -9223372036854775808 ≤ n ∧ n ≤ 9223372036854775807 := by
  have h1 := h
  simp [Lit.wf] at h1
  have hmin : IntKind.i64.min = -9223372036854775808 := by decide
  have hmax : IntKind.i64.max = 9223372036854775807 := by decide
  omega
theorem bulk_some {H : Type} {k : Nat} : ∀ l : List (DataW H), (∀ d ∈ l, k ≤ Rows.uptoBulk d) → k * l.length ≤ Rows.uptoBulkAll l
  | [], _ => Nat.zero_le _
  | d :: l, h => by
    have h1 := h d (by simp)
    have h2 := bulk_some l (fun x hx => h x (by simp [hx]))
    rw [Rows.uptoBulkAll, List.length_cons, Nat.mul_add]
    omega
set_option maxRecDepth 100000 in
theorem open_planB {H : Type} {enc : TypeId × Value → H} {W : World} {base : Nat} {sp : Nat → Bool} {held : Bool} {fuel : Nat} {cs : List Value} {x : DataW H × List MemPlace}
    (h : DataW.trod enc Tryz.prog W base sp held fuel 57 cs = some x) (hk : Rows.uptoBulk x.1 ≤ 1048576) : ∃ (tr ba : Int) (a : Option Addr) (l : List Int) (c : Nat), cs = [.int .i64 tr, .int .i64 ba, .slice a l.length c] ∧ (-9223372036854775808 ≤ tr ∧ tr ≤ 9223372036854775807) ∧ (-9223372036854775808 ≤ ba ∧ ba ≤ 9223372036854775807) ∧ IntsAt W a l ∧ (∀ r ∈ l, -9223372036854775808 ≤ r ∧ r ≤ 9223372036854775807) ∧ l.length ≤ 1048576 ∧ (a = none → l = [] ∧ c = 0) := by
  obtain ⟨xs, n, _, rfl, hl, hlen, hf⟩ := DataW.trod_struct Tryz.underlying57 h
  rw [cells_plan] at hl
  match cs, hl with
  | [v0, v1, v2], _ =>
    have h0 : DataW.trod enc Tryz.prog W base sp held n 3 (([v0, v1, v2].drop 0).take (Tryz.prog.cellsOf 3)) = xs[0]? := hf 0 _ rfl
    have h1 : DataW.trod enc Tryz.prog W base sp held n 3 (([v0, v1, v2].drop 1).take (Tryz.prog.cellsOf 3)) = xs[1]? := hf 1 _ rfl
    have h2 : DataW.trod enc Tryz.prog W base sp held n 55 (([v0, v1, v2].drop 2).take (Tryz.prog.cellsOf 55)) = xs[2]? := hf 2 _ rfl
    rw [cells_int] at h0 h1
    rw [cells_ints] at h2
    match xs, hlen with
    | [y0, y1, y2], _ =>
      obtain ⟨s0, e0, r0, z0⟩ := DataW.trod_int Tryz.underlying3 h0
      obtain ⟨s1, e1, r1, z1⟩ := DataW.trod_int Tryz.underlying3 h1
      simp at e0 e1
      subst e0 e1
      obtain ⟨a2, n2, c2, e2⟩ : ∃ a len cap, v2 = .slice a len cap := by
        rcases Deep.open_slice Tryz.underlying55 h2 with ⟨hcs, _⟩ | ⟨ad, len', cap', m, n, D, Pl, hcs, _⟩
        · simp at hcs; exact ⟨_, _, _, hcs⟩
        · simp at hcs; exact ⟨_, _, _, hcs⟩
      subst e2
      simp only [List.map_cons, List.map_nil, Rows.uptoBulk, Rows.uptoBulkAll] at hk
      obtain ⟨l, hl2, hs2, hb2, hn2, ho2⟩ := open_intsB h2 (by show Rows.uptoBulk y2.1 ≤ 1048576; omega)
      subst hl2
      exact ⟨s0, s1, a2, l, c2, rfl, lit_i64 z0, lit_i64 z1, hs2, hb2, hn2, ho2⟩
set_option maxRecDepth 100000 in
theorem open_opB {H : Type} {enc : TypeId × Value → H} {W : World} {base : Nat} {sp : Nat → Bool} {held : Bool} {fuel : Nat} {cs : List Value} {x : DataW H × List MemPlace}
    (h : DataW.trod enc Tryz.prog W base sp held fuel 93 cs = some x) (hk : Rows.uptoBulk x.1 ≤ 1048576) : 9 ≤ Rows.uptoBulk x.1 ∧ ∃ o : OpP, cs = o.cells.toList ∧ o.Ok W ∧ o.More W := by
  obtain ⟨xs, n, _, rfl, hl, hlen, hf⟩ := DataW.trod_struct Tryz.underlying93 h
  rw [cells_op] at hl
  match cs, hl with
  | [v0, v1, v2, v3, v4, v5, v6, v7, v8, v9, v10], _ =>
    have h0 : DataW.trod enc Tryz.prog W base sp held n 3 (([v0, v1, v2, v3, v4, v5, v6, v7, v8, v9, v10].drop 0).take (Tryz.prog.cellsOf 3)) = xs[0]? := hf 0 _ rfl
    have h1 : DataW.trod enc Tryz.prog W base sp held n 3 (([v0, v1, v2, v3, v4, v5, v6, v7, v8, v9, v10].drop 1).take (Tryz.prog.cellsOf 3)) = xs[1]? := hf 1 _ rfl
    have h2 : DataW.trod enc Tryz.prog W base sp held n 3 (([v0, v1, v2, v3, v4, v5, v6, v7, v8, v9, v10].drop 2).take (Tryz.prog.cellsOf 3)) = xs[2]? := hf 2 _ rfl
    have h3 : DataW.trod enc Tryz.prog W base sp held n 3 (([v0, v1, v2, v3, v4, v5, v6, v7, v8, v9, v10].drop 3).take (Tryz.prog.cellsOf 3)) = xs[3]? := hf 3 _ rfl
    have h4 : DataW.trod enc Tryz.prog W base sp held n 9 (([v0, v1, v2, v3, v4, v5, v6, v7, v8, v9, v10].drop 4).take (Tryz.prog.cellsOf 9)) = xs[4]? := hf 4 _ rfl
    have h5 : DataW.trod enc Tryz.prog W base sp held n 9 (([v0, v1, v2, v3, v4, v5, v6, v7, v8, v9, v10].drop 5).take (Tryz.prog.cellsOf 9)) = xs[5]? := hf 5 _ rfl
    have h6 : DataW.trod enc Tryz.prog W base sp held n 23 (([v0, v1, v2, v3, v4, v5, v6, v7, v8, v9, v10].drop 6).take (Tryz.prog.cellsOf 23)) = xs[6]? := hf 6 _ rfl
    have h7 : DataW.trod enc Tryz.prog W base sp held n 22 (([v0, v1, v2, v3, v4, v5, v6, v7, v8, v9, v10].drop 7).take (Tryz.prog.cellsOf 22)) = xs[7]? := hf 7 _ rfl
    have h8 : DataW.trod enc Tryz.prog W base sp held n 57 (([v0, v1, v2, v3, v4, v5, v6, v7, v8, v9, v10].drop 8).take (Tryz.prog.cellsOf 57)) = xs[8]? := hf 8 _ rfl
    rw [cells_int] at h0 h1 h2 h3
    rw [cells_str] at h4 h5
    rw [cells_texts] at h6
    rw [cells_ents] at h7
    rw [cells_plan] at h8
    match xs, hlen with
    | [y0, y1, y2, y3, y4, y5, y6, y7, y8], _ =>
      obtain ⟨s0, e0, r0, z0⟩ := DataW.trod_int Tryz.underlying3 h0
      obtain ⟨s1, e1, r1, z1⟩ := DataW.trod_int Tryz.underlying3 h1
      obtain ⟨s2, e2, r2, z2⟩ := DataW.trod_int Tryz.underlying3 h2
      obtain ⟨s3, e3, r3, z3⟩ := DataW.trod_int Tryz.underlying3 h3
      obtain ⟨s4, e4, r4, z4⟩ := DataW.trod_string Tryz.underlying9 h4
      obtain ⟨s5, e5, r5, z5⟩ := DataW.trod_string Tryz.underlying9 h5
      simp at e0 e1 e2 e3 e4 e5
      subst e0 e1 e2 e3 e4 e5
      obtain ⟨a6, n6, c6, e6⟩ : ∃ a len cap, v6 = .slice a len cap := by
        rcases Deep.open_slice Tryz.underlying23 h6 with ⟨hcs, _⟩ | ⟨ad, len', cap', m, n, D, Pl, hcs, _⟩
        · simp at hcs; exact ⟨_, _, _, hcs⟩
        · simp at hcs; exact ⟨_, _, _, hcs⟩
      obtain ⟨a7, n7, c7, e7⟩ : ∃ a len cap, v7 = .slice a len cap := by
        rcases Deep.open_slice Tryz.underlying22 h7 with ⟨hcs, _⟩ | ⟨ad, len', cap', m, n, D, Pl, hcs, _⟩
        · simp at hcs; exact ⟨_, _, _, hcs⟩
        · simp at hcs; exact ⟨_, _, _, hcs⟩
      subst e6 e7
      have q0 := bulk_pos y0.1
      have q1 := bulk_pos y1.1
      have q2 := bulk_pos y2.1
      have q3 := bulk_pos y3.1
      have q4 := bulk_pos y4.1
      have q5 := bulk_pos y5.1
      have q6 := bulk_pos y6.1
      have q7 := bulk_pos y7.1
      have q8 := bulk_pos y8.1
      have f4 : Rows.uptoBulk y4.1 = s4.data.toList.length + 1 := by rw [r4]; simp only [Rows.uptoBulk]
      have f5 : Rows.uptoBulk y5.1 = s5.data.toList.length + 1 := by rw [r5]; simp only [Rows.uptoBulk]
      simp only [List.map_cons, List.map_nil, Rows.uptoBulk, Rows.uptoBulkAll] at hk ⊢
      obtain ⟨l6, hl6, hs6, hb6, hn6, ho6⟩ := open_textsB h6 (by show Rows.uptoBulk y6.1 ≤ 1048576; omega)
      obtain ⟨l7, hl7, hs7, hb7, hn7, ho7⟩ := open_entriesB h7 (by show Rows.uptoBulk y7.1 ≤ 1048576; omega)
      obtain ⟨tr, ba, a8, l8, c8, e8, ht8, hb8, hs8, hr8, hn8, ho8⟩ := open_planB (x := y8) h8 (by omega)
      subst hl6 hl7
      simp at e8
      obtain ⟨e8, e9, e10⟩ := e8
      subst e8 e9 e10
      have i1 := lit_i64 z1
      refine ⟨by omega, ⟨s0, s1, s2, s3, s4.data.toList, s5.data.toList, l6, a6, c6, l7, a7, c7, tr, ba, .slice a8 l8.length c8⟩, ?_, ⟨i1.1, i1.2, ?_, ?_, ?_, hs6, ho6, fun x hx => ?_, ?_, hs7, ho7, hb7⟩, ⟨ht8.1, ht8.2, hb8.1, hb8.2, ⟨a8, l8, c8, rfl, hs8, hr8, hn8, ho8⟩⟩⟩
      · unfold OpP.cells opC
        rw [bs_of, bs_of]
      · show s4.data.toList.length ≤ _; omega
      · show s5.data.toList.length ≤ _; omega
      · show l6.length ≤ _; omega
      · have := hb6 x hx; omega
      · show l7.length ≤ _; omega
set_option maxRecDepth 100000 in
theorem open_opsB {H : Type} {enc : TypeId × Value → H} {W : World} {base : Nat} {sp : Nat → Bool} {held : Bool} {fuel : Nat} {a : Option Addr} {len cap : Nat} {x : DataW H × List MemPlace}
    (h : DataW.trod enc Tryz.prog W base sp held fuel 39 [.slice a len cap] = some x) (hk : Rows.uptoBulk x.1 ≤ 1048576) :
    ∃ l : List OpP, l.length = len ∧ LiesO W a l ∧ (∀ i (h : i < l.length), (l[i]).Ok W ∧ (l[i]).More W) ∧ len ≤ 120000 ∧ (a = none → l = [] ∧ cap = 0) := by
  rcases Deep.open_slice Tryz.underlying39 h with ⟨hcs, rfl⟩ | ⟨ad, len', cap', m, n, D, Pl, hcs, _, hl, hm, hmm, rfl, hel⟩
  · simp at hcs
    obtain ⟨rfl, rfl, rfl⟩ := hcs
    exact ⟨[], rfl, .inl rfl, fun i hi => absurd hi (by simp), by decide, fun _ => ⟨rfl, rfl⟩⟩
  · simp at hcs
    obtain ⟨rfl, rfl, rfl⟩ := hcs
    have hlm : len ≤ m := by rw [hmm]; split <;> omega
    simp only [Rows.uptoBulk] at hk
    have hpart : ∀ i, i < len → Rows.uptoBulk (D i) ≤ 1048576 := fun i hi => by
      have hp := bulk_part (d := D i) (l := (List.range len).map D) (List.mem_map.2 ⟨i, by simpa using hi, rfl⟩)
      omega
    have hex : ∀ i, i < len → ∃ o : OpP, (o.Ok W ∧ o.More W) ∧ ∀ j v, o.cells[j]? = some v → W.cell? ((ad.add (i * 11)).add j) = some v := by
      intro i hi
      obtain ⟨cs', hc, ht⟩ := hel i (by omega)
      obtain ⟨_, o, rfl, ho⟩ := open_opB ht (hpart i hi)
      rw [cells_op] at hc
      obtain ⟨_, hlen, hcc⟩ := World.cells?_some hc
      refine ⟨o, ho, fun j v hv => ?_⟩
      have hj : j < 11 := (Array.getElem?_eq_some_iff.1 hv).1
      rw [← hv, ← Array.getElem?_toList]
      exact hcc j hj
    have hln := bulk_some (k := 9) ((List.range len).map D) (fun d hd => by
      obtain ⟨i, hi, rfl⟩ := List.mem_map.1 hd
      have hi' : i < len := by simpa using hi
      obtain ⟨cs', hc, ht⟩ := hel i (by omega)
      exact (open_opB ht (hpart i hi')).1)
    rw [List.length_map, List.length_range] at hln
    obtain ⟨l, hll, hp⟩ := list_choose hex
    refine ⟨l, hll, ?_, fun i hi => (hp i hi).1, by omega, fun h => by simp at h⟩
    rcases Nat.eq_zero_or_pos len with h0 | hpos
    · left; exact List.eq_nil_of_length_eq_zero (by omega)
    · right
      obtain ⟨b, o, spot⟩ := ad
      have hc := (hp 0 (by omega)).2 0 _ rfl
      have hspot : spot = none := by simpa [Addr.add] using World.cell?_spot hc
      subst hspot
      refine ⟨b, o, rfl, ?_⟩
      intro i hi j v hv
      have := (hp i hi).2 j v hv
      rw [add_off, add_off] at this
      exact this
end Go.Proofs.YtjmacegibchplaaGreatDoor

/-
  A script is played (cellarlaw.plays) over the state of a script.
-/
namespace Go.Proofs.YtjmacegibchplaaGreatDoor
open Go.RowKit Go.Maps Go.WideMaps
set_option linter.unusedVariables false
theorem OpP.More.below {w w' : World} {o : OpP} (h : o.More w) (hb : Below w.heap.size w w') : o.More w' := by
  obtain ⟨a, l, c, e, hi, hr, hl, hn⟩ := h.li
  exact ⟨h.t0, h.t1, h.b0, h.b1, ⟨a, l, c, e, hi.below hb (Nat.le_refl _), hr, hl, hn⟩⟩
def StepOk (hi : Int) : Prop := ∀ (w : World) (wb base N K : Nat) (ps : Value) (B : Nat → Prop) (L : List PR) (o : OpP), Sd w wb base ps B N K L → o.Ok w → o.More w → GlobOk w → 0 < L.length → L.length ≤ 900000 → N ≤ 4000000 → K ≤ 500000 → (o.kind ≤ hi ∨ 7 < o.kind) →
    Calls Tryz.prog 49 #[.pointer (some ⟨wb, 0, none⟩), .agg o.cells] w fun e w' => e = .returned (.bool true) ∧ Next w wb base (N + 2) (K + 1) L.length w'
def StR (w : World) (N K m : Nat) (W : World) : Prop := ∃ ps B L, (2 ≤ List.length L ∧ List.length L ≤ m) ∧ Sd W w.heap.size w.heap.size ps B N K L ∧ Below w.heap.size w W
theorem Next.toR {w W W' : World} {N K N' K' n m : Nat} (h : Next W w.heap.size w.heap.size N K n W') (hb : Below w.heap.size w W) (hn : 2 ≤ n) (hm : n + 1 ≤ m) (hN : N ≤ N') (hK : K ≤ K') : StR w N' K' m W' := by
  obtain ⟨ps, B, L, hl, hs, hf⟩ := h
  exact ⟨ps, B, L, ⟨by omega, by omega⟩, hs.mono hN hK, hb.trans (hf.toBelow hb.size (fun x hx => hx))⟩
theorem plays_sd (hi : Int) (h3 : 3 ≤ hi) (hstep : StepOk hi) (l : List OpP) (a : Option Addr) (c : Nat) (w : World) (hg : GlobOk w) (hll : l.length ≤ 120000) (hlies : LiesO w a l) (hoks : ∀ i (h : i < l.length), (l[i]).Ok w ∧ (l[i]).More w) :
    Calls Tryz.prog 21 #[.slice a l.length c, .int .i64 hi] w fun e w' => e = .returned (.bool true) ∧ Below w.heap.size w w' := by
  refine (plays_of w a l.length c hi (by omega) (fun W => ∃ ps q, Sd W w.heap.size w.heap.size ps (fun x => x = w.heap.size) 0 0 ([] ++ [q]) ∧ Below w.heap.size w W)
    (fun W => ∃ ps q1 q2, Sd W w.heap.size w.heap.size ps (fun x => x = w.heap.size) 0 0 ([] ++ [q1] ++ [q2]) ∧ Below w.heap.size w W)
    (fun W => StR w 2 1 3 W) (fun k W => StR w (2 * k + 10) (k + 10) (k + 4) W) (fun k W => k < l.length ∧ StR w (2 * (k + 1) + 10) (k + 1 + 10) (k + 5) W) ?_ ?_ ?_ ?_ ?_ ?_ ?_).mono ?_
  · intro W0 hW0
    have hz := Sd.zero w w.heap.size (Nat.le_refl _)
    have hb0 : Below w.heap.size w (w.alloc (.cells #[.int .i64 0, .bool false, .slice none 0 0, .slice none 0 0, .slice none 0 0, .slice none 0 0, .slice none 0 0, .slice none 0 0, .slice none 0 0, .slice none 0 0, .slice none 0 0, .slice none 0 0, .slice none 0 0, .slice none 0 0, .slice none 0 0] 90)) := (Below.refl _ _).alloc (Nat.le_refl _) _
    rw [hW0] at hz hb0
    refine (step_new 0 1000 0 0 0 [] [] (.slice none 0 0) (.slice none 0 0) (.slice none 0 0) (by omega) (by omega) hz (by simp) hz.base_le).mono ?_
    rintro e W1 ⟨rfl, ps1, q1, h1, f1⟩
    exact ⟨rfl, ps1, q1, h1, hb0.trans (f1.toBelow hb0.size (fun x hx => hx))⟩
  · rintro W ⟨ps1, q1, h1, hb1⟩
    refine (step_new 0 60 0 0 0 [] [] (.slice none 0 0) (.slice none 0 0) (.slice none 0 0) (by omega) (by omega) h1 (by simp) h1.base_le).mono ?_
    rintro e W2 ⟨rfl, ps2, q2, h2, f2⟩
    exact ⟨rfl, ps2, q1, q2, h2, hb1.trans (f2.toBelow hb1.size (fun x hx => hx))⟩
  · rintro W ⟨ps2, q1, q2, h2, hb2⟩
    obtain ⟨aps, cps, eps⟩ := row_shape h2.row
    obtain ⟨-, cur2, hwa2, h82⟩ := h2.kp.wa
    rw [eps] at h82
    exact ⟨aps, cps, cur2, hwa2, (cell_of_block hwa2).symm.trans h82⟩
  · rintro W ⟨ps2, q1, q2, h2, hb2⟩
    refine (hstep W _ _ _ _ _ _ _ ⟨2, 0, 0, 0, [102, 105, 114, 115, 116], [], [], none, 0, [], none, 0, 0, 0, .slice none 0 0⟩ h2 ⟨by simp, by simp, by simp, by simp, by simp, .inl rfl, fun _ => ⟨rfl, rfl⟩, by simp, by simp, .inl rfl, fun _ => ⟨rfl, rfl⟩, fun i h => by simp at h⟩ ⟨by simp, by simp, by simp, by simp, ⟨none, [], 0, rfl, .inl rfl, by simp, by simp, fun _ => ⟨rfl, rfl⟩⟩⟩ (glob_stays w W hg hb2) (by simp) (by simp) (by omega) (by omega) (.inl (by simp only; omega))).mono ?_
    rintro e W3 ⟨rfl, h3⟩
    exact ⟨rfl, h3.toR hb2 (by simp) (by simp) (by omega) (by omega)⟩
  · rintro W ⟨ps3, B3, L3, hl3, h3', hb3⟩
    refine (hstep W _ _ _ _ _ _ _ ⟨3, 0, 0, 0, [48, 48, 49], [], [], none, 0, [], none, 0, 0, 0, .slice none 0 0⟩ h3' ⟨by simp, by simp, by simp, by simp, by simp, .inl rfl, fun _ => ⟨rfl, rfl⟩, by simp, by simp, .inl rfl, fun _ => ⟨rfl, rfl⟩, fun i h => by simp at h⟩ ⟨by simp, by simp, by simp, by simp, ⟨none, [], 0, rfl, .inl rfl, by simp, by simp, fun _ => ⟨rfl, rfl⟩⟩⟩ (glob_stays w W hg hb3) (by omega) (by omega) (by omega) (by omega) (.inl (by simp only; omega))).mono ?_
    rintro e W4 ⟨rfl, h4⟩
    exact ⟨rfl, h4.toR hb3 (by omega) (by omega) (by omega) (by omega)⟩
  · intro k hk
    obtain ⟨b, s, rfl, hat⟩ : ∃ b s, a = some ⟨b, s, none⟩ ∧ ∀ i (h : i < l.length), OpAt w b (s + i * 11) l[i] := by
      rcases hlies with h0 | h0
      · rw [h0] at hk; simp at hk
      · exact h0
    have hop := hat k hk
    have ho := hoks k hk
    generalize l[k] = o at *
    refine ⟨b, s, o.kind, .int .i64 o.store, .int .i64 o.A, .int .i64 o.B, .string (bs o.S), .string (bs o.T), .slice o.aX o.texts.length o.cX, .slice o.aE o.tree.length o.cE, .int .i64 o.tr, .int .i64 o.ba, o.Li, rfl, ?_, ?_, ?_⟩
    rotate_left
    · rintro - W ⟨ps, B, L, hL, hs, hb⟩
      exact ⟨ps, B, L, by omega, hs.mono (by omega) (by omega), hb⟩
    · rintro hc W ⟨ps, B, L, hL, hs, hb⟩
      refine (hstep W _ _ _ _ _ _ _ o hs (ho.1.below hb) (ho.2.below hb) (glob_stays w W hg hb) (by omega) (by omega) (by omega) (by omega) (by omega)).mono ?_
      rintro e W5 ⟨rfl, h5⟩
      exact ⟨rfl, hk, h5.toR hb (by omega) (by omega) (by omega) (by omega)⟩
    · rintro W ⟨ps, B, L, hL, hs, hb⟩ j v hv
      refine (hop.below hb) j v ?_
      rw [← hv]
      simp [OpP.cells, opC]
  · rintro k W ⟨hk, ps, B, L, hL, hs, hb⟩
    refine (hs.kp.looks (by omega)).mono ?_
    rintro e W6 ⟨rfl, hb6⟩
    exact ⟨rfl, ps, B, L, by omega, hs.below hb6, hb.trans (hb6.mono hb.size)⟩
  · rintro e w' ⟨rfl, ps, B, L, hL, hs, hb⟩
    exact ⟨rfl, hb⟩
end Go.Proofs.YtjmacegibchplaaGreatDoor

/-
  The statement on stores: Stored returns true.
-/
namespace Go.Proofs.YtjmacegibchplaaGreatDoor
open Go.RowKit Go.Maps Go.WideMaps
set_option linter.unusedVariables false
theorem step_five : StepOk 5 := fun w wb base N K ps B L o h ho _ hg h1 h2 h3 h4 h5 => step_any o h ho hg h1 h2 h3 h4 h5
set_option maxRecDepth 100000 in
theorem stored_law (l : List OpP) (a : Option Addr) (c : Nat) (w : World) (hg : GlobOk w) (hll : l.length ≤ 120000) (hlies : LiesO w a l) (hoks : ∀ i (h : i < l.length), (l[i]).Ok w ∧ (l[i]).More w) :
    Calls Tryz.prog 5 #[.slice a l.length c] w fun e w' => e = .returned (.bool true) ∧ Below w.heap.size w w' := by
  have H := hide (plays_sd 5 (by omega) step_five l a c w hg hll hlies hoks)
  clear hlies hoks
  go_enter Tryz.func5, Tryz.ntmps5
  go_wp2_with fail
  refine (unhide H).mono ?_
  rintro e w' ⟨rfl, hb⟩
  have Hb := hide hb
  clear hb
  go_wp2_with fail
  go_ret
  exact ⟨rfl, unhide Hb⟩
end Go.Proofs.YtjmacegibchplaaGreatDoor
