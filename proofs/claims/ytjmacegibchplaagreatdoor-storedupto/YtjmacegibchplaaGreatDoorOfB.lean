import Derived.Test.YtjmacegibchplaaGreatDoorPrD
import Derived.Test.YtjmacegibchplaaGreatDoorEntO
import Derived.Test.YtjmacegibchplaaGreatDoorUplP
import Derived.Test.YtjmacegibchplaaGreatDoorOfA
/-
  The program's link: what becomes of a try; New, next, count.
-/
namespace Go.Proofs.YtjmacegibchplaaGreatDoor
open Go.RowKit Go.Maps Go.WideMaps
set_option linter.unusedVariables false
def IntsAt (w : World) (a : Option Addr) (l : List Int) : Prop := l = [] ∨ ∃ b o, a = some ⟨b, o, none⟩ ∧ ∀ i (h : i < l.length), w.cell? ⟨b, o + i, none⟩ = some (.int .i64 l[i])
theorem IntsAt.below {B : Nat} {w w' : World} {a : Option Addr} {l : List Int} (h : IntsAt w a l) (hb : Below B w w') (hB : w.heap.size ≤ B) : IntsAt w' a l := by
  rcases h with h | ⟨b, o, e, h⟩
  · exact .inl h
  · exact .inr ⟨b, o, e, fun i hi => (hb.cell (p := ⟨b, _, none⟩) (Nat.lt_of_lt_of_le (block_lt (h i hi)) hB)).trans (h i hi)⟩
def LnkIs (w : World) (lb : Nat) (s : Nat × Nat × Nat) (tries : Int) (a : Option Addr) (n c : Nat) : Prop :=
  w.heap[lb]? = some (.cells #[.int .i64 (s.1 : Int), .int .i64 (s.2.1 : Int), .int .i64 (s.2.2 : Int), .int .i64 tries, .slice a n c] 134 (0, 0))
end Go.Proofs.YtjmacegibchplaaGreatDoor

/-
  Lists of texts and of numbers that come in and are of bounded bulk, opened.
-/
namespace Go.Proofs.YtjmacegibchplaaGreatDoor
open Go.RowKit
set_option linter.unusedVariables false
set_option maxRecDepth 100000 in
theorem open_textsB {H : Type} {enc : TypeId × Value → H} {W : World} {base : Nat} {sp : Nat → Bool} {held : Bool} {fuel : Nat} {a : Option Addr} {len cap : Nat} {x : DataW H × List MemPlace}
    (h : DataW.trod enc Tryz.prog W base sp held fuel 23 [.slice a len cap] = some x) (hk : Rows.uptoBulk x.1 ≤ 1048576) :
    ∃ l : List (List UInt8), l.length = len ∧ TextsAt W a l ∧ (∀ y ∈ l, y.length ≤ 1048576) ∧ len ≤ 1048576 ∧ (a = none → l = [] ∧ cap = 0) := by
  rcases Deep.open_slice Tryz.underlying23 h with ⟨hcs, rfl⟩ | ⟨ad, len', cap', m, n, D, Pl, hcs, _, hl, hm, hmm, rfl, hel⟩
  · simp at hcs
    obtain ⟨rfl, rfl, rfl⟩ := hcs
    exact ⟨[], rfl, .inl rfl, by simp, by decide, fun _ => ⟨rfl, rfl⟩⟩
  · simp at hcs
    obtain ⟨rfl, rfl, rfl⟩ := hcs
    have hlm : len ≤ m := by rw [hmm]; split <;> omega
    simp only [Rows.uptoBulk] at hk
    have hln := bulk_len ((List.range len).map D)
    rw [List.length_map, List.length_range] at hln
    have hex : ∀ i, i < len → ∃ y : List UInt8, y.length ≤ 1048576 ∧ W.cell? (ad.add i) = some (strVal y) := by
      intro i hi
      obtain ⟨cs', hc, ht⟩ := hel i (by omega)
      obtain ⟨s0, e0, r0, z0⟩ := DataW.trod_string Tryz.underlying9 ht
      rw [cells_str] at hc
      obtain ⟨_, hlen, hcc⟩ := World.cells?_some hc
      have hp := bulk_part (d := D i) (l := (List.range len).map D) (List.mem_map.2 ⟨i, by simpa using hi, rfl⟩)
      have hcs : cs' = [.string s0] := e0
      have hD : D i = .lit (.string s0.data.toList) := by simpa using congrArg Prod.fst r0
      rw [hD] at hp
      refine ⟨s0.data.toList, ?_, ?_⟩
      · simp only [Rows.uptoBulk] at hp
        omega
      · have := hcc 0 (by omega)
        rw [hcs] at this
        rw [show strVal s0.data.toList = .string s0 by unfold strVal; rw [bs_of]]
        have h2 : ((ad.add i).add 0) = ad.add i := by unfold Addr.add; split <;> simp_all
        simp only [Nat.mul_one] at this
        rw [h2] at this
        simpa using this
    obtain ⟨l, hll, hp⟩ := list_choose hex
    refine ⟨l, hll, ?_, fun y hy => ?_, by omega, fun h => by simp at h⟩
    · rcases Nat.eq_zero_or_pos len with h0 | hpos
      · left; exact List.eq_nil_of_length_eq_zero (by omega)
      · right
        obtain ⟨b, o, spot⟩ := ad
        have hc := (hp 0 (by omega)).2
        have hspot : spot = none := by simpa [Addr.add] using World.cell?_spot hc
        subst hspot
        refine ⟨b, o, rfl, fun i hi => ?_⟩
        have := (hp i hi).2
        rw [add_off] at this
        exact this
    · obtain ⟨i, hi, rfl⟩ := List.getElem_of_mem hy
      exact (hp i hi).1
set_option maxRecDepth 100000 in
theorem open_intsB {H : Type} {enc : TypeId × Value → H} {W : World} {base : Nat} {sp : Nat → Bool} {held : Bool} {fuel : Nat} {a : Option Addr} {len cap : Nat} {x : DataW H × List MemPlace}
    (h : DataW.trod enc Tryz.prog W base sp held fuel 55 [.slice a len cap] = some x) (hk : Rows.uptoBulk x.1 ≤ 1048576) :
    ∃ l : List Int, l.length = len ∧ IntsAt W a l ∧ (∀ r ∈ l, -9223372036854775808 ≤ r ∧ r ≤ 9223372036854775807) ∧ len ≤ 1048576 ∧ (a = none → l = [] ∧ cap = 0) := by
  rcases Deep.open_slice Tryz.underlying55 h with ⟨hcs, rfl⟩ | ⟨ad, len', cap', m, n, D, Pl, hcs, _, hl, hm, hmm, rfl, hel⟩
  · simp at hcs
    obtain ⟨rfl, rfl, rfl⟩ := hcs
    exact ⟨[], rfl, .inl rfl, by simp, by decide, fun _ => ⟨rfl, rfl⟩⟩
  · simp at hcs
    obtain ⟨rfl, rfl, rfl⟩ := hcs
    have hlm : len ≤ m := by rw [hmm]; split <;> omega
    simp only [Rows.uptoBulk] at hk
    have hln := bulk_len ((List.range len).map D)
    rw [List.length_map, List.length_range] at hln
    have hmin : IntKind.i64.min = -9223372036854775808 := by decide
    have hmax : IntKind.i64.max = 9223372036854775807 := by decide
    have hex : ∀ i, i < len → ∃ y : Int, (-9223372036854775808 ≤ y ∧ y ≤ 9223372036854775807) ∧ W.cell? (ad.add i) = some (.int .i64 y) := by
      intro i hi
      obtain ⟨cs', hc, ht⟩ := hel i (by omega)
      obtain ⟨s0, e0, r0, z0⟩ := DataW.trod_int Tryz.underlying3 ht
      rw [cells_int] at hc
      obtain ⟨_, hlen, hcc⟩ := World.cells?_some hc
      have hcs : cs' = [.int .i64 s0] := e0
      refine ⟨s0, ?_, ?_⟩
      · have h1 := z0
        simp [Lit.wf] at h1
        omega
      · have := hcc 0 (by omega)
        rw [hcs] at this
        have h2 : ((ad.add i).add 0) = ad.add i := by unfold Addr.add; split <;> simp_all
        simp only [Nat.mul_one] at this
        rw [h2] at this
        simpa using this
    obtain ⟨l, hll, hp⟩ := list_choose hex
    refine ⟨l, hll, ?_, fun y hy => ?_, by omega, fun h => by simp at h⟩
    · rcases Nat.eq_zero_or_pos len with h0 | hpos
      · left; exact List.eq_nil_of_length_eq_zero (by omega)
      · right
        obtain ⟨b, o, spot⟩ := ad
        have hc := (hp 0 (by omega)).2
        have hspot : spot = none := by simpa [Addr.add] using World.cell?_spot hc
        subst hspot
        refine ⟨b, o, rfl, fun i hi => ?_⟩
        have := (hp i hi).2
        rw [add_off] at this
        exact this
    · obtain ⟨i, hi, rfl⟩ := List.getElem_of_mem hy
      exact (hp i hi).1
end Go.Proofs.YtjmacegibchplaaGreatDoor

/-
  The program's link: count; putAll, and what is heard (the closures of bring).
-/
namespace Go.Proofs.YtjmacegibchplaaGreatDoor
open Go.RowKit Go.Maps Go.WideMaps
set_option linter.unusedVariables false
theorem LnkIs.fr {S : Nat → Prop} {w w' : World} {lb : Nat} {s : Nat × Nat × Nat} {tries : Int} {a : Option Addr} {n c : Nat} (h : LnkIs w lb s tries a n c) (hf : Fr S w w') (hn : ¬ S lb) : LnkIs w' lb s tries a n c := (hf.block lb (Array.getElem?_eq_some_iff.1 h).1 hn).trans h
theorem LnkIs.lt {w : World} {lb : Nat} {s : Nat × Nat × Nat} {tries : Int} {a : Option Addr} {n c : Nat} (h : LnkIs w lb s tries a n c) : lb < w.heap.size := (Array.getElem?_eq_some_iff.1 h).1
theorem cell_fr {S : Nat → Prop} {w w' : World} (hf : Fr S w w') {b o : Nat} {v : Value} (hc : w.cell? ⟨b, o, none⟩ = some v) (hn : ¬ S b) : w'.cell? ⟨b, o, none⟩ = some v :=
  (World.cell?_of_block (a := ⟨b, o, none⟩) (hf.block b (block_lt hc) hn)).trans hc
theorem TextsAt.fr {S : Nat → Prop} {w w' : World} {a : Option Addr} {l : List (List UInt8)} (h : TextsAt w a l) (hf : Fr S w w') (hn : ∀ b o q, a = some ⟨b, o, q⟩ → ¬ S b) : TextsAt w' a l := by
  rcases h with h | ⟨b, o, e, h⟩
  · exact .inl h
  · exact .inr ⟨b, o, e, fun i hi => cell_fr hf (h i hi) (hn b o none e)⟩
end Go.Proofs.YtjmacegibchplaaGreatDoor

/-
  The program's link: what is heard (the closures of bring), and a request that asks what is missing.
-/
namespace Go.Proofs.YtjmacegibchplaaGreatDoor
open Go.RowKit Go.Maps Go.WideMaps
set_option linter.unusedVariables false
theorem IntsAt.fr {S : Nat → Prop} {w w' : World} {a : Option Addr} {l : List Int} (h : IntsAt w a l) (hf : Fr S w w') (hn : ∀ b o, a = some ⟨b, o, none⟩ → l ≠ [] → ¬ S b) : IntsAt w' a l := by
  rcases h with h | ⟨b, o, e, h⟩
  · exact .inl h
  · by_cases hl : l = []
    · exact .inl hl
    · exact .inr ⟨b, o, e, fun i hi => cell_fr hf (h i hi) (hn b o e hl)⟩
end Go.Proofs.YtjmacegibchplaaGreatDoor

/-
  The program's link: a request that brings blobs.
-/
namespace Go.Proofs.YtjmacegibchplaaGreatDoor
open Go.RowKit Go.Maps Go.WideMaps
set_option linter.unusedVariables false
end Go.Proofs.YtjmacegibchplaaGreatDoor

/-
  Batches, told over plain lists: how the program cuts what is missing, and that it is as the document does.
-/
namespace Go.Proofs.YtjmacegibchplaaGreatDoor
set_option linter.unusedVariables false
end Go.Proofs.YtjmacegibchplaaGreatDoor

/-
  The program's gather: what is made of each entry (its closure).
-/
namespace Go.Proofs.YtjmacegibchplaaGreatDoor
open Go.RowKit
set_option linter.unusedVariables false
theorem MapIs.mono {w : World} {b n m : Nat} {f : List UInt8 → Option Value} (h : MapIs w b n f) (hn : n ≤ m) : MapIs w b m f := by
  obtain ⟨D, h, hf⟩ := h
  exact ⟨D, h.mono hn, hf⟩
theorem KeepIs.mono {w : World} {bu bc um n m : Nat} {kr : List (List UInt8)} (h : KeepIs w bu bc um n kr) (hn : n ≤ m) : KeepIs w bu bc um m kr := ⟨h.u, h.c, h.m.mono hn⟩
theorem itCells_one1 (y : P.It) : ∀ u ∈ itCells y, u.oneCell' = true := fun u hu => itCells_one [y] u (by simpa [rowCells] using hu)
theorem row_lies {w : World} {base : Nat} {v : Value} {l : List P.It} (h : w.ownsRow base 47 5 v l.length (rowCells itCells l)) : ∃ a c, v = .slice a l.length c ∧ Lies w a l := by
  obtain ⟨a, c, h1, h2, _⟩ := OwnsIt.lies (show OwnsIt w base v l from h)
  exact ⟨a, c, h1, h2⟩
set_option maxHeartbeats 1000000 in
theorem encode_any (l : List P.It) (v : Value) (w : World) (base : Nat) (hown : w.ownsRow base 47 5 v l.length (rowCells itCells l)) (hf : FitAll l) (hd : dirOk l = true) :
    Calls Tryz.prog 104 #[v] w fun e w' => e = .returned (.string (bs (dirBytes l))) ∧ Below w.heap.size w w' := by
  obtain ⟨a, c, rfl, hl⟩ := row_lies hown
  have h40 := len_of_dirOk l hd
  have he := dirEncode_yes l a c w (by unfold maxLen; omega) hl hf hd
  change Calls Tryz.prog 57 #[.slice a l.length c] w fun e w' => e = .returned (.tuple #[.string (bs (dirBytes l)), .int .i64 0]) ∧ Below w.heap.size w w' at he
  generalize dirBytes l = B at *
  go_enter Tryz.func104, Tryz.ntmps104
  go_wp2_with fail
  refine he.mono ?_
  rintro e w1 ⟨rfl, hb1⟩
  go_wp2_with fail
  go_ret
  exact ⟨rfl, hb1⟩
def keptR (l : List En) (done : List Nat) : List (List UInt8) := (done.flatMap (fun i => partP l (l.getD i en0))).reverse
theorem keptR_snoc (l : List En) (done : List Nat) (i : Nat) : keptR l (done ++ [i]) = (partP l (l.getD i en0)).reverse ++ keptR l done := by
  unfold keptR; rw [List.flatMap_append]; simp
def itemsF (l : List En) (done : List Nat) : List UInt8 → List P.It := fun d => (done.filter (fun j => upAt l j == d)).map (itemQ l)
theorem itemsF_snoc (l : List En) (done : List Nat) (i : Nat) : itemsF l (done ++ [i]) = updG (itemsF l done) (upAt l i) (itemQ l i) := by
  funext d
  unfold itemsF updG
  rw [List.filter_append]
  by_cases h : d = upAt l i
  · rw [if_pos h, h]; simp
  · rw [if_neg h]
    have : ¬ upAt l i = d := fun e => h e.symm
    simp [this]
theorem itemsF_len (l : List En) (done : List Nat) (d : List UInt8) : (itemsF l done d).length ≤ done.length := by
  unfold itemsF; rw [List.length_map]; exact List.length_filter_le _ _
structure IG (l : List En) (base : Nat) (wB : World) (bit bk im bu bc um : Nat) (Own : Nat → Prop) (done : List Nat) (w : World) : Prop where
  lt : ∀ b, Own b → b < w.heap.size
  old : ∀ b, b < base → Own b
  ci : w.heap[bit]? = some (.cells #[.map (some im)] 150 (0, 0))
  ck : w.heap[bk]? = some (.cells #[.func (.func 65) #[] #[ptr bu, ptr bc]] 38 (0, 0))
  oi : Own bit
  ok : Own bk
  oku : ∀ b, b = bu ∨ b = bc ∨ b = um → Own b
  new : base ≤ bc ∧ base ≤ um ∧ base ≤ im
  grp : ∃ FI, Grp 47 5 itCells w base im done.length Own FI (itemsF l done)
  keep : KeepIs w bu bc um done.length (keptR l done)
  below : Below base wB w
theorem IG.stable {l : List En} {base : Nat} {wB : World} {bit bk im bu bc um : Nat} {Own : Nat → Prop} {done : List Nat} {w w' : World} (h : IG l base wB bit bk im bu bc um Own done w) (hk : OwnK Own w w') : IG l base wB bit bk im bu bc um Own done w' := by
  obtain ⟨FI, hg⟩ := h.grp
  exact ⟨fun b hb => Nat.lt_of_lt_of_le (h.lt b hb) hk.size, h.old, (hk.block bit h.oi).trans h.ci, (hk.block bk h.ok).trans h.ck, h.oi, h.ok, h.oku, h.new, ⟨FI, hg.kept (fun b hb _ => hk.block b hb)⟩, h.keep.same (fun b hb => hk.block b (h.oku b hb)),
    ⟨hk.os.trans h.below.os, hk.tape.trans h.below.tape, hk.output.trans h.below.output, Nat.le_trans h.below.size hk.size, fun b hb => (hk.block b (h.old b hb)).trans (h.below.block b hb)⟩⟩
theorem under72 : Tryz.prog.underlying 150 = some (.map 9 43) := by kernel_rfl
theorem under59 : Tryz.prog.underlying 43 = some (.slice 47) := by kernel_rfl
theorem zero_items (w : World) : (zeroValue 43).run Tryz.prog w = .ok (.slice none 0 0) w := by kernel_rfl
structure TailIn (base im n bit bt sz : Nat) (Own : Nat → Prop) (FI : List UInt8 → Option Value) (GI : List UInt8 → List P.It) (it : P.It) (W : World) : Prop where
  grp : Grp 47 5 itCells W base im n (fun b => Own b ∨ sz ≤ b) FI GI
  ci : W.heap[bit]? = some (.cells #[.map (some im)] 150 (0, 0))
  ct : W.heap[bt]? = some (.cells (itCells it).toArray 47 (0, 0))
  rows : ∀ d g, ((FI d).getD (.slice none 0 0)).ownBlock = some g → g ≠ bt
  sz : sz ≤ W.heap.size
  base : base ≤ W.heap.size
structure TailOut (base im n sz : Nat) (Own : Nat → Prop) (GI : List UInt8 → List P.It) (d : List UInt8) (it : P.It) (W W' : World) : Prop where
  grp : ∃ F', Grp 47 5 itCells W' base im (n + 1) (fun b => Own b ∨ sz ≤ b) F' (updG GI d it)
  fr : ∃ row : Option Nat, (∀ g, row = some g → (Own g ∨ sz ≤ g) ∧ base ≤ g ∧ ∃ cur, W.heap[g]? = some (.cells cur 47 (0, 0))) ∧ Fr (fun b => b = im ∨ some b = row) W W'
theorem tail_facts {base im n bit bt sz : Nat} {Own : Nat → Prop} {FI : List UInt8 → Option Value} {GI : List UInt8 → List P.It} {it : P.It} {W : World} (h : TailIn base im n bit bt sz Own FI GI it W) (d : List UInt8) (hd : d.length ≤ maxLen) (hn : n < 5000000000) (hG : (GI d).length ≤ n) :
    ∃ v, (FI d).getD (.slice none 0 0) = v ∧
      (∀ W' : World, W'.heap[im]? = W.heap[im]? → (Instr.lookup 150 (.map (some im)) (.string (bs d)) false).run Tryz.prog W' = .ok v W') ∧
      W.ownsRow base 47 5 v (GI d).length (rowCells itCells (GI d)) ∧
      some bit ≠ v.ownBlock ∧ some bt ≠ v.ownBlock ∧ im < W.heap.size ∧ bit < W.heap.size ∧ bt < W.heap.size ∧ bit ≠ im ∧ bt ≠ im ∧
      (∀ (w4 : World) (v' : Value), W.grownBy w4 v.ownBlock → w4.ownsRow base 47 5 v' ((GI d).length + 1) (rowCells itCells (GI d ++ [it])) → (v'.ownBlock = v.ownBlock ∨ ∃ g, v'.ownBlock = some g ∧ W.heap.size ≤ g) →
        ∃ w5, (Instr.mapUpdate 150 (.map (some im)) (.string (bs d)) v').run Tryz.prog w4 = .ok () w5 ∧ w4.grownBy w5 (some im) ∧ TailOut base im n sz Own GI d it W w5) := by
  have hat := h.grp.at d
  refine ⟨_, rfl, fun W' hW => (h.grp.map.same hW).look 150 43 under72 (.slice none 0 0) (zero_items _) d hd, hat, row_not_cell hat h.ci (by decide), fun e => h.rows d bt e.symm rfl, h.grp.map.lt, (Array.getElem?_eq_some_iff.1 h.ci).1, (Array.getElem?_eq_some_iff.1 h.ct).1, map_ne_cells h.grp.map h.ci, map_ne_cells h.grp.map h.ct, ?_⟩
  intro w4 v' hg ho hl
  obtain ⟨w5, hrun, hgrp, hg5⟩ := h.grp.put (w1 := w4) 150 43 under72 (by unfold maxLen; omega) d hd it v' hg ho hl (fun b hb => .inr (Nat.le_trans h.sz hb))
  refine ⟨w5, hrun, hg5, ⟨⟨_, hgrp⟩, ((FI d).getD (.slice none 0 0)).ownBlock, fun g hgg => ⟨h.grp.ownAt d g hgg, (World.ownsRow.lt hat g hgg).1, ?_⟩, ?_⟩⟩
  · rcases hat.2 with ⟨e, _⟩ | ⟨g', c, cur, e, _, hc, _⟩
    · rw [e] at hgg; simp [Value.ownBlock] at hgg
    · rw [e] at hgg
      simp only [Value.ownBlock, Option.some.injEq] at hgg
      subst hgg
      exact ⟨cur, hc⟩
  · exact (Fr.grown hg (fun g hgg => .inr hgg.symm)).trans (Fr.grown hg5 (fun g hgg => by cases hgg; exact .inl rfl))
end Go.Proofs.YtjmacegibchplaaGreatDoor
