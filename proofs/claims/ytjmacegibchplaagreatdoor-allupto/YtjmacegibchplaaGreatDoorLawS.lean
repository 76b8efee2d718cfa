import Derived.Test.YtjmacegibchplaaGreatDoorLawM
import Derived.Test.YtjmacegibchplaaGreatDoorLawC
import Derived.Test.YtjmacegibchplaaGreatDoorFtB
namespace Go.Proofs.YtjmacegibchplaaGreatDoor
open Go.RowKit Go.Maps Go.WideMaps
set_option linter.unusedVariables false
theorem rows_ne {w : World} {base1 base2 e1 e2 s1 s2 n1 n2 g : Nat} {v1 v2 : Value} {xs1 xs2 : List Value} (h1 : w.ownsRow base1 e1 s1 v1 n1 xs1) (h2 : w.ownsRow base2 e2 s2 v2 n2 xs2) (hne : e1 ≠ e2) (hg : v1.ownBlock = some g) : v2.ownBlock ≠ some g := by
 rcases h1.2 with ⟨rfl, _⟩ | ⟨g', cap, cur', rfl, hb', hgg, _⟩
 ·simp [Value.ownBlock] at hg
 ·obtain rfl : g' = g := by simpa [Value.ownBlock] using hg
  exact row_neS h2 hgg (Ne.symm hne)
structure MS (w : World) (wb base : Nat) (came : Int) (kT wT kI wI kE wE ps tx tx3 it it3 en en3 : Value) (l l3 : List Value) : Prop where
 wa : WorldAt w wb came kT wT kI wI kE wE ps tx tx3 it it3 en en3
 t : OwnsL w base tx l
 t3 : OwnsL w base tx3 l3
 ne : ∀ g, tx.ownBlock = some g → tx3.ownBlock ≠ some g
def MSet (wb : Nat) (tx tx3 : Value) (x : Nat) : Prop := x = wb ∨ tx.ownBlock = some x ∨ tx3.ownBlock = some x
section
variable {w w' w1 : World} {wb base : Nat} {came : Int} {kT wT kI wI kE wE ps tx tx3 it it3 en en3 v' : Value} {l l3 l' : List Value} {X : Obj}
theorem MS.lt (h : MS w wb base came kT wT kI wI kE wE ps tx tx3 it it3 en en3 l l3) : wb < w.heap.size := (Array.getElem?_eq_some_iff.1 h.wa).1
theorem MS.setLt (h : MS w wb base came kT wT kI wI kE wE ps tx tx3 it it3 en en3 l l3) (x : Nat) (hx : MSet wb tx tx3 x) : x < w.heap.size := by
 rcases hx with rfl | hx | hx
 ·exact h.lt
 ·exact own_lt h.t hx
 ·exact own_lt h.t3 hx
theorem MS.same (h : MS w wb base came kT wT kI wI kE wE ps tx tx3 it it3 en en3 l l3) (hs : ∀ x, MSet wb tx tx3 x → w'.heap[x]? = w.heap[x]?) : MS w' wb base came kT wT kI wI kE wE ps tx tx3 it it3 en en3 l l3 :=
 ⟨(hs wb (.inl rfl)).trans h.wa, ownsRow_same h.t (fun g e => hs g (.inr (.inl e))), ownsRow_same h.t3 (fun g e => hs g (.inr (.inr e))), h.ne⟩
theorem MS.below {B : Nat} (h : MS w wb base came kT wT kI wI kE wE ps tx tx3 it it3 en en3 l l3) (hb : Below B w w') (hB : w.heap.size ≤ B) : MS w' wb base came kT wT kI wI kE wE ps tx tx3 it it3 en en3 l l3 := h.same (fun x hx => hb.block x (Nat.lt_of_lt_of_le (h.setLt x hx) hB))
theorem MS.fr {S : Nat → Prop} (h : MS w wb base came kT wT kI wI kE wE ps tx tx3 it it3 en en3 l l3) (hf : Fr S w w') (hn : ∀ x, MSet wb tx tx3 x → ¬ S x) : MS w' wb base came kT wT kI wI kE wE ps tx tx3 it it3 en en3 l l3 := h.same (fun x hx => hf.block x (h.setLt x hx) (hn x hx))
theorem MS.text {v : Value} {ls : List (List UInt8)} {b2 g : Nat} (h : MS w wb base came kT wT kI wI kE wE ps tx tx3 it it3 en en3 l l3) (ho : OwnsS w b2 v ls) (hg : v.ownBlock = some g) : ¬ MSet wb tx tx3 g := by
 rintro (rfl | hx | hx)
 ·exact row_neS ho h.wa (by decide) hg
 ·exact rows_ne ho h.t (by decide) hg hx
 ·exact rows_ne ho h.t3 (by decide) hg hx
theorem MS.neRow (h : MS w wb base came kT wT kI wI kE wE ps tx tx3 it it3 en en3 l l3) : tx.ownBlock ≠ some wb ∧ tx3.ownBlock ≠ some wb := ⟨row_neS h.t h.wa (by decide), row_neS h.t3 h.wa (by decide)⟩
theorem MS.grow1 (h : MS w wb base came kT wT kI wI kE wE ps tx tx3 it it3 en en3 l l3) (o1 : OwnsL w1 base v' l') (g1 : (w.alloc X).grownBy w1 tx.ownBlock) (p1 : v'.ownBlock = tx.ownBlock ∨ v'.ownBlock = some (w.alloc X).heap.size) :
  WorldAt w1 wb came kT wT kI wI kE wE ps tx tx3 it it3 en en3 ∧ MS (w1.setCell ⟨wb, 9, none⟩ v') wb base came kT wT kI wI kE wE ps v' tx3 it it3 en en3 l' l3 ∧ Fr (MSet wb tx tx3) w (w1.setCell ⟨wb, 9, none⟩ v') ∧ w.heap.size < w1.heap.size ∧ (∀ x, MSet wb v' tx3 x → MSet wb tx tx3 x ∨ w.heap.size ≤ x) := by
 have hsz : (w.alloc X).heap.size = w.heap.size + 1 := by simp
 have e0 : (w.alloc X).heap[wb]? = _ := (Below.heap_alloc _ _ _ h.lt).trans h.wa
 have e1 : w1.heap[wb]? = _ := (g1.block wb (by rw [hsz]; have := h.lt; omega) (fun e => h.neRow.1 e.symm)).trans e0
 have h2a : OwnsL (w.alloc X) base tx3 l3 := World.ownsRow.alloc h.t3 X
 have h2 : OwnsL w1 base tx3 l3 := ownsRow_same h2a (fun g e => g1.block g (own_lt h2a e) (fun e2 => h.ne g e2.symm e))
 have hn1 := row_neS o1 e1 (by decide)
 have hn2 := row_neS h2 e1 (by decide)
 have gs := grown_setCell w1 wb 9 v'
 refine ⟨e1, ⟨heap_setCell_same w1 wb 9 _ _ v' e1, ownsRow_same o1 (fun g e => gs.block g (own_lt o1 e) (fun e2 => hn1 (by rw [e, e2]))), ownsRow_same h2 (fun g e => gs.block g (own_lt h2 e) (fun e2 => hn2 (by rw [e, e2]))), ?_⟩, ?_, ?_, ?_⟩
 ·intro g eg e2
  rcases p1 with p1 | p1
  ·exact h.ne g (by rw [← p1]; exact eg) e2
  ·rw [p1] at eg
   obtain rfl := Option.some.inj eg
   have := own_lt h.t3 e2
   rw [hsz] at this; omega
 ·have f1 : Fr (MSet wb tx tx3) w w1 := (Fr.below ((Below.refl _ _).alloc (Nat.le_refl _) X)).trans (Fr.grown g1 (fun g e => .inr (.inl e)))
  exact f1.trans (Fr.set w1 wb 9 v' (.inl rfl))
 ·have := g1.size
  omega
 ·rintro x (rfl | hx | hx)
  ·exact .inl (.inl rfl)
  ·rcases p1 with p1 | p1
   ·exact .inl (.inr (.inl (by rw [← p1]; exact hx)))
   ·rw [p1] at hx
    obtain rfl := Option.some.inj hx
    exact .inr (by rw [hsz]; omega)
  ·exact .inl (.inr (.inr hx))
theorem MS.grow3 (h : MS w wb base came kT wT kI wI kE wE ps tx tx3 it it3 en en3 l l3) (o1 : OwnsL w1 base v' l') (g1 : (w.alloc X).grownBy w1 tx3.ownBlock) (p1 : v'.ownBlock = tx3.ownBlock ∨ v'.ownBlock = some (w.alloc X).heap.size) :
  WorldAt w1 wb came kT wT kI wI kE wE ps tx tx3 it it3 en en3 ∧ MS (w1.setCell ⟨wb, 10, none⟩ v') wb base came kT wT kI wI kE wE ps tx v' it it3 en en3 l l' ∧ Fr (MSet wb tx tx3) w (w1.setCell ⟨wb, 10, none⟩ v') ∧ w.heap.size < w1.heap.size ∧ (∀ x, MSet wb tx v' x → MSet wb tx tx3 x ∨ w.heap.size ≤ x) := by
 have hsz : (w.alloc X).heap.size = w.heap.size + 1 := by simp
 have e0 : (w.alloc X).heap[wb]? = _ := (Below.heap_alloc _ _ _ h.lt).trans h.wa
 have e1 : w1.heap[wb]? = _ := (g1.block wb (by rw [hsz]; have := h.lt; omega) (fun e => h.neRow.2 e.symm)).trans e0
 have h2a : OwnsL (w.alloc X) base tx l := World.ownsRow.alloc h.t X
 have h2 : OwnsL w1 base tx l := ownsRow_same h2a (fun g e => g1.block g (own_lt h2a e) (fun e2 => h.ne g e e2.symm))
 have hn1 := row_neS o1 e1 (by decide)
 have hn2 := row_neS h2 e1 (by decide)
 have gs := grown_setCell w1 wb 10 v'
 refine ⟨e1, ⟨heap_setCell_same w1 wb 10 _ _ v' e1, ownsRow_same h2 (fun g e => gs.block g (own_lt h2 e) (fun e2 => hn2 (by rw [e, e2]))), ownsRow_same o1 (fun g e => gs.block g (own_lt o1 e) (fun e2 => hn1 (by rw [e, e2]))), ?_⟩, ?_, ?_, ?_⟩
 ·intro g eg e2
  rcases p1 with p1 | p1
  ·exact h.ne g eg (by rw [← p1]; exact e2)
  ·rw [p1] at e2
   obtain rfl := Option.some.inj e2
   have := own_lt h.t eg
   rw [hsz] at this; omega
 ·have f1 : Fr (MSet wb tx tx3) w w1 := (Fr.below ((Below.refl _ _).alloc (Nat.le_refl _) X)).trans (Fr.grown g1 (fun g e => .inr (.inr e)))
  exact f1.trans (Fr.set w1 wb 10 v' (.inl rfl))
 ·have := g1.size
  omega
 ·rintro x (rfl | hx | hx)
  ·exact .inl (.inl rfl)
  ·exact .inl (.inr (.inl hx))
  ·rcases p1 with p1 | p1
   ·exact .inl (.inr (.inr (by rw [← p1]; exact hx)))
   ·rw [p1] at hx
    obtain rfl := Option.some.inj hx
    exact .inr (by rw [hsz]; omega)
end
end Go.Proofs.YtjmacegibchplaaGreatDoor
namespace Go.Proofs.YtjmacegibchplaaGreatDoor
open Go.RowKit
set_option linter.unusedVariables false
set_option maxHeartbeats 1000000 in
theorem fullEntries_any (n : Nat) (m : Int) (a : Option Addr) (c : Nat) (w : World) (hn : n ≤ maxLen) (h : LiesE w a (List.replicate n ⟨⟨#[]⟩, m, ⟨#[]⟩⟩)) :
  Calls Tryz.prog 83 #[.slice a n c, .int .i64 m] w fun e w' => e = .returned (.bool true) ∧ w' = w := by
 unfold maxLen at hn
 go_enter Tryz.func83, Tryz.ntmps83
 go_wp2_with fail
 go_loop [5] (fun i => ∃ k : Nat, k ≤ n ∧ i = .int .i64 k) (fun i => n - (intOf i).toNat)
 case atStart => exact ⟨0, by omega, rfl⟩
 case round =>
  obtain ⟨k, hk, rfl⟩ := hrel
  by_cases hlt : k < n
  ·obtain ⟨b, o, rfl, hc⟩ := entsGet h (k := k) (by simpa using hlt)
   have he := hc k (by simpa using hlt)
   rw [List.getElem_replicate] at he
   obtain ⟨c0, c1, c2⟩ := he
   simp only at c0 c1 c2
   have q1 : (k : Int) < (n : Int) := by omega
   clear h hc
   go_wp2_with fail
   go_round
   case rel => exact ⟨k + 1, by omega, by go_num⟩
   case measure => simp [intOf]; omega
  ·obtain rfl : k = n := by omega
   go_wp2_with fail
   go_ret
   exact ⟨rfl, rfl⟩
set_option maxHeartbeats 1000000 in
theorem fullItems_any (n : Nat) (m : Int) (a : Option Addr) (c : Nat) (w : World) (hn : n ≤ maxLen) (h : Lies w a (List.replicate n ⟨⟨#[]⟩, m, ⟨#[]⟩, 0, ⟨#[]⟩⟩)) :
  Calls Tryz.prog 82 #[.slice a n c, .int .i64 m] w fun e w' => e = .returned (.bool true) ∧ w' = w := by
 unfold maxLen at hn
 go_enter Tryz.func82, Tryz.ntmps82
 go_wp2_with fail
 go_loop [5] (fun i => ∃ k : Nat, k ≤ n ∧ i = .int .i64 k) (fun i => n - (intOf i).toNat)
 case atStart => exact ⟨0, by omega, rfl⟩
 case round =>
  obtain ⟨k, hk, rfl⟩ := hrel
  by_cases hlt : k < n
  ·obtain ⟨b, o, rfl, hc⟩ : ∃ b o, a = some ⟨b, o, none⟩ ∧ ItemsAt w b o (List.replicate n ⟨⟨#[]⟩, m, ⟨#[]⟩, 0, ⟨#[]⟩⟩) := by
    rcases h with h | h
    ·have := congrArg List.length h; simp at this; omega
    ·exact h
   have he := hc k (by simpa using hlt)
   rw [List.getElem_replicate] at he
   obtain ⟨c0, c1, c2, c3, c4⟩ := he
   simp only at c0 c1 c2 c3 c4
   have q1 : (k : Int) < (n : Int) := by omega
   clear h hc
   go_wp2_with fail
   go_round
   case rel => exact ⟨k + 1, by omega, by go_num⟩
   case measure => simp [intOf]; omega
  ·obtain rfl : k = n := by omega
   go_wp2_with fail
   go_ret
   exact ⟨rfl, rfl⟩
end Go.Proofs.YtjmacegibchplaaGreatDoor
namespace Go.Proofs.YtjmacegibchplaaGreatDoor
open Go.RowKit Go.Maps Go.WideMaps
set_option linter.unusedVariables false
def itMk (k : Nat) : P.It := ⟨⟨#[]⟩, -1 - (k : Int), ⟨#[]⟩, 0, ⟨#[]⟩⟩
def MarksStayI (m : P.It) (w w' : World) : Prop := ∀ b i, ItemAt w b (i * 5) m → ItemAt w' b (i * 5) m
theorem MarksStayI.trans {m : P.It} {a b c : World} (h : MarksStayI m a b) (k : MarksStayI m b c) : MarksStayI m a c := fun x i e => k x i (h x i e)
theorem item_lt {w : World} {b p : Nat} {m : P.It} (h : ItemAt w b p m) : b < w.heap.size := block_lt h.1
theorem item_same {w w' : World} {b p : Nat} {m : P.It} (h : ItemAt w b p m) (hc : ∀ j, j < 5 → ∀ u, w.cell? ⟨b, p + j, none⟩ = some u → (itCells m)[j]? = some u → w'.cell? ⟨b, p + j, none⟩ = some u) : ItemAt w' b p m := by
 obtain ⟨h0, h1, h2, h3, h4⟩ := h
 exact ⟨by simpa using hc 0 (by omega) _ (by simpa using h0) rfl, hc 1 (by omega) _ h1 rfl, hc 2 (by omega) _ h2 rfl, hc 3 (by omega) _ h3 rfl, hc 4 (by omega) _ h4 rfl⟩
theorem MarksStayI.below {m : P.It} {w w' : World} (h : Below w.heap.size w w') : MarksStayI m w w' := fun b i e => item_same e (fun j _ u hu _ => (h.cell (p := ⟨b, i * 5 + j, none⟩) (item_lt e)).trans hu)
theorem row_rep_at (m : P.It) (n i j : Nat) (hi : i < n) (hj : j < 5) : (rowCells itCells (List.replicate n m))[i * 5 + j]? = (itCells m)[j]? := by
 have := rowCells_at (enc := itCells) (n := 5) (fun _ => rfl) (List.replicate n m) i (by simpa using hi) j hj
 rw [List.getElem_replicate] at this
 exact this
theorem app_markI {w : World} {ops : Array Oper} {rest : List Oper} {o : Oper} {a : Act} {Q : Exit → Act → World → Prop} (hgd : o.guard = none) (s x : Operand)
  (ho : o.op = .call { callee := .builtin .append, args := #[s, x], argTypes := #[43, 43] }) (base : Nat) (v : Value) (n : Nat) (m : P.It) (hs : a.eval s = v) (hown : OwnsIt w base v (List.replicate n m))
  (ad : Addr) (j : Nat) (hj : 0 < j) (hj3 : j ≤ 3) (hx : a.eval x = .slice (some ad) j j) (hnews : ∀ i u, (rowCells itCells (List.replicate j m))[i]? = some u → w.cell? (ad.add i) = some u) (hlen : n ≤ 2000000) (hbase : base ≤ w.heap.size)
  (h : ∀ v' w', OwnsIt w' base v' (List.replicate (n + j) m) → w.grownBy w' v.ownBlock → (v'.ownBlock = v.ownBlock ∨ v'.ownBlock = some w.heap.size) → OwnsIt w' base v (List.replicate n m) → MarksStayI m w w' → wpList Tryz.prog ops Q rest (a.put o.dst v') w') : wpList Tryz.prog ops Q (o :: rest) a w := by
 obtain ⟨i0, hi, hz0, hz1, hz2⟩ := info_parts info_item
 refine wpList_plain hgd fun K' hK' => ?_
 have hown' : w.ownsRow base 47 5 v n (rowCells itCells (List.replicate n m)) := by
  have := hown
  unfold OwnsIt at this
  rw [List.length_replicate] at this
  exact this
 obtain ⟨v', w', hrun, r1, r2, r3, r4⟩ := run_append_two (P := Tryz.prog) w base 43 o.type 47 i0 _ 5 64 Tryz.underlying43 hi hz0 hz1 hz2 rfl (by decide) v n (rowCells itCells (List.replicate n m)) hown' ad j j hj (rowCells itCells (List.replicate j m)) (by rw [rowCells_length (n := 5) (fun _ => rfl)]; simp) hnews (itCells_one _) (by unfold maxLen; omega) (by omega) hbase
 unfold Oper.wp
 simp [execOp, ho, resolve, invoke, builtin, hs, hx, hrun, Result.andThen]
 refine hK' _ _ (h v' w' ?_ r2 r3 ?_ ?_)
 ·unfold OwnsIt
  have e : rowCells itCells (List.replicate (n + j) m) = rowCells itCells (List.replicate n m) ++ rowCells itCells (List.replicate j m) := by
   rw [← List.replicate_append_replicate]
   unfold rowCells
   rw [List.map_append, List.flatten_append]
  rw [List.length_replicate, e]
  exact r1
 ·unfold OwnsIt
  rw [List.length_replicate]
  exact r4.old
 ·intro b i e
  have hbl := item_lt e
  refine item_same e (fun q hq u hu hmq => ?_)
  by_cases hb : v.ownBlock = some b
  ·rcases hown'.2 with ⟨rfl, _⟩ | ⟨g, cap, cur, rfl, hbg, hg, _⟩
   ·simp [Value.ownBlock] at hb
   ·obtain rfl : g = b := by simpa [Value.ownBlock] using hb
    obtain ⟨cur', hc', _, hcc⟩ := r4.cells g cur rfl hg
    rw [cell_of_block hc']
    rw [cell_of_block hg] at hu
    rcases hcc (i * 5 + q) with h1 | ⟨h1, h2, h3⟩
    ·rw [h1]; exact hu
    ·have hlen : (rowCells itCells (List.replicate j m)).length = j * 5 := by rw [rowCells_length (n := 5) (fun _ => rfl)]; simp
     rw [h3, show i * 5 + q - n * 5 = (i - n) * 5 + q by omega, row_rep_at m j (i - n) q (by omega) hq]
     exact hmq
  ·have := r2.block b hbl (fun e2 => hb e2.symm)
   exact (World.cell?_of_block (w := w) (a := ⟨b, i * 5 + q, none⟩) this).trans hu
def OwnsLI (w : World) (base : Nat) (v : Value) (l : List Value) : Prop := w.ownsRow base 43 1 v l.length l
theorem info_sli : (Tryz.prog.info? 43).map (fun i => (i.zero, i.size, i.bytes)) = some (some (.slice none 0 0), 1, 24) := by kernel_rfl
theorem app_sliceI {w : World} {ops : Array Oper} {rest : List Oper} {o : Oper} {a : Act} {Q : Exit → Act → World → Prop} (hgd : o.guard = none) (s x : Operand)
  (ho : o.op = .call { callee := .builtin .append, args := #[s, x], argTypes := #[87, 87] }) (base : Nat) (v : Value) (l : List Value) (hs : a.eval s = v) (hown : OwnsLI w base v l)
  (ad : Addr) (y : Value) (hx : a.eval x = .slice (some ad) 1 1) (hnews : w.cell? (ad.add 0) = some y) (h1 : y.oneCell' = true) (hlen : l.length ≤ 20000000) (hbase : base ≤ w.heap.size)
  (h : ∀ v' w', OwnsLI w' base v' (l ++ [y]) → w.grownBy w' v.ownBlock → (v'.ownBlock = v.ownBlock ∨ v'.ownBlock = some w.heap.size) → wpList Tryz.prog ops Q rest (a.put o.dst v') w') : wpList Tryz.prog ops Q (o :: rest) a w := by
 obtain ⟨i0, hi, hz0, hz1, hz2⟩ := info_parts info_sli
 refine wp_app_at hgd s x 87 ho base 43 i0 _ 24 Tryz.underlying87 hi hz0 hz1 hz2 rfl v l.length l hs hown ad y hx hnews h1 (by unfold maxLen; omega) (by omega) hbase ?_
 intro v' w' h1 h2 h3
 refine h v' w' ?_ h2 h3
 unfold OwnsLI
 rw [List.length_append]
 exact h1
def FullI (w : World) (v : Value) (n : Nat) (m : P.It) : Prop := ∃ a c, v = .slice a n c ∧ (n = 0 ∨ ∃ b, a = some ⟨b, 0, none⟩ ∧ ItemsAt w b 0 (List.replicate n m))
theorem FullI.stay {w w' : World} {v : Value} {n : Nat} {m : P.It} (h : FullI w v n m) (hs : MarksStayI m w w') : FullI w' v n m := by
 obtain ⟨a, c, e, h⟩ := h
 refine ⟨a, c, e, ?_⟩
 rcases h with h | ⟨b, e2, h⟩
 ·exact .inl h
 ·refine .inr ⟨b, e2, fun i hi => ?_⟩
  have := h i hi
  rw [List.getElem_replicate] at this ⊢
  rw [Nat.zero_add] at this ⊢
  exact hs b i this
theorem OwnsIt.full {w : World} {base n : Nat} {v : Value} {m : P.It} (h : OwnsIt w base v (List.replicate n m)) : FullI w v n m := by
 obtain ⟨a, c, e, t, -⟩ := OwnsIt.lies h
 rw [List.length_replicate] at e
 refine ⟨a, c, e, ?_⟩
 rcases h.2 with ⟨hv, hx⟩ | ⟨g, cap, cur, hv, _⟩
 ·exact .inl (by simpa using hx)
 ·rcases t with t | ⟨b, o, e2, t⟩
  ·exact .inl (by simpa using congrArg List.length t)
  ·rw [e2] at e
   rw [hv] at e
   obtain ⟨⟨rfl, rfl⟩, -⟩ : (g = b ∧ 0 = o) ∧ _ := by simpa using e
   exact .inr ⟨g, e2, t⟩
theorem FullI.fr {S : Nat → Prop} {w w' : World} {v : Value} {n : Nat} {m : P.It} (h : FullI w v n m) (hf : Fr S w w') (hn : ∀ x, v.ownBlock = some x → ¬ S x) : FullI w' v n m := by
 obtain ⟨a, c, rfl, h⟩ := h
 refine ⟨a, c, rfl, ?_⟩
 rcases h with h | ⟨b, rfl, h⟩
 ·exact .inl h
 ·refine .inr ⟨b, rfl, fun i hi => item_same (h i hi) (fun j _ u hu _ => cell_fr hf hu (hn b rfl))⟩
theorem FullI.lies {w : World} {v : Value} {n : Nat} {m : P.It} (h : FullI w v n m) : ∃ a c, v = .slice a n c ∧ Lies w a (List.replicate n m) := by
 obtain ⟨a, c, e, h⟩ := h
 refine ⟨a, c, e, ?_⟩
 rcases h with rfl | ⟨b, e2, h⟩
 ·exact .inl rfl
 ·exact .inr ⟨b, 0, e2, h⟩
structure MI (w : World) (wb base : Nat) (came : Int) (kT wT kI wI kE wE ps tx tx3 it it3 en en3 : Value) (l l3 : List Value) : Prop where
 wa : WorldAt w wb came kT wT kI wI kE wE ps tx tx3 it it3 en en3
 t : OwnsLI w base it l
 t3 : OwnsLI w base it3 l3
 ne : ∀ g, it.ownBlock = some g → it3.ownBlock ≠ some g
def MISet (wb : Nat) (it it3 : Value) (x : Nat) : Prop := x = wb ∨ it.ownBlock = some x ∨ it3.ownBlock = some x
section
variable {w w' w1 : World} {wb base : Nat} {came : Int} {kT wT kI wI kE wE ps tx tx3 it it3 en en3 v' : Value} {l l3 l' : List Value} {X : Obj}
theorem MI.lt (h : MI w wb base came kT wT kI wI kE wE ps tx tx3 it it3 en en3 l l3) : wb < w.heap.size := (Array.getElem?_eq_some_iff.1 h.wa).1
theorem MI.setLt (h : MI w wb base came kT wT kI wI kE wE ps tx tx3 it it3 en en3 l l3) (x : Nat) (hx : MISet wb it it3 x) : x < w.heap.size := by
 rcases hx with rfl | hx | hx
 ·exact h.lt
 ·exact own_lt h.t hx
 ·exact own_lt h.t3 hx
theorem MI.same (h : MI w wb base came kT wT kI wI kE wE ps tx tx3 it it3 en en3 l l3) (hs : ∀ x, MISet wb it it3 x → w'.heap[x]? = w.heap[x]?) : MI w' wb base came kT wT kI wI kE wE ps tx tx3 it it3 en en3 l l3 :=
 ⟨(hs wb (.inl rfl)).trans h.wa, ownsRow_same h.t (fun g e => hs g (.inr (.inl e))), ownsRow_same h.t3 (fun g e => hs g (.inr (.inr e))), h.ne⟩
theorem MI.below {B : Nat} (h : MI w wb base came kT wT kI wI kE wE ps tx tx3 it it3 en en3 l l3) (hb : Below B w w') (hB : w.heap.size ≤ B) : MI w' wb base came kT wT kI wI kE wE ps tx tx3 it it3 en en3 l l3 := h.same (fun x hx => hb.block x (Nat.lt_of_lt_of_le (h.setLt x hx) hB))
theorem MI.fr {S : Nat → Prop} (h : MI w wb base came kT wT kI wI kE wE ps tx tx3 it it3 en en3 l l3) (hf : Fr S w w') (hn : ∀ x, MISet wb it it3 x → ¬ S x) : MI w' wb base came kT wT kI wI kE wE ps tx tx3 it it3 en en3 l l3 := h.same (fun x hx => hf.block x (h.setLt x hx) (hn x hx))
theorem MI.items {v : Value} {ls : List P.It} {b2 g : Nat} (h : MI w wb base came kT wT kI wI kE wE ps tx tx3 it it3 en en3 l l3) (ho : OwnsIt w b2 v ls) (hg : v.ownBlock = some g) : ¬ MISet wb it it3 g := by
 rintro (rfl | hx | hx)
 ·exact row_neS ho h.wa (by decide) hg
 ·exact rows_ne ho h.t (by decide) hg hx
 ·exact rows_ne ho h.t3 (by decide) hg hx
theorem MI.neRow (h : MI w wb base came kT wT kI wI kE wE ps tx tx3 it it3 en en3 l l3) : it.ownBlock ≠ some wb ∧ it3.ownBlock ≠ some wb := ⟨row_neS h.t h.wa (by decide), row_neS h.t3 h.wa (by decide)⟩
theorem MI.grow1 (h : MI w wb base came kT wT kI wI kE wE ps tx tx3 it it3 en en3 l l3) (o1 : OwnsLI w1 base v' l') (g1 : (w.alloc X).grownBy w1 it.ownBlock) (p1 : v'.ownBlock = it.ownBlock ∨ v'.ownBlock = some (w.alloc X).heap.size) :
  WorldAt w1 wb came kT wT kI wI kE wE ps tx tx3 it it3 en en3 ∧ MI (w1.setCell ⟨wb, 11, none⟩ v') wb base came kT wT kI wI kE wE ps tx tx3 v' it3 en en3 l' l3 ∧ Fr (MISet wb it it3) w (w1.setCell ⟨wb, 11, none⟩ v') ∧ w.heap.size < w1.heap.size ∧ (∀ x, MISet wb v' it3 x → MISet wb it it3 x ∨ w.heap.size ≤ x) := by
 have hsz : (w.alloc X).heap.size = w.heap.size + 1 := by simp
 have e0 : (w.alloc X).heap[wb]? = _ := (Below.heap_alloc _ _ _ h.lt).trans h.wa
 have e1 : w1.heap[wb]? = _ := (g1.block wb (by rw [hsz]; have := h.lt; omega) (fun e => h.neRow.1 e.symm)).trans e0
 have h2a : OwnsLI (w.alloc X) base it3 l3 := World.ownsRow.alloc h.t3 X
 have h2 : OwnsLI w1 base it3 l3 := ownsRow_same h2a (fun g e => g1.block g (own_lt h2a e) (fun e2 => h.ne g e2.symm e))
 have hn1 := row_neS o1 e1 (by decide)
 have hn2 := row_neS h2 e1 (by decide)
 have gs := grown_setCell w1 wb 11 v'
 refine ⟨e1, ⟨heap_setCell_same w1 wb 11 _ _ v' e1, ownsRow_same o1 (fun g e => gs.block g (own_lt o1 e) (fun e2 => hn1 (by rw [e, e2]))), ownsRow_same h2 (fun g e => gs.block g (own_lt h2 e) (fun e2 => hn2 (by rw [e, e2]))), ?_⟩, ?_, ?_, ?_⟩
 ·intro g eg e2
  rcases p1 with p1 | p1
  ·exact h.ne g (by rw [← p1]; exact eg) e2
  ·rw [p1] at eg
   obtain rfl := Option.some.inj eg
   have := own_lt h.t3 e2
   rw [hsz] at this; omega
 ·have f1 : Fr (MISet wb it it3) w w1 := (Fr.below ((Below.refl _ _).alloc (Nat.le_refl _) X)).trans (Fr.grown g1 (fun g e => .inr (.inl e)))
  exact f1.trans (Fr.set w1 wb 11 v' (.inl rfl))
 ·have := g1.size
  omega
 ·rintro x (rfl | hx | hx)
  ·exact .inl (.inl rfl)
  ·rcases p1 with p1 | p1
   ·exact .inl (.inr (.inl (by rw [← p1]; exact hx)))
   ·rw [p1] at hx
    obtain rfl := Option.some.inj hx
    exact .inr (by rw [hsz]; omega)
  ·exact .inl (.inr (.inr hx))
theorem MI.grow3 (h : MI w wb base came kT wT kI wI kE wE ps tx tx3 it it3 en en3 l l3) (o1 : OwnsLI w1 base v' l') (g1 : (w.alloc X).grownBy w1 it3.ownBlock) (p1 : v'.ownBlock = it3.ownBlock ∨ v'.ownBlock = some (w.alloc X).heap.size) :
  WorldAt w1 wb came kT wT kI wI kE wE ps tx tx3 it it3 en en3 ∧ MI (w1.setCell ⟨wb, 12, none⟩ v') wb base came kT wT kI wI kE wE ps tx tx3 it v' en en3 l l' ∧ Fr (MISet wb it it3) w (w1.setCell ⟨wb, 12, none⟩ v') ∧ w.heap.size < w1.heap.size ∧ (∀ x, MISet wb it v' x → MISet wb it it3 x ∨ w.heap.size ≤ x) := by
 have hsz : (w.alloc X).heap.size = w.heap.size + 1 := by simp
 have e0 : (w.alloc X).heap[wb]? = _ := (Below.heap_alloc _ _ _ h.lt).trans h.wa
 have e1 : w1.heap[wb]? = _ := (g1.block wb (by rw [hsz]; have := h.lt; omega) (fun e => h.neRow.2 e.symm)).trans e0
 have h2a : OwnsLI (w.alloc X) base it l := World.ownsRow.alloc h.t X
 have h2 : OwnsLI w1 base it l := ownsRow_same h2a (fun g e => g1.block g (own_lt h2a e) (fun e2 => h.ne g e e2.symm))
 have hn1 := row_neS o1 e1 (by decide)
 have hn2 := row_neS h2 e1 (by decide)
 have gs := grown_setCell w1 wb 12 v'
 refine ⟨e1, ⟨heap_setCell_same w1 wb 12 _ _ v' e1, ownsRow_same h2 (fun g e => gs.block g (own_lt h2 e) (fun e2 => hn2 (by rw [e, e2]))), ownsRow_same o1 (fun g e => gs.block g (own_lt o1 e) (fun e2 => hn1 (by rw [e, e2]))), ?_⟩, ?_, ?_, ?_⟩
 ·intro g eg e2
  rcases p1 with p1 | p1
  ·exact h.ne g eg (by rw [← p1]; exact e2)
  ·rw [p1] at e2
   obtain rfl := Option.some.inj e2
   have := own_lt h.t eg
   rw [hsz] at this; omega
 ·have f1 : Fr (MISet wb it it3) w w1 := (Fr.below ((Below.refl _ _).alloc (Nat.le_refl _) X)).trans (Fr.grown g1 (fun g e => .inr (.inr e)))
  exact f1.trans (Fr.set w1 wb 12 v' (.inl rfl))
 ·have := g1.size
  omega
 ·rintro x (rfl | hx | hx)
  ·exact .inl (.inl rfl)
  ·exact .inl (.inr (.inl hx))
  ·rcases p1 with p1 | p1
   ·exact .inl (.inr (.inr (by rw [← p1]; exact hx)))
   ·rw [p1] at hx
    obtain rfl := Option.some.inj hx
    exact .inr (by rw [hsz]; omega)
end
end Go.Proofs.YtjmacegibchplaaGreatDoor