import Derived.Test.YtjmacegibchplaaGreatDoorLawV
import Derived.Test.YtjmacegibchplaaGreatDoorLcA
namespace Go.Proofs.YtjmacegibchplaaGreatDoor
open Go.RowKit Go.Maps Go.WideMaps
set_option linter.unusedVariables false
def enMk (k : Nat) : En := ⟨⟨#[]⟩, -1 - (k : Int), ⟨#[]⟩⟩
def MarksStayE (m : En) (w w' : World) : Prop := ∀ b i, EntAt w b (i * 3) m → EntAt w' b (i * 3) m
theorem MarksStayE.trans {m : En} {a b c : World} (h : MarksStayE m a b) (k : MarksStayE m b c) : MarksStayE m a c := fun x i e => k x i (h x i e)
theorem ent_lt {w : World} {b p : Nat} {m : En} (h : EntAt w b p m) : b < w.heap.size := block_lt h.1
theorem ent_same {w w' : World} {b p : Nat} {m : En} (h : EntAt w b p m) (hc : ∀ j, j < 3 → ∀ u, w.cell? ⟨b, p + j, none⟩ = some u → (enCells m)[j]? = some u → w'.cell? ⟨b, p + j, none⟩ = some u) : EntAt w' b p m := by
 obtain ⟨h0, h1, h2⟩ := h
 exact ⟨by simpa using hc 0 (by omega) _ (by simpa using h0) rfl, hc 1 (by omega) _ h1 rfl, hc 2 (by omega) _ h2 rfl⟩
theorem MarksStayE.below {m : En} {w w' : World} (h : Below w.heap.size w w') : MarksStayE m w w' := fun b i e => ent_same e (fun j _ u hu _ => (h.cell (p := ⟨b, i * 3 + j, none⟩) (ent_lt e)).trans hu)
theorem row_repE_at (m : En) (n i j : Nat) (hi : i < n) (hj : j < 3) : (rowCells enCells (List.replicate n m))[i * 3 + j]? = (enCells m)[j]? := by
 have := rowCells_at (enc := enCells) (n := 3) (fun _ => rfl) (List.replicate n m) i (by simpa using hi) j hj
 rw [List.getElem_replicate] at this
 exact this
theorem app_markE {w : World} {ops : Array Oper} {rest : List Oper} {o : Oper} {a : Act} {Q : Exit → Act → World → Prop} (hgd : o.guard = none) (s x : Operand)
  (ho : o.op = .call { callee := .builtin .append, args := #[s, x], argTypes := #[22, 22] }) (base : Nat) (v : Value) (n : Nat) (m : En) (hs : a.eval s = v) (hown : OwnsE w base v (List.replicate n m))
  (ad : Addr) (j : Nat) (hj : 0 < j) (hj3 : j ≤ 3) (hx : a.eval x = .slice (some ad) j j) (hnews : ∀ i u, (rowCells enCells (List.replicate j m))[i]? = some u → w.cell? (ad.add i) = some u) (hlen : n ≤ 2000000) (hbase : base ≤ w.heap.size)
  (h : ∀ v' w', OwnsE w' base v' (List.replicate (n + j) m) → w.grownBy w' v.ownBlock → (v'.ownBlock = v.ownBlock ∨ v'.ownBlock = some w.heap.size) → OwnsE w' base v (List.replicate n m) → MarksStayE m w w' → wpList Tryz.prog ops Q rest (a.put o.dst v') w') : wpList Tryz.prog ops Q (o :: rest) a w := by
 obtain ⟨i0, hi, hz0, hz1, hz2⟩ := info_parts info_ent
 refine wpList_plain hgd fun K' hK' => ?_
 have hown' : w.ownsRow base 32 3 v n (rowCells enCells (List.replicate n m)) := by
  have := hown
  unfold OwnsE at this
  rw [List.length_replicate] at this
  exact this
 obtain ⟨v', w', hrun, r1, r2, r3, r4⟩ := run_append_two (P := Tryz.prog) w base 22 o.type 32 i0 _ 3 40 Tryz.underlying22 hi hz0 hz1 hz2 rfl (by decide) v n (rowCells enCells (List.replicate n m)) hown' ad j j hj (rowCells enCells (List.replicate j m)) (by rw [rowCells_length (n := 3) (fun _ => rfl)]; simp) hnews (enCells_one _) (by unfold maxLen; omega) (by omega) hbase
 unfold Oper.wp
 simp [execOp, ho, resolve, invoke, builtin, hs, hx, hrun, Result.andThen]
 refine hK' _ _ (h v' w' ?_ r2 r3 ?_ ?_)
 ·unfold OwnsE
  have e : rowCells enCells (List.replicate (n + j) m) = rowCells enCells (List.replicate n m) ++ rowCells enCells (List.replicate j m) := by
   rw [← List.replicate_append_replicate]
   unfold rowCells
   rw [List.map_append, List.flatten_append]
  rw [List.length_replicate, e]
  exact r1
 ·unfold OwnsE
  rw [List.length_replicate]
  exact r4.old
 ·intro b i e
  have hbl := ent_lt e
  refine ent_same e (fun q hq u hu hmq => ?_)
  by_cases hb : v.ownBlock = some b
  ·rcases hown'.2 with ⟨rfl, _⟩ | ⟨g, cap, cur, rfl, hbg, hg, _⟩
   ·simp [Value.ownBlock] at hb
   ·obtain rfl : g = b := by simpa [Value.ownBlock] using hb
    obtain ⟨cur', hc', _, hcc⟩ := r4.cells g cur rfl hg
    rw [cell_of_block hc']
    rw [cell_of_block hg] at hu
    rcases hcc (i * 3 + q) with h1 | ⟨h1, h2, h3⟩
    ·rw [h1]; exact hu
    ·have hlen : (rowCells enCells (List.replicate j m)).length = j * 3 := by rw [rowCells_length (n := 3) (fun _ => rfl)]; simp
     rw [h3, show i * 3 + q - n * 3 = (i - n) * 3 + q by omega, row_repE_at m j (i - n) q (by omega) hq]
     exact hmq
  ·have := r2.block b hbl (fun e2 => hb e2.symm)
   exact (World.cell?_of_block (w := w) (a := ⟨b, i * 3 + q, none⟩) this).trans hu
def OwnsLE (w : World) (base : Nat) (v : Value) (l : List Value) : Prop := w.ownsRow base 22 1 v l.length l
theorem info_sle : (Tryz.prog.info? 22).map (fun i => (i.zero, i.size, i.bytes)) = some (some (.slice none 0 0), 1, 24) := by kernel_rfl
theorem app_sliceE {w : World} {ops : Array Oper} {rest : List Oper} {o : Oper} {a : Act} {Q : Exit → Act → World → Prop} (hgd : o.guard = none) (s x : Operand)
  (ho : o.op = .call { callee := .builtin .append, args := #[s, x], argTypes := #[88, 88] }) (base : Nat) (v : Value) (l : List Value) (hs : a.eval s = v) (hown : OwnsLE w base v l)
  (ad : Addr) (y : Value) (hx : a.eval x = .slice (some ad) 1 1) (hnews : w.cell? (ad.add 0) = some y) (h1 : y.oneCell' = true) (hlen : l.length ≤ 20000000) (hbase : base ≤ w.heap.size)
  (h : ∀ v' w', OwnsLE w' base v' (l ++ [y]) → w.grownBy w' v.ownBlock → (v'.ownBlock = v.ownBlock ∨ v'.ownBlock = some w.heap.size) → wpList Tryz.prog ops Q rest (a.put o.dst v') w') : wpList Tryz.prog ops Q (o :: rest) a w := by
 obtain ⟨i0, hi, hz0, hz1, hz2⟩ := info_parts info_sle
 refine wp_app_at hgd s x 88 ho base 22 i0 _ 24 Tryz.underlying88 hi hz0 hz1 hz2 rfl v l.length l hs hown ad y hx hnews h1 (by unfold maxLen; omega) (by omega) hbase ?_
 intro v' w' h1 h2 h3
 refine h v' w' ?_ h2 h3
 unfold OwnsLE
 rw [List.length_append]
 exact h1
def FullE (w : World) (v : Value) (n : Nat) (m : En) : Prop := ∃ a c, v = .slice a n c ∧ (n = 0 ∨ ∃ b, a = some ⟨b, 0, none⟩ ∧ EntsAt w b 0 (List.replicate n m))
theorem FullE.stay {w w' : World} {v : Value} {n : Nat} {m : En} (h : FullE w v n m) (hs : MarksStayE m w w') : FullE w' v n m := by
 obtain ⟨a, c, e, h⟩ := h
 refine ⟨a, c, e, ?_⟩
 rcases h with h | ⟨b, e2, h⟩
 ·exact .inl h
 ·refine .inr ⟨b, e2, fun i hi => ?_⟩
  have := h i hi
  rw [List.getElem_replicate] at this ⊢
  rw [Nat.zero_add] at this ⊢
  exact hs b i this
theorem OwnsE.full {w : World} {base n : Nat} {v : Value} {m : En} (h : OwnsE w base v (List.replicate n m)) : FullE w v n m := by
 obtain ⟨a, c, e, t, -⟩ := OwnsE.lies h
 rw [List.length_replicate] at e
 refine ⟨a, c, e, ?_⟩
 rcases h.2 with ⟨hv, hx⟩ | ⟨g, cap, cur, hv, _⟩
 ·exact .inl (by simpa using hx)
 ·rcases t with t | ⟨b, o, e2, t⟩
  ·exact .inl (by simpa using congrArg List.length t)
  ·rw [e2] at e
   rw [hv] at e
   obtain ⟨⟨rfl, rfl⟩, -⟩ : (g = b ∧ 0 = o) ∧ _ := by simpa using e
   exact .inr ⟨g, e2, t⟩
theorem FullE.fr {S : Nat → Prop} {w w' : World} {v : Value} {n : Nat} {m : En} (h : FullE w v n m) (hf : Fr S w w') (hn : ∀ x, v.ownBlock = some x → ¬ S x) : FullE w' v n m := by
 obtain ⟨a, c, rfl, h⟩ := h
 refine ⟨a, c, rfl, ?_⟩
 rcases h with h | ⟨b, rfl, h⟩
 ·exact .inl h
 ·refine .inr ⟨b, rfl, fun i hi => ent_same (h i hi) (fun j _ u hu _ => cell_fr hf hu (hn b rfl))⟩
theorem FullE.lies {w : World} {v : Value} {n : Nat} {m : En} (h : FullE w v n m) : ∃ a c, v = .slice a n c ∧ LiesE w a (List.replicate n m) := by
 obtain ⟨a, c, e, h⟩ := h
 refine ⟨a, c, e, ?_⟩
 rcases h with rfl | ⟨b, e2, h⟩
 ·exact .inl rfl
 ·exact .inr ⟨b, 0, e2, h⟩
structure ME (w : World) (wb base : Nat) (came : Int) (kT wT kI wI kE wE ps tx tx3 it it3 en en3 : Value) (l l3 : List Value) : Prop where
 wa : WorldAt w wb came kT wT kI wI kE wE ps tx tx3 it it3 en en3
 t : OwnsLE w base en l
 t3 : OwnsLE w base en3 l3
 ne : ∀ g, en.ownBlock = some g → en3.ownBlock ≠ some g
def MESet (wb : Nat) (en en3 : Value) (x : Nat) : Prop := x = wb ∨ en.ownBlock = some x ∨ en3.ownBlock = some x
section
variable {w w' w1 : World} {wb base : Nat} {came : Int} {kT wT kI wI kE wE ps tx tx3 it it3 en en3 v' : Value} {l l3 l' : List Value} {X : Obj}
theorem ME.lt (h : ME w wb base came kT wT kI wI kE wE ps tx tx3 it it3 en en3 l l3) : wb < w.heap.size := (Array.getElem?_eq_some_iff.1 h.wa).1
theorem ME.setLt (h : ME w wb base came kT wT kI wI kE wE ps tx tx3 it it3 en en3 l l3) (x : Nat) (hx : MESet wb en en3 x) : x < w.heap.size := by
 rcases hx with rfl | hx | hx
 ·exact h.lt
 ·exact own_lt h.t hx
 ·exact own_lt h.t3 hx
theorem ME.same (h : ME w wb base came kT wT kI wI kE wE ps tx tx3 it it3 en en3 l l3) (hs : ∀ x, MESet wb en en3 x → w'.heap[x]? = w.heap[x]?) : ME w' wb base came kT wT kI wI kE wE ps tx tx3 it it3 en en3 l l3 :=
 ⟨(hs wb (.inl rfl)).trans h.wa, ownsRow_same h.t (fun g e => hs g (.inr (.inl e))), ownsRow_same h.t3 (fun g e => hs g (.inr (.inr e))), h.ne⟩
theorem ME.below {B : Nat} (h : ME w wb base came kT wT kI wI kE wE ps tx tx3 it it3 en en3 l l3) (hb : Below B w w') (hB : w.heap.size ≤ B) : ME w' wb base came kT wT kI wI kE wE ps tx tx3 it it3 en en3 l l3 := h.same (fun x hx => hb.block x (Nat.lt_of_lt_of_le (h.setLt x hx) hB))
theorem ME.fr {S : Nat → Prop} (h : ME w wb base came kT wT kI wI kE wE ps tx tx3 it it3 en en3 l l3) (hf : Fr S w w') (hn : ∀ x, MESet wb en en3 x → ¬ S x) : ME w' wb base came kT wT kI wI kE wE ps tx tx3 it it3 en en3 l l3 := h.same (fun x hx => hf.block x (h.setLt x hx) (hn x hx))
theorem ME.ents {v : Value} {ls : List En} {b2 g : Nat} (h : ME w wb base came kT wT kI wI kE wE ps tx tx3 it it3 en en3 l l3) (ho : OwnsE w b2 v ls) (hg : v.ownBlock = some g) : ¬ MESet wb en en3 g := by
 rintro (rfl | hx | hx)
 ·exact row_neS ho h.wa (by decide) hg
 ·exact rows_ne ho h.t (by decide) hg hx
 ·exact rows_ne ho h.t3 (by decide) hg hx
theorem ME.neRow (h : ME w wb base came kT wT kI wI kE wE ps tx tx3 it it3 en en3 l l3) : en.ownBlock ≠ some wb ∧ en3.ownBlock ≠ some wb := ⟨row_neS h.t h.wa (by decide), row_neS h.t3 h.wa (by decide)⟩
theorem ME.grow1 (h : ME w wb base came kT wT kI wI kE wE ps tx tx3 it it3 en en3 l l3) (o1 : OwnsLE w1 base v' l') (g1 : (w.alloc X).grownBy w1 en.ownBlock) (p1 : v'.ownBlock = en.ownBlock ∨ v'.ownBlock = some (w.alloc X).heap.size) :
  WorldAt w1 wb came kT wT kI wI kE wE ps tx tx3 it it3 en en3 ∧ ME (w1.setCell ⟨wb, 13, none⟩ v') wb base came kT wT kI wI kE wE ps tx tx3 it it3 v' en3 l' l3 ∧ Fr (MESet wb en en3) w (w1.setCell ⟨wb, 13, none⟩ v') ∧ w.heap.size < w1.heap.size ∧ (∀ x, MESet wb v' en3 x → MESet wb en en3 x ∨ w.heap.size ≤ x) := by
 have hsz : (w.alloc X).heap.size = w.heap.size + 1 := by simp
 have e0 : (w.alloc X).heap[wb]? = _ := (Below.heap_alloc _ _ _ h.lt).trans h.wa
 have e1 : w1.heap[wb]? = _ := (g1.block wb (by rw [hsz]; have := h.lt; omega) (fun e => h.neRow.1 e.symm)).trans e0
 have h2a : OwnsLE (w.alloc X) base en3 l3 := World.ownsRow.alloc h.t3 X
 have h2 : OwnsLE w1 base en3 l3 := ownsRow_same h2a (fun g e => g1.block g (own_lt h2a e) (fun e2 => h.ne g e2.symm e))
 have hn1 := row_neS o1 e1 (by decide)
 have hn2 := row_neS h2 e1 (by decide)
 have gs := grown_setCell w1 wb 13 v'
 refine ⟨e1, ⟨heap_setCell_same w1 wb 13 _ _ v' e1, ownsRow_same o1 (fun g e => gs.block g (own_lt o1 e) (fun e2 => hn1 (by rw [e, e2]))), ownsRow_same h2 (fun g e => gs.block g (own_lt h2 e) (fun e2 => hn2 (by rw [e, e2]))), ?_⟩, ?_, ?_, ?_⟩
 ·intro g eg e2
  rcases p1 with p1 | p1
  ·exact h.ne g (by rw [← p1]; exact eg) e2
  ·rw [p1] at eg
   obtain rfl := Option.some.inj eg
   have := own_lt h.t3 e2
   rw [hsz] at this; omega
 ·have f1 : Fr (MESet wb en en3) w w1 := (Fr.below ((Below.refl _ _).alloc (Nat.le_refl _) X)).trans (Fr.grown g1 (fun g e => .inr (.inl e)))
  exact f1.trans (Fr.set w1 wb 13 v' (.inl rfl))
 ·have := g1.size
  omega
 ·rintro x (rfl | hx | hx)
  ·exact .inl (.inl rfl)
  ·rcases p1 with p1 | p1
   ·exact .inl (.inr (.inl (by rw [← p1]; exact hx)))
   ·rw [p1] at hx
    obtain rfl := Option.some.inj hx
    exact .inr (by rw [hsz]; omega)
  ·exact .inl (.inr (.inr hx))
theorem ME.grow3 (h : ME w wb base came kT wT kI wI kE wE ps tx tx3 it it3 en en3 l l3) (o1 : OwnsLE w1 base v' l') (g1 : (w.alloc X).grownBy w1 en3.ownBlock) (p1 : v'.ownBlock = en3.ownBlock ∨ v'.ownBlock = some (w.alloc X).heap.size) :
  WorldAt w1 wb came kT wT kI wI kE wE ps tx tx3 it it3 en en3 ∧ ME (w1.setCell ⟨wb, 14, none⟩ v') wb base came kT wT kI wI kE wE ps tx tx3 it it3 en v' l l' ∧ Fr (MESet wb en en3) w (w1.setCell ⟨wb, 14, none⟩ v') ∧ w.heap.size < w1.heap.size ∧ (∀ x, MESet wb en v' x → MESet wb en en3 x ∨ w.heap.size ≤ x) := by
 have hsz : (w.alloc X).heap.size = w.heap.size + 1 := by simp
 have e0 : (w.alloc X).heap[wb]? = _ := (Below.heap_alloc _ _ _ h.lt).trans h.wa
 have e1 : w1.heap[wb]? = _ := (g1.block wb (by rw [hsz]; have := h.lt; omega) (fun e => h.neRow.2 e.symm)).trans e0
 have h2a : OwnsLE (w.alloc X) base en l := World.ownsRow.alloc h.t X
 have h2 : OwnsLE w1 base en l := ownsRow_same h2a (fun g e => g1.block g (own_lt h2a e) (fun e2 => h.ne g e e2.symm))
 have hn1 := row_neS o1 e1 (by decide)
 have hn2 := row_neS h2 e1 (by decide)
 have gs := grown_setCell w1 wb 14 v'
 refine ⟨e1, ⟨heap_setCell_same w1 wb 14 _ _ v' e1, ownsRow_same h2 (fun g e => gs.block g (own_lt h2 e) (fun e2 => hn2 (by rw [e, e2]))), ownsRow_same o1 (fun g e => gs.block g (own_lt o1 e) (fun e2 => hn1 (by rw [e, e2]))), ?_⟩, ?_, ?_, ?_⟩
 ·intro g eg e2
  rcases p1 with p1 | p1
  ·exact h.ne g eg (by rw [← p1]; exact e2)
  ·rw [p1] at e2
   obtain rfl := Option.some.inj e2
   have := own_lt h.t eg
   rw [hsz] at this; omega
 ·have f1 : Fr (MESet wb en en3) w w1 := (Fr.below ((Below.refl _ _).alloc (Nat.le_refl _) X)).trans (Fr.grown g1 (fun g e => .inr (.inr e)))
  exact f1.trans (Fr.set w1 wb 14 v' (.inl rfl))
 ·have := g1.size
  omega
 ·rintro x (rfl | hx | hx)
  ·exact .inl (.inl rfl)
  ·exact .inl (.inr (.inl hx))
  ·rcases p1 with p1 | p1
   ·exact .inl (.inr (.inr (by rw [← p1]; exact hx)))
   ·rw [p1] at hx
    obtain rfl := Option.some.inj hx
    exact .inr (by rw [hsz]; omega)
end
theorem OwnsE.below {w w' : World} {base : Nat} {v : Value} {l : List En} (h : OwnsE w base v l) (hb : Below w.heap.size w w') : OwnsE w' base v l :=
 World.ownsRow.kept (row := none) h ⟨hb.os, hb.tape, hb.output, hb.size, fun k hk _ => hb.block k hk⟩ (by cases v.ownBlock <;> simp)
theorem OwnsE.put {w : World} {base g k : Nat} {v : Value} {l : List En} (h : OwnsE w base v l) (hg : v.ownBlock = some g) (hk : k < l.length) (m : En) : OwnsE (w.setCells g (k * 3) (enCells m)) base v (l.set k m) := by
 rcases h.2 with ⟨rfl, _⟩ | ⟨g', cap, cur, rfl, hb, hgg, q1, q2, q3, q4⟩
 ·simp [Value.ownBlock] at hg
 ·obtain rfl : g' = g := by simpa [Value.ownBlock] using hg
  obtain ⟨a, c, e, t, -⟩ := OwnsE.lies h
  obtain ⟨rfl, rfl⟩ : some ⟨g', 0, none⟩ = a ∧ cap = c := by simpa using e
  have hit : EntsAt w g' 0 l := by
   rcases t with t | ⟨b, o, e2, t⟩
   ·subst t; simp at hk
   ·obtain ⟨rfl, rfl⟩ : g' = b ∧ 0 = o := by simpa using e2
    exact t
  have hrow := hit.row.store enCells_len k hk m
  rw [Nat.zero_add] at hrow
  have h1 := heap_setCell_same w g' (k * 3) _ _ (.string m.path) hgg
  have h2 := heap_setCell_same _ g' (k * 3 + 1) _ _ (.int .i64 m.kind) h1
  have h3 := heap_setCell_same _ g' (k * 3 + 2) _ _ (.string m.data) h2
  have hlen : (rowCells enCells (l.set k m)).length = l.length * 3 := by rw [rowCells_length (n := 3) enCells_len]; simp
  obtain ⟨W, hW⟩ : ∃ W, w.setCells g' (k * 3) (enCells m) = W := ⟨_, rfl⟩
  obtain ⟨cur', hc', hsz'⟩ : ∃ cur', W.heap[g']? = some (.cells cur' 32 (0, 0)) ∧ cur'.size = cur.size := ⟨_, by rw [← hW]; exact h3, by simp⟩
  rw [hW] at hrow ⊢
  clear h1 h2 h3 hW
  refine ⟨by rw [hlen]; simp, .inr ⟨g', cap, cur', by simp, hb, hc', by simpa using q1, q2, by rw [hsz']; exact q3, ?_⟩⟩
  apply List.ext_getElem?
  intro j
  by_cases hj : j < l.length * 3
  ·obtain ⟨u, hu, hc⟩ := hrow.cell enCells_len j (by simpa using hj)
   rw [Nat.zero_add, cell_of_block hc'] at hc
   rw [hu, List.getElem?_take_of_lt (by simpa using hj)]
   simpa using hc
  ·rw [List.getElem?_eq_none (by simp; omega), List.getElem?_eq_none (by omega)]
def mkToE (m : En) (ls : List En) (k : Nat) : List En := List.replicate k m ++ ls.drop k
theorem mkToE_len (m : En) (ls : List En) (k : Nat) (h : k ≤ ls.length) : (mkToE m ls k).length = ls.length := by simp [mkToE]; omega
theorem mkToE_set (m : En) (ls : List En) (k : Nat) (h : k < ls.length) : (mkToE m ls k).set k m = mkToE m ls (k + 1) := by
 unfold mkToE
 rw [List.set_append_right _ _ (by simp), List.length_replicate, Nat.sub_self, List.drop_eq_getElem_cons h, List.set_cons_zero, List.replicate_succ']
 simp
theorem mkToE_all (m : En) (ls : List En) : mkToE m ls ls.length = List.replicate ls.length m := by simp [mkToE]
set_option maxRecDepth 100000 in
set_option maxHeartbeats 4000000 in
theorem markEntries_any {wb base : Nat} {came : Int} {kT wT kI wI kE wE ps tx tx3 it it3 en en3 : Value} {l l3 : List Value} (v : Value) (ls : List En) (w : World) (h : ME w wb base came kT wT kI wI kE wE ps tx tx3 it it3 en en3 l l3) (ho : OwnsE w base v ls)
  (hl : l.length ≤ 5000000) (hl3 : l3.length ≤ 15000000) (hn : ls.length ≤ 1200000) (hbase : base ≤ w.heap.size) :
  Calls Tryz.prog 168 #[.pointer (some ⟨wb, 0, none⟩), v] w fun e w' => e = .returned (.tuple #[]) ∧ ∃ v1 v2 v3 en' en3', ME w' wb base came kT wT kI wI kE wE ps tx tx3 it it3 en' en3' (l ++ [v]) (l3 ++ [v1, v2, v3]) ∧
   (FullE w' v ls.length (enMk l.length) ∧ FullE w' v1 (ls.length + 1) (enMk l.length) ∧ FullE w' v2 (ls.length + 2) (enMk l.length) ∧ FullE w' v3 (ls.length + 3) (enMk l.length)) ∧ Fr (fun x => MESet wb en en3 x ∨ v.ownBlock = some x) w w' ∧ (∀ x, MESet wb en' en3' x → MESet wb en en3 x ∨ w.heap.size ≤ x) ∧
   (∀ x, v1.ownBlock = some x ∨ v2.ownBlock = some x ∨ v3.ownBlock = some x → v.ownBlock = some x ∨ w.heap.size ≤ x) ∧
   (∀ x, v.ownBlock = some x ∨ v1.ownBlock = some x ∨ v2.ownBlock = some x ∨ v3.ownBlock = some x → ¬ MESet wb en' en3' x ∧ x < w'.heap.size) := by
 obtain ⟨at', ct, etx⟩ := row_shape h.t
 subst etx
 obtain ⟨at3, ct3, etx3⟩ := row_shape h.t3
 subst etx3
 have k9 := cell_of_block (j := 13) h.wa
 simp at k9
 have hwK : IntKind.i64.wrap (-1 - (l.length : Int)) = -1 - (l.length : Int) := by rw [IntKind.wrap_i64]; omega
 obtain ⟨av, cv, ev⟩ := row_shape ho
 subst ev
 have hb1 : Below w.heap.size w (w.alloc (.cells #[.string ⟨#[]⟩, .int .i64 (-1 - (l.length : Int)), .string ⟨#[]⟩] 32)) := (Below.refl _ _).alloc (Nat.le_refl _) _
 have hmb := heap_alloc_new w (.cells #[.string ⟨#[]⟩, .int .i64 (-1 - (l.length : Int)), .string ⟨#[]⟩] 32)
 obtain ⟨m, hm⟩ : ∃ m, m = enMk l.length := ⟨_, rfl⟩
 have hVw : ∀ x, (Value.slice av ls.length cv).ownBlock = some x → x < w.heap.size := fun x hx => own_lt ho hx
 have h1 := h.below hb1 (Nat.le_refl _)
 have ho1 := OwnsE.below ho hb1
 have hbs1 := hb1.size
 obtain ⟨W1, hW1⟩ : ∃ W1, w.alloc (.cells #[.string ⟨#[]⟩, .int .i64 (-1 - (l.length : Int)), .string ⟨#[]⟩] 32) = W1 := ⟨_, rfl⟩
 have hg1 : w.heap.size < W1.heap.size := by rw [← hW1]; simp
 rw [hW1] at hb1 hmb h1 ho1 hbs1
 have Hw1 := hide (And.intro h1 (And.intro ho1 hb1))
 have Hmb := hide hmb
 have HW1 := hide hW1
 clear h ho h1 ho1 hb1 hmb hW1
 rw [← hm]
 have Hm := hide hm
 clear hm
 go_enter Tryz.func168, Tryz.ntmps168
 go_wp2_with fail
 rw [unhide HW1]
 clear k9
 go_loopw [5] (fun i wr => ∃ k : Nat, k ≤ ls.length ∧ i = .int .i64 k ∧ OwnsE wr base (.slice av ls.length cv) (mkToE m ls k) ∧ Fr (fun x => (Value.slice av ls.length cv).ownBlock = some x) W1 wr) (fun i _ => ls.length - (intOf i).toNat)
 case atStart => exact ⟨0, by omega, rfl, (unhide Hw1).2.1, Fr.below (Below.refl _ _)⟩
 case round =>
  obtain ⟨k, hk, rfl, hoL, hfr⟩ := hrel
  by_cases hlt : k < ls.length
  ·have q1 : (k : Int) < (ls.length : Int) := by omega
   have hkl : k < (mkToE m ls k).length := by rw [mkToE_len m ls k hk]; exact hlt
   obtain ⟨g, hgb, cap, e1, curg, hgg⟩ : ∃ g, (Value.slice av ls.length cv).ownBlock = some g ∧ ∃ cap, Value.slice av ls.length cv = .slice (some ⟨g, 0, none⟩) ls.length cap ∧ ∃ cur, wr.heap[g]? = some (.cells cur 32 (0, 0)) := by
    rcases hoL.2 with ⟨hv, hx⟩ | ⟨g, cap, cur, hv, _, hgg, _⟩
    ·rw [mkToE_len m ls k hk] at hx; omega
    ·exact ⟨g, by rw [hv]; rfl, cap, by rw [hv, mkToE_len m ls k hk], cur, hgg⟩
   obtain ⟨rfl, rfl⟩ : av = some ⟨g, 0, none⟩ ∧ cv = cap := by simpa using e1
   obtain ⟨a2, c2, e2, t2, -⟩ := OwnsE.lies hoL
   rw [mkToE_len m ls k hk] at e2
   obtain ⟨rfl, rfl⟩ : some ⟨g, 0, none⟩ = a2 ∧ cv = c2 := by simpa using e2
   have hit : EntsAt wr g 0 (mkToE m ls k) := by
    rcases t2 with t2 | ⟨b, o, e3, t2⟩
    ·rw [t2] at hkl; simp at hkl
    ·obtain ⟨rfl, rfl⟩ : g = b ∧ 0 = o := by simpa using e3
     exact t2
   obtain ⟨d0, d1, d2⟩ := hit k hkl
   simp only [Nat.zero_add] at d0 d1 d2
   have hfz := fun j => free_block (j := j) hgg
   have hgl := (Array.getElem?_eq_some_iff.1 hgg).1
   have hgw := hVw g hgb
   have hmr := (hfr.block w.heap.size hg1 (fun e => by have := hVw _ e; omega)).trans (unhide Hmb)
   have x0 := cell_of_block (j := 0) hmr
   have x1 := cell_of_block (j := 1) hmr
   have x2 := cell_of_block (j := 2) hmr
   simp at x0 x1 x2
   have hnew := OwnsE.put hoL hgb hkl m
   rw [mkToE_set m ls k hlt] at hnew
   have hf2 : Fr (fun x => (Value.slice (some ⟨g, 0, none⟩) ls.length cv).ownBlock = some x) W1 (wr.setCells g (k * 3) (enCells m)) := by
    rw [set3]
    exact ((hfr.trans (Fr.set wr g _ _ hgb)).trans (Fr.set _ g _ _ hgb)).trans (Fr.set _ g _ _ hgb)
   rw [set3] at hnew hf2
   have Hz := hide (And.intro hnew hf2)
   rw [unhide Hm] at Hz
   unfold enMk at Hz
   simp only at Hz
   clear hnew hf2 hoL hfr hgg e1 e2 hgb hit t2 hmr
   generalize (mkToE m ls k)[k]'_ = yy at *
   obtain ⟨y0, y1, y2⟩ := yy
   simp only at d0 d1 d2
   go_wp2_with fail
   exact ⟨⟨k + 1, by omega, by go_num, by rw [unhide Hm]; exact (unhide Hz).1, (unhide Hz).2⟩, by simp [intOf]; omega⟩
  ·obtain rfl : k = ls.length := by omega
   rw [mkToE_all] at hoL
   obtain ⟨h1, ho1, hb1⟩ := unhide Hw1
   have hVm : ∀ x, (Value.slice av ls.length cv).ownBlock = some x → ¬ MESet wb (.slice at' l.length ct) (.slice at3 l3.length ct3) x := fun x hx => h1.ents ho1 hx
   have hsz1 := hfr.size
   have hmr := (hfr.block w.heap.size hg1 (fun e => by have := hVw _ e; omega)).trans (unhide Hmb)
   have x0 := cell_of_block (j := 0) hmr
   have x1 := cell_of_block (j := 1) hmr
   have x2 := cell_of_block (j := 2) hmr
   simp at x0 x1 x2
   have hwl : w.heap.size < wr.heap.size := by omega
   have Hmr := hide hmr
   clear hmr
   have hbsr : base ≤ wr.heap.size := by omega
   have Hw2 := hide (And.intro hfr (And.intro hVm hb1))
   clear hfr hVm h1 ho1 hb1
   go_wp2_with (at_builtin; refine app_markE rfl (.tmp 26) (.tmp 28) rfl base _ ls.length m rfl (World.ownsRow.alloc hoL _) ⟨wr.heap.size, 0, none⟩ 1 (by decide) (by decide) rfl ?qa ?qb ?qc ?_)
   case qa =>
    intro i u hu
    have hbk := heap_alloc_new wr (.cells #[.string ⟨#[]⟩, .int .i64 (-1 - (l.length : Int)), .string ⟨#[]⟩] 32)
    have e : rowCells enCells (List.replicate 1 (enMk l.length)) = [.string ⟨#[]⟩, .int .i64 (-1 - (l.length : Int)), .string ⟨#[]⟩] := rfl
    rw [add_off, Nat.zero_add, cell_of_block hbk]
    rw [unhide Hm, e] at hu
    simpa using hu
   case qb => omega
   case qc => simp; omega
   intro v1 W2 o1 gr1 p1 oV2 st1
   have hsz2 : wr.heap.size < W2.heap.size := by have := gr1.size; simp at this; omega
   have hmr2 : W2.heap[w.heap.size]? = _ := (gr1.block w.heap.size (by simp; omega) (fun e => by have := hVw _ e.symm; omega)).trans ((Below.heap_alloc _ _ _ (show w.heap.size < wr.heap.size by omega)).trans (unhide Hmr))
   have z02 := cell_of_block (j := 0) hmr2
   have z12 := cell_of_block (j := 1) hmr2
   have z22 := cell_of_block (j := 2) hmr2
   simp at z02 z12 z22
   have Hmr2 := hide hmr2
   clear hmr2
   have Hg1 := hide (And.intro o1 (And.intro gr1 (And.intro p1 st1)))
   clear o1 gr1 p1 st1 hoL
   go_wp2_with (at_builtin; refine app_markE rfl (.tmp 30) (.tmp 33) rfl base _ ls.length m rfl (World.ownsRow.alloc oV2 _) ⟨W2.heap.size, 0, none⟩ 2 (by decide) (by decide) rfl ?qa ?qb ?qc ?_)
   case qa =>
    intro i u hu
    have hbk := heap_alloc_new W2 (.cells #[.string ⟨#[]⟩, .int .i64 (-1 - (l.length : Int)), .string ⟨#[]⟩, .string ⟨#[]⟩, .int .i64 (-1 - (l.length : Int)), .string ⟨#[]⟩] 32)
    have e : rowCells enCells (List.replicate 2 (enMk l.length)) = [.string ⟨#[]⟩, .int .i64 (-1 - (l.length : Int)), .string ⟨#[]⟩, .string ⟨#[]⟩, .int .i64 (-1 - (l.length : Int)), .string ⟨#[]⟩] := rfl
    rw [add_off, Nat.zero_add, cell_of_block hbk]
    rw [unhide Hm, e] at hu
    simpa using hu
   case qb => omega
   case qc => simp; omega
   intro v2 W3 o2 gr2 p2 oV3 st2
   have hsz3 : W2.heap.size < W3.heap.size := by have := gr2.size; simp at this; omega
   have hmr3 : W3.heap[w.heap.size]? = _ := (gr2.block w.heap.size (by simp; omega) (fun e => by have := hVw _ e.symm; omega)).trans ((Below.heap_alloc _ _ _ (show w.heap.size < W2.heap.size by omega)).trans (unhide Hmr2))
   have z03 := cell_of_block (j := 0) hmr3
   have z13 := cell_of_block (j := 1) hmr3
   have z23 := cell_of_block (j := 2) hmr3
   simp at z03 z13 z23
   have Hmr3 := hide hmr3
   clear hmr3
   have Hg2 := hide (And.intro o2 (And.intro gr2 (And.intro p2 st2)))
   clear o2 gr2 p2 st2 oV2
   go_wp2_with (at_builtin; refine app_markE rfl (.tmp 35) (.tmp 39) rfl base _ ls.length m rfl (World.ownsRow.alloc oV3 _) ⟨W3.heap.size, 0, none⟩ 3 (by decide) (by decide) rfl ?qa ?qb ?qc ?_)
   case qa =>
    intro i u hu
    have hbk := heap_alloc_new W3 (.cells #[.string ⟨#[]⟩, .int .i64 (-1 - (l.length : Int)), .string ⟨#[]⟩, .string ⟨#[]⟩, .int .i64 (-1 - (l.length : Int)), .string ⟨#[]⟩, .string ⟨#[]⟩, .int .i64 (-1 - (l.length : Int)), .string ⟨#[]⟩] 32)
    have e : rowCells enCells (List.replicate 3 (enMk l.length)) = [.string ⟨#[]⟩, .int .i64 (-1 - (l.length : Int)), .string ⟨#[]⟩, .string ⟨#[]⟩, .int .i64 (-1 - (l.length : Int)), .string ⟨#[]⟩, .string ⟨#[]⟩, .int .i64 (-1 - (l.length : Int)), .string ⟨#[]⟩] := rfl
    rw [add_off, Nat.zero_add, cell_of_block hbk]
    rw [unhide Hm, e] at hu
    simpa using hu
   case qb => omega
   case qc => simp; omega
   intro v3 W4 o3 gr3 p3 oV4 st3
   have hsz4 : W3.heap.size < W4.heap.size := by have := gr3.size; simp at this; omega
   obtain ⟨o1, gr1, p1, st1⟩ := unhide Hg1
   obtain ⟨o2, gr2, p2, st2⟩ := unhide Hg2
   obtain ⟨hfr, hVm, hb1⟩ := unhide Hw2
   have hal : ∀ (W : World) (X : Obj), Below W.heap.size W (W.alloc X) := fun W X => (Below.refl _ _).alloc (Nat.le_refl _) _
   have F1 : FullE W4 v1 (ls.length + 1) m := ((OwnsE.full o1).stay ((MarksStayE.below (hal W2 _)).trans st2)).stay ((MarksStayE.below (hal W3 _)).trans st3)
   have F2 : FullE W4 v2 (ls.length + 2) m := (OwnsE.full o2).stay ((MarksStayE.below (hal W3 _)).trans st3)
   have F3 : FullE W4 v3 (ls.length + 3) m := OwnsE.full o3
   have F0 := OwnsE.full oV4
   have f4 : Fr (fun x => (Value.slice av ls.length cv).ownBlock = some x) W1 W4 := ((hfr.trans ((Fr.below (hal wr _)).trans (Fr.grown gr1 (fun g e => e)))).trans ((Fr.below (hal W2 _)).trans (Fr.grown gr2 (fun g e => e)))).trans ((Fr.below (hal W3 _)).trans (Fr.grown gr3 (fun g e => e)))
   have M4 := (unhide Hw1).1.fr f4 (fun x hx hs => hVm x hs hx)
   have hblk : ∀ x, v1.ownBlock = some x ∨ v2.ownBlock = some x ∨ v3.ownBlock = some x → (Value.slice av ls.length cv).ownBlock = some x ∨ W1.heap.size ≤ x ∧ x < W4.heap.size := by
    have hq : ∀ (u : Value) (x z : Nat), (u.ownBlock = (Value.slice av ls.length cv).ownBlock ∨ u.ownBlock = some z) → u.ownBlock = some x → (Value.slice av ls.length cv).ownBlock = some x ∨ x = z := fun u x z hp hu => by
     rcases hp with hp | hp
     ·exact .inl (by rw [← hp]; exact hu)
     ·rw [hp] at hu; exact .inr (Option.some.inj hu).symm
    rintro x (hx | hx | hx)
    ·have hxl := own_lt o1 hx
     rcases hq v1 x _ p1 hx with h | h
     ·exact .inl h
     ·exact .inr (by first | omega | (simp at h; omega))
    ·have hxl := own_lt o2 hx
     rcases hq v2 x _ p2 hx with h | h
     ·exact .inl h
     ·exact .inr (by first | omega | (simp at h; omega))
    ·have hxl := own_lt o3 hx
     rcases hq v3 x _ p3 hx with h | h
     ·exact .inl h
     ·exact .inr (by first | omega | (simp at h; omega))
   obtain ⟨a1, n1, c1, rfl⟩ := shape3 o1
   obtain ⟨a2, n2, c2, rfl⟩ := shape3 o2
   obtain ⟨a3, n3, c3, rfl⟩ := shape3 o3
   have Hall := hide (And.intro M4 (And.intro f4 (And.intro hblk (And.intro F0 (And.intro F1 (And.intro F2 F3))))))
   have k9 := cell_of_block (j := 13) M4.wa
   simp at k9
   have m4t := M4.t
   have m4l := M4.lt
   clear o1 o2 o3 gr1 gr2 gr3 p1 p2 p3 st1 st2 st3 oV3 oV4 F0 F1 F2 F3 f4 hblk Hg1 Hg2 hfr hVm M4
   go_wp2_with (at_builtin; refine app_sliceE rfl (.tmp 45) (.tmp 47) rfl base _ _ rfl (World.ownsRow.alloc m4t _) ⟨W4.heap.size, 0, none⟩ (.slice av ls.length cv) rfl ?qa rfl ?qb ?qc ?_)
   case qa => exact cell_of_block (heap_alloc_new W4 (.cells #[.slice av ls.length cv] 22))
   case qb => omega
   case qc => simp; omega
   intro tx' W5 o5 g5 p5
   obtain ⟨wa5, M5, f5, z5, s5⟩ := ME.grow1 (unhide Hall).1 o5 g5 (by simpa using p5)
   obtain ⟨b5, n5, c5, rfl⟩ := shape3 o5
   have i9 := cell_of_block (j := 13) wa5
   simp at i9
   have il := (Array.getElem?_eq_some_iff.1 wa5).1
   have if9 := free_block (j := 13) wa5
   have i10 := cell_of_block (j := 14) M5.wa
   simp at i10
   have m5t := M5.t3
   have m5l := M5.lt
   have hz5 : (W5.setCell ⟨wb, 13, none⟩ (.slice b5 n5 c5)).heap.size = W5.heap.size := by simp
   have H5 := hide (And.intro M5 (And.intro f5 s5))
   clear M5 f5 s5 o5 g5 p5 wa5 m4t k9
   go_wp2_with (at_builtin; refine app_sliceE rfl (.tmp 55) (.tmp 57) rfl base _ _ rfl (World.ownsRow.alloc m5t _) ⟨W5.heap.size, 0, none⟩ (.slice a1 n1 c1) rfl ?qa rfl ?qb ?qc ?_)
   case qa =>
    have := cell_of_block (j := 0) (heap_alloc_new (W5.setCell ⟨wb, 13, none⟩ (.slice b5 n5 c5)) (.cells #[.slice a1 n1 c1] 22))
    rw [hz5] at this
    exact this
   case qb => first | omega | (simp; omega)
   case qc => simp; omega
   intro tx' W6 o6 g6 p6
   obtain ⟨wa6, M6, f6, z6, s6⟩ := ME.grow3 (unhide H5).1 o6 g6 (by simpa using p6)
   obtain ⟨b26, n26, c26, rfl⟩ := shape3 o6
   have i26 := cell_of_block (j := 14) wa6
   simp at i26
   have jl6 := (Array.getElem?_eq_some_iff.1 wa6).1
   have jf6 := free_block (j := 14) wa6
   have q46 := cell_of_block (j := 14) M6.wa
   simp at q46
   have m6t := M6.t3
   have m6l := M6.lt
   have hz6 : (W6.setCell ⟨wb, 14, none⟩ (.slice b26 n26 c26)).heap.size = W6.heap.size := by simp
   have H6 := hide (And.intro M6 (And.intro f6 s6))
   clear M6 f6 s6 o6 g6 p6 wa6 m5t
   go_wp2_with (at_builtin; refine app_sliceE rfl (.tmp 65) (.tmp 67) rfl base _ _ rfl (World.ownsRow.alloc m6t _) ⟨W6.heap.size, 0, none⟩ (.slice a2 n2 c2) rfl ?qa rfl ?qb ?qc ?_)
   case qa =>
    have := cell_of_block (j := 0) (heap_alloc_new (W6.setCell ⟨wb, 14, none⟩ (.slice b26 n26 c26)) (.cells #[.slice a2 n2 c2] 22))
    rw [hz6] at this
    exact this
   case qb => first | omega | (simp; omega)
   case qc => simp; omega
   intro tx' W7 o7 g7 p7
   obtain ⟨wa7, M7, f7, z7, s7⟩ := ME.grow3 (unhide H6).1 o7 g7 (by simpa using p7)
   obtain ⟨b27, n27, c27, rfl⟩ := shape3 o7
   have i27 := cell_of_block (j := 14) wa7
   simp at i27
   have jl7 := (Array.getElem?_eq_some_iff.1 wa7).1
   have jf7 := free_block (j := 14) wa7
   have q47 := cell_of_block (j := 14) M7.wa
   simp at q47
   have m7t := M7.t3
   have m7l := M7.lt
   have hz7 : (W7.setCell ⟨wb, 14, none⟩ (.slice b27 n27 c27)).heap.size = W7.heap.size := by simp
   have H7 := hide (And.intro M7 (And.intro f7 s7))
   clear M7 f7 s7 o7 g7 p7 wa7 m6t
   go_wp2_with (at_builtin; refine app_sliceE rfl (.tmp 75) (.tmp 77) rfl base _ _ rfl (World.ownsRow.alloc m7t _) ⟨W7.heap.size, 0, none⟩ (.slice a3 n3 c3) rfl ?qa rfl ?qb ?qc ?_)
   case qa =>
    have := cell_of_block (j := 0) (heap_alloc_new (W7.setCell ⟨wb, 14, none⟩ (.slice b27 n27 c27)) (.cells #[.slice a3 n3 c3] 22))
    rw [hz7] at this
    exact this
   case qb => first | omega | (simp; omega)
   case qc => simp; omega
   intro tx' W8 o8 g8 p8
   obtain ⟨wa8, M8, f8, z8, s8⟩ := ME.grow3 (unhide H7).1 o8 g8 (by simpa using p8)
   obtain ⟨b28, n28, c28, rfl⟩ := shape3 o8
   have i28 := cell_of_block (j := 14) wa8
   simp at i28
   have jl8 := (Array.getElem?_eq_some_iff.1 wa8).1
   have jf8 := free_block (j := 14) wa8
   have q48 := cell_of_block (j := 14) M8.wa
   simp at q48
   have m8t := M8.t3
   have m8l := M8.lt
   have hz8 : (W8.setCell ⟨wb, 14, none⟩ (.slice b28 n28 c28)).heap.size = W8.heap.size := by simp
   have H8 := hide (And.intro M8 (And.intro f8 s8))
   clear M8 f8 s8 o8 g8 p8 wa8 m7t
   obtain ⟨M8, f8, s8⟩ := unhide H8
   obtain ⟨M7, f7, s7⟩ := unhide H7
   obtain ⟨M6, f6, s6⟩ := unhide H6
   obtain ⟨M5, f5, s5⟩ := unhide H5
   obtain ⟨M4, f4, hblk, F0, F1, F2, F3⟩ := unhide Hall
   have fa := fr_comp f5 f6 s5
   have sa := fun x hx => (s6 x hx).elim (fun h => s5 x h) (fun h => Or.inr (by rw [hz5] at h; omega))
   have fb := fr_comp fa f7 sa
   have sb := fun x hx => (s7 x hx).elim (fun h => sa x h) (fun h => Or.inr (by rw [hz6] at h; omega))
   have fc := fr_comp fb f8 sb
   have sc := fun x hx => (s8 x hx).elim (fun h => sb x h) (fun h => Or.inr (by rw [hz7] at h; omega))
   have hbl : ∀ (u : Value) x, (∀ y, u.ownBlock = some y → (Value.slice av ls.length cv).ownBlock = some y ∨ W1.heap.size ≤ y ∧ y < W4.heap.size) → u.ownBlock = some x → ¬ MESet wb (.slice at' l.length ct) (.slice at3 l3.length ct3) x := fun u x hu hx hm => by
    rcases hu x hx with h | h
    ·exact (unhide Hw2).2.1 x h hm
    ·have := (unhide Hw1).1.setLt x hm
     omega
   have hVl : ∀ x, (Value.slice av ls.length cv).ownBlock = some x → x < W1.heap.size := fun x hx => own_lt (unhide Hw1).2.1 hx
   have hx4 : ∀ x, (Value.slice av ls.length cv).ownBlock = some x ∨ (Value.slice a1 n1 c1).ownBlock = some x ∨ (Value.slice a2 n2 c2).ownBlock = some x ∨ (Value.slice a3 n3 c3).ownBlock = some x → (Value.slice av ls.length cv).ownBlock = some x ∨ W1.heap.size ≤ x ∧ x < W4.heap.size := fun x hx => hx.elim Or.inl (fun h => hblk x h)
   have Hlast := hide (show ∀ x, (Value.slice av ls.length cv).ownBlock = some x ∨ (Value.slice a1 n1 c1).ownBlock = some x ∨ (Value.slice a2 n2 c2).ownBlock = some x ∨ (Value.slice a3 n3 c3).ownBlock = some x → ¬ MESet wb (.slice b5 n5 c5) (.slice b28 n28 c28) x ∧ x < W8.heap.size from fun x hx => by
    have hx' := hx4 x hx
    have hxl : x < W4.heap.size := by
     rcases hx' with h | h
     ·have := hVl x h; omega
     ·exact h.2
    refine ⟨fun hm => ?_, by rw [hz5] at z6; rw [hz6] at z7; rw [hz7] at z8; omega⟩
    rcases sc x hm with h | h
    ·rcases hx' with h2 | h2
     ·exact (unhide Hw2).2.1 x h2 h
     ·have := (unhide Hw1).1.setLt x h
      omega
    ·omega)
   have Hend := hide (And.intro M8 (And.intro (And.intro (F0.fr fc (fun x hx => hbl _ x (fun y hy => .inl hy) hx)) (And.intro (F1.fr fc (fun x hx => hbl _ x (fun y hy => hblk y (.inl hy)) hx)) (And.intro (F2.fr fc (fun x hx => hbl _ x (fun y hy => hblk y (.inr (.inl hy))) hx)) (F3.fr fc (fun x hx => hbl _ x (fun y hy => hblk y (.inr (.inr hy))) hx))))) (And.intro (fr_comp (fr_comp (Fr.below (unhide Hw1).2.2) (f4.mono (fun x hx => Or.inr hx)) (fun x hx => .inl hx)) (fc.mono (fun x hx => Or.inl hx)) (fun x hx => .inl hx) : Fr (fun x => MESet wb (.slice at' l.length ct) (.slice at3 l3.length ct3) x ∨ (Value.slice av ls.length cv).ownBlock = some x) w _) (And.intro (fun x hx => (sc x hx).elim Or.inl (fun h => Or.inr (by omega))) (fun x hx => (hblk x hx).elim Or.inl (fun h => Or.inr (by omega)))))))
   clear M8 f8 s8 M7 f7 s7 M6 f6 s6 M5 f5 s5 M4 f4 hblk F0 F1 F2 F3 fa sa fb sb fc sc hbl H8 H7 H6 H5 Hall hx4 hVl
   go_wp2_with fail
   go_end0
   exact ⟨rfl, .slice a1 n1 c1, .slice a2 n2 c2, .slice a3 n3 c3, .slice b5 n5 c5, .slice b28 n28 c28, (unhide Hend).1, (unhide Hend).2.1, (unhide Hend).2.2.1, fun x hx => ((unhide Hend).2.2.2.1 x hx).imp id (fun h => by omega), fun x hx => ((unhide Hend).2.2.2.2 x hx).imp id (fun h => by omega), fun x hx => by simpa using unhide Hlast x hx⟩
end Go.Proofs.YtjmacegibchplaaGreatDoor