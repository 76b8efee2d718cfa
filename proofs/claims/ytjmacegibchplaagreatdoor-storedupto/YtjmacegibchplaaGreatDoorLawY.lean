import Derived.Test.YtjmacegibchplaaGreatDoorLawV
import Derived.Test.YtjmacegibchplaaGreatDoorRtA
/-
  Lists of entries written full of a mark: the appends, the world's rows of such lists.
-/
namespace Go.Proofs.YtjmacegibchplaaGreatDoor
open Go.RowKit Go.Maps Go.WideMaps
set_option linter.unusedVariables false
def enMk (k : Nat) : En := ⟨⟨#[]⟩, -1 - (k : Int), ⟨#[]⟩⟩
def MarksStayE (m : En) (w w' : World) : Prop := ∀ b i, EntAt w b (i * 3) m → EntAt w' b (i * 3) m
theorem MarksStayE.trans {m : En} {a b c : World} (h : MarksStayE m a b) (k : MarksStayE m b c) : MarksStayE m a c := fun x i e => k x i (h x i e)
theorem ent_lt {w : World} {b p : Nat} {m : En} (h : EntAt w b p m) : b < w.heap.size := block_lt h.1
theorem ent_same {w w' : World} {b p : Nat} {m : En} (h : EntAt w b p m) (hc : ∀ j, j < 3 → ∀ u, w.cell? ⟨b, p + j, none⟩ = some u → (enCells m)[j]? = some u → w'.cell? ⟨b, p + j, none⟩ = some u) : EntAt w' b p m := by
  obtain ⟨h0, h1, h2⟩ := h
  exact ⟨by simpa using hc 0 (by omega) _ (by simpa using h0) rfl, hc 1 (by omega) _ h1 rfl, hc 2 (by omega) _ h2 rfl⟩
theorem MarksStayE.below {m : En} {w w' : World} (h : Below w.heap.size w w') : MarksStayE m w w' := fun b i e => ent_same e (fun j _ u hu _ => (h.cell (p := ⟨b, i * 3 + j, none⟩) (ent_lt e)).trans hu)
def OwnsLE (w : World) (base : Nat) (v : Value) (l : List Value) : Prop := w.ownsRow base 22 1 v l.length l
def FullE (w : World) (v : Value) (n : Nat) (m : En) : Prop := ∃ a c, v = .slice a n c ∧ (n = 0 ∨ ∃ b, a = some ⟨b, 0, none⟩ ∧ EntsAt w b 0 (List.replicate n m))
theorem FullE.stay {w w' : World} {v : Value} {n : Nat} {m : En} (h : FullE w v n m) (hs : MarksStayE m w w') : FullE w' v n m := by
  obtain ⟨a, c, e, h⟩ := h
  refine ⟨a, c, e, ?_⟩
  rcases h with h | ⟨b, e2, h⟩
  · exact .inl h
  · refine .inr ⟨b, e2, fun i hi => ?_⟩
    have := h i hi
    rw [List.getElem_replicate] at this ⊢
    rw [Nat.zero_add] at this ⊢
    exact hs b i this
theorem OwnsE.full {w : World} {base n : Nat} {v : Value} {m : En} (h : OwnsE w base v (List.replicate n m)) : FullE w v n m := by
  obtain ⟨a, c, e, t, -⟩ := OwnsE.lies h
  rw [List.length_replicate] at e
  refine ⟨a, c, e, ?_⟩
  rcases h.2 with ⟨hv, hx⟩ | ⟨g, cap, cur, hv, _⟩
  · exact .inl (by simpa using hx)
  · rcases t with t | ⟨b, o, e2, t⟩
    · exact .inl (by simpa using congrArg List.length t)
    · rw [e2] at e
      rw [hv] at e
      obtain ⟨⟨rfl, rfl⟩, -⟩ : (g = b ∧ 0 = o) ∧ _ := by simpa using e
      exact .inr ⟨g, e2, t⟩
theorem FullE.fr {S : Nat → Prop} {w w' : World} {v : Value} {n : Nat} {m : En} (h : FullE w v n m) (hf : Fr S w w') (hn : ∀ x, v.ownBlock = some x → ¬ S x) : FullE w' v n m := by
  obtain ⟨a, c, rfl, h⟩ := h
  refine ⟨a, c, rfl, ?_⟩
  rcases h with h | ⟨b, rfl, h⟩
  · exact .inl h
  · refine .inr ⟨b, rfl, fun i hi => ent_same (h i hi) (fun j _ u hu _ => cell_fr hf hu (hn b rfl))⟩
theorem FullE.lies {w : World} {v : Value} {n : Nat} {m : En} (h : FullE w v n m) : ∃ a c, v = .slice a n c ∧ LiesE w a (List.replicate n m) := by
  obtain ⟨a, c, e, h⟩ := h
  refine ⟨a, c, e, ?_⟩
  rcases h with rfl | ⟨b, e2, h⟩
  · exact .inl rfl
  · exact .inr ⟨b, 0, e2, h⟩
structure ME (w : World) (wb base : Nat) (came : Int) (kT wT kI wI kE wE ps tx tx3 it it3 en en3 : Value) (l l3 : List Value) : Prop where
  wa : WorldAt w wb came kT wT kI wI kE wE ps tx tx3 it it3 en en3
  t : OwnsLE w base en l
  t3 : OwnsLE w base en3 l3
  ne : ∀ g, en.ownBlock = some g → en3.ownBlock ≠ some g
def MESet (wb : Nat) (en en3 : Value) (x : Nat) : Prop := x = wb ∨ en.ownBlock = some x ∨ en3.ownBlock = some x
section
variable {w w' w1 : World} {wb base : Nat} {came : Int} {kT wT kI wI kE wE ps tx tx3 it it3 en en3 v' : Value} {l l3 l' : List Value} {X : Obj}
theorem ME.lt (h : ME w wb base came kT wT kI wI kE wE ps tx tx3 it it3 en en3 l l3) : wb < w.heap.size := (Array.getElem?_eq_some_iff.1 h.wa).1
theorem ME.setLt (h : ME w wb base came kT wT kI wI kE wE ps tx tx3 it it3 en en3 l l3) (x : Nat) (hx : MESet wb en en3 x) : x < w.heap.size := by
  rcases hx with rfl | hx | hx
  · exact h.lt
  · exact own_lt h.t hx
  · exact own_lt h.t3 hx
theorem ME.same (h : ME w wb base came kT wT kI wI kE wE ps tx tx3 it it3 en en3 l l3) (hs : ∀ x, MESet wb en en3 x → w'.heap[x]? = w.heap[x]?) : ME w' wb base came kT wT kI wI kE wE ps tx tx3 it it3 en en3 l l3 :=
  ⟨(hs wb (.inl rfl)).trans h.wa, ownsRow_same h.t (fun g e => hs g (.inr (.inl e))), ownsRow_same h.t3 (fun g e => hs g (.inr (.inr e))), h.ne⟩
theorem ME.below {B : Nat} (h : ME w wb base came kT wT kI wI kE wE ps tx tx3 it it3 en en3 l l3) (hb : Below B w w') (hB : w.heap.size ≤ B) : ME w' wb base came kT wT kI wI kE wE ps tx tx3 it it3 en en3 l l3 := h.same (fun x hx => hb.block x (Nat.lt_of_lt_of_le (h.setLt x hx) hB))
theorem ME.fr {S : Nat → Prop} (h : ME w wb base came kT wT kI wI kE wE ps tx tx3 it it3 en en3 l l3) (hf : Fr S w w') (hn : ∀ x, MESet wb en en3 x → ¬ S x) : ME w' wb base came kT wT kI wI kE wE ps tx tx3 it it3 en en3 l l3 := h.same (fun x hx => hf.block x (h.setLt x hx) (hn x hx))
theorem ME.ents {v : Value} {ls : List En} {b2 g : Nat} (h : ME w wb base came kT wT kI wI kE wE ps tx tx3 it it3 en en3 l l3) (ho : OwnsE w b2 v ls) (hg : v.ownBlock = some g) : ¬ MESet wb en en3 g := by
  rintro (rfl | hx | hx)
  · exact row_neS ho h.wa (by decide) hg
  · exact rows_ne ho h.t (by decide) hg hx
  · exact rows_ne ho h.t3 (by decide) hg hx
theorem ME.neRow (h : ME w wb base came kT wT kI wI kE wE ps tx tx3 it it3 en en3 l l3) : en.ownBlock ≠ some wb ∧ en3.ownBlock ≠ some wb := ⟨row_neS h.t h.wa (by decide), row_neS h.t3 h.wa (by decide)⟩
theorem ME.grow1 (h : ME w wb base came kT wT kI wI kE wE ps tx tx3 it it3 en en3 l l3) (o1 : OwnsLE w1 base v' l') (g1 : (w.alloc X).grownBy w1 en.ownBlock) (p1 : v'.ownBlock = en.ownBlock ∨ v'.ownBlock = some (w.alloc X).heap.size) :
    WorldAt w1 wb came kT wT kI wI kE wE ps tx tx3 it it3 en en3 ∧ ME (w1.setCell ⟨wb, 13, none⟩ v') wb base came kT wT kI wI kE wE ps tx tx3 it it3 v' en3 l' l3 ∧ Fr (MESet wb en en3) w (w1.setCell ⟨wb, 13, none⟩ v') ∧ w.heap.size < w1.heap.size ∧ (∀ x, MESet wb v' en3 x → MESet wb en en3 x ∨ w.heap.size ≤ x) := by
  have hsz : (w.alloc X).heap.size = w.heap.size + 1 := by simp
  have e0 : (w.alloc X).heap[wb]? = _ := (Below.heap_alloc _ _ _ h.lt).trans h.wa
  have e1 : w1.heap[wb]? = _ := (g1.block wb (by rw [hsz]; have := h.lt; omega) (fun e => h.neRow.1 e.symm)).trans e0
  have h2a : OwnsLE (w.alloc X) base en3 l3 := World.ownsRow.alloc h.t3 X
  have h2 : OwnsLE w1 base en3 l3 := ownsRow_same h2a (fun g e => g1.block g (own_lt h2a e) (fun e2 => h.ne g e2.symm e))
  have hn1 := row_neS o1 e1 (by decide)
  have hn2 := row_neS h2 e1 (by decide)
  have gs := grown_setCell w1 wb 13 v'
  refine ⟨e1, ⟨heap_setCell_same w1 wb 13 _ _ v' e1, ownsRow_same o1 (fun g e => gs.block g (own_lt o1 e) (fun e2 => hn1 (by rw [e, e2]))), ownsRow_same h2 (fun g e => gs.block g (own_lt h2 e) (fun e2 => hn2 (by rw [e, e2]))), ?_⟩, ?_, ?_, ?_⟩
  · intro g eg e2
    rcases p1 with p1 | p1
    · exact h.ne g (by rw [← p1]; exact eg) e2
    · rw [p1] at eg
      obtain rfl := Option.some.inj eg
      have := own_lt h.t3 e2
      rw [hsz] at this; omega
  · have f1 : Fr (MESet wb en en3) w w1 := (Fr.below ((Below.refl _ _).alloc (Nat.le_refl _) X)).trans (Fr.grown g1 (fun g e => .inr (.inl e)))
    exact f1.trans (Fr.set w1 wb 13 v' (.inl rfl))
  · have := g1.size
    omega
  · rintro x (rfl | hx | hx)
    · exact .inl (.inl rfl)
    · rcases p1 with p1 | p1
      · exact .inl (.inr (.inl (by rw [← p1]; exact hx)))
      · rw [p1] at hx
        obtain rfl := Option.some.inj hx
        exact .inr (by rw [hsz]; omega)
    · exact .inl (.inr (.inr hx))
theorem ME.grow3 (h : ME w wb base came kT wT kI wI kE wE ps tx tx3 it it3 en en3 l l3) (o1 : OwnsLE w1 base v' l') (g1 : (w.alloc X).grownBy w1 en3.ownBlock) (p1 : v'.ownBlock = en3.ownBlock ∨ v'.ownBlock = some (w.alloc X).heap.size) :
    WorldAt w1 wb came kT wT kI wI kE wE ps tx tx3 it it3 en en3 ∧ ME (w1.setCell ⟨wb, 14, none⟩ v') wb base came kT wT kI wI kE wE ps tx tx3 it it3 en v' l l' ∧ Fr (MESet wb en en3) w (w1.setCell ⟨wb, 14, none⟩ v') ∧ w.heap.size < w1.heap.size ∧ (∀ x, MESet wb en v' x → MESet wb en en3 x ∨ w.heap.size ≤ x) := by
  have hsz : (w.alloc X).heap.size = w.heap.size + 1 := by simp
  have e0 : (w.alloc X).heap[wb]? = _ := (Below.heap_alloc _ _ _ h.lt).trans h.wa
  have e1 : w1.heap[wb]? = _ := (g1.block wb (by rw [hsz]; have := h.lt; omega) (fun e => h.neRow.2 e.symm)).trans e0
  have h2a : OwnsLE (w.alloc X) base en l := World.ownsRow.alloc h.t X
  have h2 : OwnsLE w1 base en l := ownsRow_same h2a (fun g e => g1.block g (own_lt h2a e) (fun e2 => h.ne g e e2.symm))
  have hn1 := row_neS o1 e1 (by decide)
  have hn2 := row_neS h2 e1 (by decide)
  have gs := grown_setCell w1 wb 14 v'
  refine ⟨e1, ⟨heap_setCell_same w1 wb 14 _ _ v' e1, ownsRow_same h2 (fun g e => gs.block g (own_lt h2 e) (fun e2 => hn2 (by rw [e, e2]))), ownsRow_same o1 (fun g e => gs.block g (own_lt o1 e) (fun e2 => hn1 (by rw [e, e2]))), ?_⟩, ?_, ?_, ?_⟩
  · intro g eg e2
    rcases p1 with p1 | p1
    · exact h.ne g eg (by rw [← p1]; exact e2)
    · rw [p1] at e2
      obtain rfl := Option.some.inj e2
      have := own_lt h.t eg
      rw [hsz] at this; omega
  · have f1 : Fr (MESet wb en en3) w w1 := (Fr.below ((Below.refl _ _).alloc (Nat.le_refl _) X)).trans (Fr.grown g1 (fun g e => .inr (.inr e)))
    exact f1.trans (Fr.set w1 wb 14 v' (.inl rfl))
  · have := g1.size
    omega
  · rintro x (rfl | hx | hx)
    · exact .inl (.inl rfl)
    · exact .inl (.inr (.inl hx))
    · rcases p1 with p1 | p1
      · exact .inl (.inr (.inr (by rw [← p1]; exact hx)))
      · rw [p1] at hx
        obtain rfl := Option.some.inj hx
        exact .inr (by rw [hsz]; omega)
end
end Go.Proofs.YtjmacegibchplaaGreatDoor

/-
  A list of entries is written full of a mark, and grows (cellarlaw.World's markEntries).
-/
namespace Go.Proofs.YtjmacegibchplaaGreatDoor
open Go.RowKit Go.Maps Go.WideMaps
set_option linter.unusedVariables false
theorem OwnsE.below {w w' : World} {base : Nat} {v : Value} {l : List En} (h : OwnsE w base v l) (hb : Below w.heap.size w w') : OwnsE w' base v l :=
  World.ownsRow.kept (row := none) h ⟨hb.os, hb.tape, hb.output, hb.size, fun k hk _ => hb.block k hk⟩ (by cases v.ownBlock <;> simp)
theorem OwnsE.put {w : World} {base g k : Nat} {v : Value} {l : List En} (h : OwnsE w base v l) (hg : v.ownBlock = some g) (hk : k < l.length) (m : En) : OwnsE (w.setCells g (k * 3) (enCells m)) base v (l.set k m) := by
  rcases h.2 with ⟨rfl, _⟩ | ⟨g', cap, cur, rfl, hb, hgg, q1, q2, q3, q4⟩
  · simp [Value.ownBlock] at hg
  · obtain rfl : g' = g := by simpa [Value.ownBlock] using hg
    obtain ⟨a, c, e, t, -⟩ := OwnsE.lies h
    obtain ⟨rfl, rfl⟩ : some ⟨g', 0, none⟩ = a ∧ cap = c := by simpa using e
    have hit : EntsAt w g' 0 l := by
      rcases t with t | ⟨b, o, e2, t⟩
      · subst t; simp at hk
      · obtain ⟨rfl, rfl⟩ : g' = b ∧ 0 = o := by simpa using e2
        exact t
    have hrow := hit.row.store enCells_len k hk m
    rw [Nat.zero_add] at hrow
    have h1 := heap_setCell_same w g' (k * 3) _ _ (.string m.path) hgg
    have h2 := heap_setCell_same _ g' (k * 3 + 1) _ _ (.int .i64 m.kind) h1
    have h3 := heap_setCell_same _ g' (k * 3 + 2) _ _ (.string m.data) h2
    have hlen : (rowCells enCells (l.set k m)).length = l.length * 3 := by rw [rowCells_length (n := 3) enCells_len]; simp
    obtain ⟨W, hW⟩ : ∃ W, w.setCells g' (k * 3) (enCells m) = W := ⟨_, rfl⟩
    obtain ⟨cur', hc', hsz'⟩ : ∃ cur', W.heap[g']? = some (.cells cur' 32 (0, 0)) ∧ cur'.size = cur.size := ⟨_, by rw [← hW]; exact h3, by simp⟩
    rw [hW] at hrow ⊢
    clear h1 h2 h3 hW
    refine ⟨by rw [hlen]; simp, .inr ⟨g', cap, cur', by simp, hb, hc', by simpa using q1, q2, by rw [hsz']; exact q3, ?_⟩⟩
    apply List.ext_getElem?
    intro j
    by_cases hj : j < l.length * 3
    · obtain ⟨u, hu, hc⟩ := hrow.cell enCells_len j (by simpa using hj)
      rw [Nat.zero_add, cell_of_block hc'] at hc
      rw [hu, List.getElem?_take_of_lt (by simpa using hj)]
      simpa using hc
    · rw [List.getElem?_eq_none (by simp; omega), List.getElem?_eq_none (by omega)]
end Go.Proofs.YtjmacegibchplaaGreatDoor

/-
  What a script keeps of lists of entries; a list of entries is taken (cellarlaw.World's takeEntries).
-/
namespace Go.Proofs.YtjmacegibchplaaGreatDoor
open Go.RowKit Go.Maps Go.WideMaps
set_option linter.unusedVariables false
structure TME (w : World) (l l3 : List Value) (Mk : Nat → Prop) : Prop where
  len : l3.length = 3 * l.length
  full : ∀ k (h : k < l.length), ∃ n, n ≤ 1200000 ∧ FullE w l[k] n (enMk k) ∧ FullE w (l3.getD (3 * k) (.slice none 0 0)) (n + 1) (enMk k) ∧ FullE w (l3.getD (3 * k + 1) (.slice none 0 0)) (n + 2) (enMk k) ∧ FullE w (l3.getD (3 * k + 2) (.slice none 0 0)) (n + 3) (enMk k)
  blk : ∀ u, u ∈ l ∨ u ∈ l3 → ∀ x, u.ownBlock = some x → Mk x
theorem TME.fr {S : Nat → Prop} {w w' : World} {l l3 : List Value} {Mk : Nat → Prop} (h : TME w l l3 Mk) (hf : Fr S w w') (hn : ∀ x, Mk x → ¬ S x) : TME w' l l3 Mk := by
  refine ⟨h.len, fun k hk => ?_, h.blk⟩
  obtain ⟨n, hn0, f0, f1, f2, f3⟩ := h.full k hk
  have hl := h.len
  exact ⟨n, hn0, f0.fr hf (fun x hx => hn x (h.blk _ (.inl (List.getElem_mem hk)) x hx)), f1.fr hf (fun x hx => hn x (h.blk _ (.inr (getD_mem l3 _ (by omega))) x hx)), f2.fr hf (fun x hx => hn x (h.blk _ (.inr (getD_mem l3 _ (by omega))) x hx)), f3.fr hf (fun x hx => hn x (h.blk _ (.inr (getD_mem l3 _ (by omega))) x hx))⟩
theorem TME.below {w w' : World} {l l3 : List Value} {Mk : Nat → Prop} (h : TME w l l3 Mk) (hb : Below w.heap.size w w') : TME w' l l3 Mk := h.fr (S := fun _ => False) (Fr.below hb) (fun _ _ h => h)
theorem TME.push {w : World} {l l3 : List Value} {Mk Mk' : Nat → Prop} (h : TME w l l3 Mk) (v v1 v2 v3 : Value) (n : Nat) (hn : n ≤ 1200000) (F : FullE w v n (enMk l.length) ∧ FullE w v1 (n + 1) (enMk l.length) ∧ FullE w v2 (n + 2) (enMk l.length) ∧ FullE w v3 (n + 3) (enMk l.length))
    (hM : ∀ x, Mk x → Mk' x) (hv : ∀ u, u = v ∨ u = v1 ∨ u = v2 ∨ u = v3 → ∀ x, u.ownBlock = some x → Mk' x) : TME w (l ++ [v]) (l3 ++ [v1, v2, v3]) Mk' := by
  have hl := h.len
  refine ⟨by simp; omega, fun k hk => ?_, fun u hu x hx => ?_⟩
  · rcases Nat.lt_or_ge k l.length with hlt | hge
    · obtain ⟨n', hn0, f0, f1, f2, f3⟩ := h.full k hlt
      have e : ∀ j, j < l3.length → (l3 ++ [v1, v2, v3]).getD j (.slice none 0 0) = l3.getD j (.slice none 0 0) := fun j hj => by
        rw [List.getD_eq_getElem?_getD, List.getD_eq_getElem?_getD, List.getElem?_append_left hj]
      rw [e _ (by omega), e _ (by omega), e _ (by omega)]
      refine ⟨n', hn0, ?_, f1, f2, f3⟩
      rw [List.getElem_append_left hlt]
      exact f0
    · obtain rfl : k = l.length := by simp at hk; omega
      have e : ∀ j, (l3 ++ [v1, v2, v3]).getD (3 * l.length + j) (.slice none 0 0) = [v1, v2, v3].getD j (.slice none 0 0) := fun j => by
        rw [List.getD_eq_getElem?_getD, List.getD_eq_getElem?_getD, List.getElem?_append_right (by omega), hl]
        congr 2
        omega
      have e0 := e 0
      have e1 := e 1
      have e2 := e 2
      simp only [Nat.add_zero] at e0
      rw [e0, e1, e2]
      refine ⟨n, hn, ?_, F.2.1, F.2.2.1, F.2.2.2⟩
      simp only [List.getElem_append_right (Nat.le_refl _), Nat.sub_self]
      exact F.1
  · rcases hu with hu | hu
    · rcases List.mem_append.1 hu with hu | hu
      · exact hM x (h.blk u (.inl hu) x hx)
      · exact hv u (.inl (by simpa using hu)) x hx
    · rcases List.mem_append.1 hu with hu | hu
      · exact hM x (h.blk u (.inr hu) x hx)
      · exact hv u (.inr (by simpa using hu)) x hx
section
variable {w : World} {wb base : Nat} {came : Int} {kT wT kI wI kE wE ps tx tx3 it it3 en en3 : Value} {l l3 : List Value}
theorem ME.put0 (h : ME w wb base came kT wT kI wI kE wE ps tx tx3 it it3 en en3 l l3) (c : Int) : ME (w.setCell ⟨wb, 0, none⟩ (.int .i64 c)) wb base c kT wT kI wI kE wE ps tx tx3 it it3 en en3 l l3 := by
  have gs := grown_setCell w wb 0 (.int .i64 c)
  exact ⟨heap_setCell_same w wb 0 _ _ _ h.wa, ownsRow_same h.t (fun g e => gs.block g (own_lt h.t e) (fun e2 => h.neRow.1 (by rw [e, e2]))), ownsRow_same h.t3 (fun g e => gs.block g (own_lt h.t3 e) (fun e2 => h.neRow.2 (by rw [e, e2]))), h.ne⟩
theorem ME.put1 (h : ME w wb base came kT wT kI wI kE wE ps tx tx3 it it3 en en3 l l3) : ME (w.setCell ⟨wb, 1, none⟩ (.bool false)) wb base came kT wT kI wI kE wE ps tx tx3 it it3 en en3 l l3 := by
  have gs := grown_setCell w wb 1 (.bool false)
  exact ⟨heap_setCell_same w wb 1 _ _ _ h.wa, ownsRow_same h.t (fun g e => gs.block g (own_lt h.t e) (fun e2 => h.neRow.1 (by rw [e, e2]))), ownsRow_same h.t3 (fun g e => gs.block g (own_lt h.t3 e) (fun e2 => h.neRow.2 (by rw [e, e2]))), h.ne⟩
end
end Go.Proofs.YtjmacegibchplaaGreatDoor
