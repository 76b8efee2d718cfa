import Derived.Test.YtjmacegibchplaaGreatDoorFtB
import Derived.Test.YtjmacegibchplaaGreatDoorUpA
import Derived.Test.YtjmacegibchplaaGreatDoorRtA
/-
  The document's store: Put. Its blocks are its own.
-/
namespace Go.Proofs.YtjmacegibchplaaGreatDoor
open Go.RowKit Go.Maps Go.WideMaps
set_option linter.unusedVariables false
theorem app_text_at {w : World} {ops : Array Oper} {rest : List Oper} {o : Oper} {a : Act} {Q : Exit → Act → World → Prop} (hgd : o.guard = none) (s x : Operand)
    (ho : o.op = .call { callee := .builtin .append, args := #[s, x], argTypes := #[23, 23] }) (base : Nat) (v : Value) (l : List (List UInt8)) (hs : a.eval s = v) (hown : OwnsS w base v l)
    (ad : Addr) (y : List UInt8) (hx : a.eval x = .slice (some ad) 1 1) (hnews : w.cell? (ad.add 0) = some (strVal y)) (hlen : l.length ≤ 2000000000) (hbase : base ≤ w.heap.size)
    (h : ∀ v' w', OwnsS w' base v' (l ++ [y]) → w.grownBy w' v.ownBlock → (v'.ownBlock = v.ownBlock ∨ v'.ownBlock = some w.heap.size) → wpList Tryz.prog ops Q rest (a.put o.dst v') w') : wpList Tryz.prog ops Q (o :: rest) a w := by
  obtain ⟨i0, hi, hz0, hz1, hz2⟩ := info_parts info_str
  refine wp_app_at hgd s x 23 ho base 9 i0 _ 16 Tryz.underlying23 hi hz0 hz1 hz2 rfl v l.length (l.map strVal) hs hown ad (strVal y) hx hnews rfl (by unfold maxLen; omega) (by omega) hbase ?_
  intro v' w' h1 h2 h3
  refine h v' w' ?_ h2 h3
  unfold OwnsS
  rw [List.length_append, List.map_append]
  exact h1
structure DSt (w : World) (rb : Nat) (v1 v2 : Value) (base : Nat) (room : Int) (l1 l2 : List (List UInt8)) : Prop where
  c : w.heap[rb]? = some (.cells #[.int .i64 room, v1, v2] 199 (0, 0))
  n : OwnsS w base v1 l1
  b : OwnsS w base v2 l2
  ne : ∀ g, v1.ownBlock = some g → v2.ownBlock ≠ some g
def DSet (rb : Nat) (v1 v2 : Value) (x : Nat) : Prop := x = rb ∨ v1.ownBlock = some x ∨ v2.ownBlock = some x
section
variable {w w' : World} {rb base : Nat} {v1 v2 : Value} {room : Int} {l1 l2 : List (List UInt8)}
theorem DSt.lt (h : DSt w rb v1 v2 base room l1 l2) : rb < w.heap.size := (Array.getElem?_eq_some_iff.1 h.c).1
theorem DSt.setLt (h : DSt w rb v1 v2 base room l1 l2) (x : Nat) (hx : DSet rb v1 v2 x) : x < w.heap.size := by
  rcases hx with rfl | hx | hx
  · exact h.lt
  · exact own_lt h.n hx
  · exact own_lt h.b hx
theorem DSt.same (h : DSt w rb v1 v2 base room l1 l2) (hs : ∀ x, DSet rb v1 v2 x → w'.heap[x]? = w.heap[x]?) : DSt w' rb v1 v2 base room l1 l2 :=
  ⟨(hs rb (.inl rfl)).trans h.c, ownsRow_same h.n (fun g e => hs g (.inr (.inl e))), ownsRow_same h.b (fun g e => hs g (.inr (.inr e))), h.ne⟩
theorem DSt.below {B : Nat} (h : DSt w rb v1 v2 base room l1 l2) (hb : Below B w w') (hB : w.heap.size ≤ B) : DSt w' rb v1 v2 base room l1 l2 := h.same (fun x hx => hb.block x (Nat.lt_of_lt_of_le (h.setLt x hx) hB))
theorem DSt.fr {S : Nat → Prop} (h : DSt w rb v1 v2 base room l1 l2) (hf : Fr S w w') (hn : ∀ x, DSet rb v1 v2 x → ¬ S x) : DSt w' rb v1 v2 base room l1 l2 := h.same (fun x hx => hf.block x (h.setLt x hx) (hn x hx))
theorem DSt.neRow (h : DSt w rb v1 v2 base room l1 l2) : v1.ownBlock ≠ some rb ∧ v2.ownBlock ≠ some rb := ⟨row_neS h.n h.c (by decide), row_neS h.b h.c (by decide)⟩
theorem DSt.grow1 {w1 : World} {v1' : Value} {l1' : List (List UInt8)} {X : Obj} (h : DSt w rb v1 v2 base room l1 l2)
    (o1 : OwnsS w1 base v1' l1') (g1 : (w.alloc X).grownBy w1 v1.ownBlock) (p1 : v1'.ownBlock = v1.ownBlock ∨ v1'.ownBlock = some (w.alloc X).heap.size) :
    w1.heap[rb]? = some (.cells #[.int .i64 room, v1, v2] 199 (0, 0)) ∧ DSt (w1.setCell ⟨rb, 1, none⟩ v1') rb v1' v2 base room l1' l2 ∧ Fr (DSet rb v1 v2) w (w1.setCell ⟨rb, 1, none⟩ v1') ∧ w.heap.size < w1.heap.size ∧ (∀ x, DSet rb v1' v2 x → DSet rb v1 v2 x ∨ w.heap.size ≤ x) := by
  have hsz : (w.alloc X).heap.size = w.heap.size + 1 := by simp
  have e0 : (w.alloc X).heap[rb]? = _ := (Below.heap_alloc _ _ _ h.lt).trans h.c
  have e1 : w1.heap[rb]? = _ := (g1.block rb (by rw [hsz]; have := h.lt; omega) (fun e => h.neRow.1 e.symm)).trans e0
  have h2a : OwnsS (w.alloc X) base v2 l2 := OwnsS.alloc h.b X
  have h2 : OwnsS w1 base v2 l2 := ownsRow_same h2a (fun g e => g1.block g (own_lt h2a e) (fun e2 => h.ne g e2.symm e))
  have hn1 := row_neS o1 e1 (by decide)
  have hn2 := row_neS h2 e1 (by decide)
  have gs := grown_setCell w1 rb 1 v1'
  refine ⟨e1, ⟨heap_setCell_same w1 rb 1 _ _ v1' e1, ownsRow_same o1 (fun g e => gs.block g (own_lt o1 e) (fun e2 => hn1 (by rw [e, e2]))), ownsRow_same h2 (fun g e => gs.block g (own_lt h2 e) (fun e2 => hn2 (by rw [e, e2]))), ?_⟩, ?_, ?_, ?_⟩
  · intro g eg e2
    rcases p1 with p1 | p1
    · exact h.ne g (by rw [← p1]; exact eg) e2
    · rw [p1] at eg
      obtain rfl := Option.some.inj eg
      have := own_lt h.b e2
      rw [hsz] at this; omega
  · have f1 : Fr (DSet rb v1 v2) w w1 := (Fr.below ((Below.refl _ _).alloc (Nat.le_refl _) X)).trans (Fr.grown g1 (fun g e => .inr (.inl e)))
    exact f1.trans (Fr.set w1 rb 1 v1' (.inl rfl))
  · have := g1.size
    omega
  · rintro x (rfl | hx | hx)
    · exact .inl (.inl rfl)
    · rcases p1 with p1 | p1
      · exact .inl (.inr (.inl (by rw [← p1]; exact hx)))
      · rw [p1] at hx
        obtain rfl := Option.some.inj hx
        exact .inr (by rw [hsz]; omega)
    · exact .inl (.inr (.inr hx))
theorem DSt.grow2 {w1 : World} {v2' : Value} {l2' : List (List UInt8)} {X : Obj} (h : DSt w rb v1 v2 base room l1 l2)
    (o1 : OwnsS w1 base v2' l2') (g1 : (w.alloc X).grownBy w1 v2.ownBlock) (p1 : v2'.ownBlock = v2.ownBlock ∨ v2'.ownBlock = some (w.alloc X).heap.size) :
    w1.heap[rb]? = some (.cells #[.int .i64 room, v1, v2] 199 (0, 0)) ∧ DSt (w1.setCell ⟨rb, 2, none⟩ v2') rb v1 v2' base room l1 l2' ∧ Fr (DSet rb v1 v2) w (w1.setCell ⟨rb, 2, none⟩ v2') ∧ w.heap.size < w1.heap.size ∧ (∀ x, DSet rb v1 v2' x → DSet rb v1 v2 x ∨ w.heap.size ≤ x) := by
  have hsz : (w.alloc X).heap.size = w.heap.size + 1 := by simp
  have e0 : (w.alloc X).heap[rb]? = _ := (Below.heap_alloc _ _ _ h.lt).trans h.c
  have e1 : w1.heap[rb]? = _ := (g1.block rb (by rw [hsz]; have := h.lt; omega) (fun e => h.neRow.2 e.symm)).trans e0
  have h2a : OwnsS (w.alloc X) base v1 l1 := OwnsS.alloc h.n X
  have h2 : OwnsS w1 base v1 l1 := ownsRow_same h2a (fun g e => g1.block g (own_lt h2a e) (fun e2 => h.ne g e e2.symm))
  have hn1 := row_neS o1 e1 (by decide)
  have hn2 := row_neS h2 e1 (by decide)
  have gs := grown_setCell w1 rb 2 v2'
  refine ⟨e1, ⟨heap_setCell_same w1 rb 2 _ _ v2' e1, ownsRow_same h2 (fun g e => gs.block g (own_lt h2 e) (fun e2 => hn2 (by rw [e, e2]))), ownsRow_same o1 (fun g e => gs.block g (own_lt o1 e) (fun e2 => hn1 (by rw [e, e2]))), ?_⟩, ?_, ?_, ?_⟩
  · intro g eg e2
    rcases p1 with p1 | p1
    · exact h.ne g eg (by rw [← p1]; exact e2)
    · rw [p1] at e2
      obtain rfl := Option.some.inj e2
      have := own_lt h.n eg
      rw [hsz] at this; omega
  · have f1 : Fr (DSet rb v1 v2) w w1 := (Fr.below ((Below.refl _ _).alloc (Nat.le_refl _) X)).trans (Fr.grown g1 (fun g e => .inr (.inr e)))
    exact f1.trans (Fr.set w1 rb 2 v2' (.inl rfl))
  · have := g1.size
    omega
  · rintro x (rfl | hx | hx)
    · exact .inl (.inl rfl)
    · exact .inl (.inr (.inl hx))
    · rcases p1 with p1 | p1
      · exact .inl (.inr (.inr (by rw [← p1]; exact hx)))
      · rw [p1] at hx
        obtain rfl := Option.some.inj hx
        exact .inr (by rw [hsz]; omega)
end
def DS (w : World) (rb : Nat) (v1 v2 : Value) (base : Nat) (room : Int) (st : List (List UInt8 × List UInt8)) : Prop := DSt w rb v1 v2 base room (st.map (·.1)) (st.map (·.2))
theorem DS.r {w : World} {rb base : Nat} {v1 v2 : Value} {room : Int} {st : List (List UInt8 × List UInt8)} (h : DS w rb v1 v2 base room st) : RStore w rb room st := by
  obtain ⟨a1, c1, e1, t1, -, -⟩ := OwnsS.texts h.n
  obtain ⟨a2, c2, e2, t2, -, -⟩ := OwnsS.texts h.b
  rw [List.length_map] at e1 e2
  have k0 := cell_of_block (j := 0) h.c
  have k1 := cell_of_block (j := 1) h.c
  have k2 := cell_of_block (j := 2) h.c
  simp at k0 k1 k2
  exact ⟨k0, a1, c1, a2, c2, by rw [k1, e1], by rw [k2, e2], t1, t2⟩
end Go.Proofs.YtjmacegibchplaaGreatDoor

/-
  A list of texts is written full of a mark, and grows (cellarlaw.World's markTexts).
-/
namespace Go.Proofs.YtjmacegibchplaaGreatDoor
open Go.RowKit Go.Maps Go.WideMaps
set_option linter.unusedVariables false
def MarksStay (m : Value) (w w' : World) : Prop := ∀ b i, w.cell? ⟨b, i, none⟩ = some m → w'.cell? ⟨b, i, none⟩ = some m
theorem MarksStay.trans {m : Value} {a b c : World} (h : MarksStay m a b) (k : MarksStay m b c) : MarksStay m a c := fun x i e => k x i (h x i e)
theorem MarksStay.below {m : Value} {w w' : World} (h : Below w.heap.size w w') : MarksStay m w w' := fun b i e => (h.cell (p := ⟨b, i, none⟩) (block_lt e)).trans e
theorem app_mark {w : World} {ops : Array Oper} {rest : List Oper} {o : Oper} {a : Act} {Q : Exit → Act → World → Prop} (hgd : o.guard = none) (s x : Operand)
    (ho : o.op = .call { callee := .builtin .append, args := #[s, x], argTypes := #[23, 23] }) (base : Nat) (v : Value) (n : Nat) (m : List UInt8) (hs : a.eval s = v) (hown : OwnsS w base v (List.replicate n m))
    (ad : Addr) (j : Nat) (hj : 0 < j) (hj3 : j ≤ 3) (hx : a.eval x = .slice (some ad) j j) (hnews : ∀ i, i < j → w.cell? (ad.add i) = some (strVal m)) (hlen : n ≤ 2000000) (hbase : base ≤ w.heap.size)
    (h : ∀ v' w', OwnsS w' base v' (List.replicate (n + j) m) → w.grownBy w' v.ownBlock → (v'.ownBlock = v.ownBlock ∨ v'.ownBlock = some w.heap.size) → OwnsS w' base v (List.replicate n m) → MarksStay (strVal m) w w' → wpList Tryz.prog ops Q rest (a.put o.dst v') w') : wpList Tryz.prog ops Q (o :: rest) a w := by
  obtain ⟨i0, hi, hz0, hz1, hz2⟩ := info_parts info_str
  refine wpList_plain hgd fun K' hK' => ?_
  have hown' : w.ownsRow base 9 1 v n (List.replicate n (strVal m)) := by
    have := hown
    unfold OwnsS at this
    rw [List.length_replicate, List.map_replicate] at this
    exact this
  obtain ⟨v', w', hrun, r1, r2, r3, r4⟩ := run_append_two (P := Tryz.prog) w base 23 o.type 9 i0 _ 1 16 Tryz.underlying23 hi hz0 hz1 hz2 rfl (by decide) v n (List.replicate n (strVal m)) hown' ad j j hj (List.replicate j (strVal m)) (by simp) (fun i u hu => by
    obtain ⟨hi, rfl⟩ := List.getElem?_eq_some_iff.1 hu
    rw [List.getElem_replicate]
    exact hnews i (by simpa using hi)) (fun u hu => by rw [List.eq_of_mem_replicate hu]; rfl) (by unfold maxLen; omega) (by omega) hbase
  unfold Oper.wp
  simp [execOp, ho, resolve, invoke, builtin, hs, hx, hrun, Result.andThen]
  refine hK' _ _ (h v' w' ?_ r2 r3 ?_ ?_)
  · unfold OwnsS
    rw [List.length_replicate, List.map_replicate, ← List.replicate_append_replicate]
    exact r1
  · unfold OwnsS
    rw [List.length_replicate, List.map_replicate]
    exact r4.old
  · intro b i e
    have hbl := block_lt e
    by_cases hb : v.ownBlock = some b
    · rcases hown'.2 with ⟨rfl, _⟩ | ⟨g, cap, cur, rfl, hbg, hg, _⟩
      · simp [Value.ownBlock] at hb
      · obtain rfl : g = b := by simpa [Value.ownBlock] using hb
        obtain ⟨cur', hc', _, hcc⟩ := r4.cells g cur rfl hg
        rw [cell_of_block hc']
        rw [cell_of_block hg] at e
        rcases hcc i with h1 | ⟨h1, h2, h3⟩
        · rw [h1]; exact e
        · rw [h3, List.getElem?_replicate, if_pos (by simp at h2; omega)]
    · have := r2.block b hbl (fun e2 => hb e2.symm)
      exact (World.cell?_of_block (w := w) (a := ⟨b, i, none⟩) this).trans e
def OwnsL (w : World) (base : Nat) (v : Value) (l : List Value) : Prop := w.ownsRow base 23 1 v l.length l
theorem info_sls : (Tryz.prog.info? 23).map (fun i => (i.zero, i.size, i.bytes)) = some (some (.slice none 0 0), 1, 24) := by kernel_rfl
theorem app_slice {w : World} {ops : Array Oper} {rest : List Oper} {o : Oper} {a : Act} {Q : Exit → Act → World → Prop} (hgd : o.guard = none) (s x : Operand)
    (ho : o.op = .call { callee := .builtin .append, args := #[s, x], argTypes := #[86, 86] }) (base : Nat) (v : Value) (l : List Value) (hs : a.eval s = v) (hown : OwnsL w base v l)
    (ad : Addr) (y : Value) (hx : a.eval x = .slice (some ad) 1 1) (hnews : w.cell? (ad.add 0) = some y) (h1 : y.oneCell' = true) (hlen : l.length ≤ 20000000) (hbase : base ≤ w.heap.size)
    (h : ∀ v' w', OwnsL w' base v' (l ++ [y]) → w.grownBy w' v.ownBlock → (v'.ownBlock = v.ownBlock ∨ v'.ownBlock = some w.heap.size) → wpList Tryz.prog ops Q rest (a.put o.dst v') w') : wpList Tryz.prog ops Q (o :: rest) a w := by
  obtain ⟨i0, hi, hz0, hz1, hz2⟩ := info_parts info_sls
  refine wp_app_at hgd s x 86 ho base 23 i0 _ 24 Tryz.underlying86 hi hz0 hz1 hz2 rfl v l.length l hs hown ad y hx hnews h1 (by unfold maxLen; omega) (by omega) hbase ?_
  intro v' w' h1 h2 h3
  refine h v' w' ?_ h2 h3
  unfold OwnsL
  rw [List.length_append]
  exact h1
def WorldAt (w : World) (wb : Nat) (came : Int) (kT wT kI wI kE wE ps tx tx3 it it3 en en3 : Value) : Prop := w.heap[wb]? = some (.cells #[.int .i64 came, .bool false, kT, wT, kI, wI, kE, wE, ps, tx, tx3, it, it3, en, en3] 90 (0, 0))
def FullS (w : World) (v : Value) (n : Nat) (m : List UInt8) : Prop := ∃ a c, v = .slice a n c ∧ TextsAt w a (List.replicate n m)
theorem FullS.stay {w w' : World} {v : Value} {n : Nat} {m : List UInt8} (h : FullS w v n m) (hs : MarksStay (strVal m) w w') : FullS w' v n m := by
  obtain ⟨a, c, e, h⟩ := h
  refine ⟨a, c, e, ?_⟩
  rcases h with h | ⟨b, o, e2, h⟩
  · exact .inl h
  · refine .inr ⟨b, o, e2, fun i hi => ?_⟩
    have := h i hi
    rw [List.getElem_replicate] at this ⊢
    exact hs b (o + i) this
theorem OwnsS.full {w : World} {base n : Nat} {v : Value} {m : List UInt8} (h : OwnsS w base v (List.replicate n m)) : FullS w v n m := by
  obtain ⟨a, c, e, t, -, -⟩ := OwnsS.texts h
  rw [List.length_replicate] at e
  exact ⟨a, c, e, t⟩
end Go.Proofs.YtjmacegibchplaaGreatDoor

/-
  The document's store: Put.
-/
namespace Go.Proofs.YtjmacegibchplaaGreatDoor
open Go.RowKit Go.Maps Go.WideMaps
set_option linter.unusedVariables false
def DEnd (rb : Nat) (v1 v2 : Value) (base : Nat) (room : Int) (st' : List (List UInt8 × List UInt8)) (w w' : World) : Prop := ∃ v1' v2', DS w' rb v1' v2' base room st' ∧ Fr (DSet rb v1 v2) w w' ∧ ∀ x, DSet rb v1' v2' x → DSet rb v1 v2 x ∨ w.heap.size ≤ x
theorem DEnd.same {rb base : Nat} {v1 v2 : Value} {room : Int} {st : List (List UInt8 × List UInt8)} {w w' : World} (h : DS w rb v1 v2 base room st) (hb : Below w.heap.size w w') : DEnd rb v1 v2 base room st w w' := ⟨v1, v2, DSt.below h hb (Nat.le_refl _), Fr.below hb, fun x hx => .inl hx⟩
theorem sum_take (st : List (List UInt8 × List UInt8)) (k : Nat) (h : k < st.length) : sumP (st.take (k + 1)) = sumP (st.take k) + st[k].2.length := by
  rw [List.take_add_one, List.getElem?_eq_getElem h, sum_app]
  obtain ⟨a, b⟩ := st[k]
  simp [sumP]
theorem sum_take_le (st : List (List UInt8 × List UInt8)) (k : Nat) : sumP (st.take k) ≤ sumP st := by
  have h := sum_app (st.take k) (st.drop k)
  rw [List.take_append_drop] at h
  omega
theorem fr_comp {S T : Nat → Prop} {a b c : World} (f : Fr S a b) (g : Fr T b c) (h : ∀ x, T x → S x ∨ a.heap.size ≤ x) : Fr S a c :=
  ⟨g.os.trans f.os, g.tape.trans f.tape, g.output.trans f.output, Nat.le_trans f.size g.size, fun x hx hn => (g.block x (Nat.lt_of_lt_of_le hx f.size) (fun ht => by rcases h x ht with h | h; exact hn h; omega)).trans (f.block x hx hn)⟩
theorem shape3 {w : World} {base e size n : Nat} {v : Value} {xs : List Value} (h : w.ownsRow base e size v n xs) : ∃ a n c, v = .slice a n c := by
  obtain ⟨a, c, h⟩ := row_shape h
  exact ⟨a, _, c, h⟩
set_option maxRecDepth 100000 in
set_option maxHeartbeats 4000000 in
theorem refPut_any (st : List (List UInt8 × List UInt8)) (rb : Nat) (v1 v2 : Value) (base : Nat) (room : Int) (b : List UInt8) (w : World) (h : DS w rb v1 v2 base room st) (hbase : base ≤ w.heap.size) (hb : b.length ≤ 10000000) (hlen : st.length ≤ 1000000000) (hsum : sumP st ≤ 1000000000000) :
    Calls Tryz.prog 117 #[.pointer (some ⟨rb, 0, none⟩), .string (bs b)] w fun e w' => e = .returned (.int .i64 (putP room st b).1) ∧ DEnd rb v1 v2 base room (putP room st b).2 w w' := by
  have hdg : Calls Tryz.prog 20 #[.string (bs b)] w fun e w' => e = .returned (.string (bs (P.digest b))) ∧ ∃ n, w' = w.drewN n := by
    have := refDigest_any (bs b) w (by rw [bs_size]; unfold maxLen; omega)
    rw [bs_data] at this
    exact this
  have hix := atP_idx st (P.digest b)
  have hpu : putP room st b = if (atP st (P.digest b)).isSome then (0, st) else if room < (b.length : Int) + (sumP st : Int) then (6, st) else (0, st ++ [(P.digest b, b)]) := rfl
  generalize P.digest b = d at *
  have Hpu := hide hpu
  have Hdg := hide hdg
  clear hpu hdg
  go_enter Tryz.func117, Tryz.ntmps117
  go_wp2_with fail
  refine (unhide Hdg).mono ?_
  rintro e W1 ⟨rfl, n1, hW1⟩
  have hb1 : Below w.heap.size w W1 := by rw [hW1]; exact below_drewN (Below.refl _ _) n1
  have h1 : DS W1 rb v1 v2 base room st := DSt.below h hb1 (Nat.le_refl _)
  have hat := refAt_any st rb room d W1 (by unfold maxLen; omega) h1.r
  have Hat := hide hat
  have Hh := hide (And.intro h (And.intro hb1 h1))
  have hsz1 := hb1.size
  clear hat hW1 hb1 h1 h Hdg
  rcases hix with ⟨i1, i2⟩ | ⟨m, hm, i1, i2⟩
  · rw [i1] at Hat
    rw [i2] at Hpu
    go_wp2_with fail
    refine (unhide Hat).mono ?_
    rintro e w' ⟨rfl, hw'⟩
    rw [hw']
    clear hw' w' Hat i1 i2
    obtain ⟨h, hb1, h1⟩ := unhide Hh
    obtain ⟨a2, c2, e2, t2, -, -⟩ := OwnsS.texts h1.b
    rw [List.length_map] at e2
    subst e2
    have hsh : ∃ a n c, v1 = .slice a n c := by
      obtain ⟨a, c, h⟩ := row_shape h1.n
      exact ⟨a, _, c, h⟩
    obtain ⟨a1, n1', c1, rfl⟩ := hsh
    have k0 := cell_of_block (j := 0) h1.c
    have k1 := cell_of_block (j := 1) h1.c
    have k2 := cell_of_block (j := 2) h1.c
    simp at k0 k1 k2
    have hbz := bs_size b
    clear h hb1 h1
    go_wp2_with fail
    go_loopw [6, 7] (fun nv i wr => ∃ k : Nat, k ≤ st.length ∧ i = .int .i64 k ∧ nv = .int .i64 ((b.length : Int) + ((sumP (st.take k) : Nat) : Int)) ∧ W1 = wr) (fun _ i _ => st.length - (intOf i).toNat)
    case atStart => exact ⟨0, by omega, rfl, by simp [sumP], rfl⟩
    case round =>
      obtain ⟨k, hk, rfl, rfl, rfl⟩ := hrel
      have hle := sum_take_le st k
      by_cases hlt : k < st.length
      · have g1 : decide ((k : Int) < (st.length : Int)) = true := by simpa using hlt
        have q1 : (k : Int) < (st.length : Int) := by omega
        obtain ⟨b2, o2, rfl, hcb⟩ := textsGet t2 (k := k) (by simpa using hlt)
        rw [List.getElem_map] at hcb
        have hst := sum_take st k hlt
        have hle2 := sum_take_le st (k + 1)
        unfold strVal at hcb
        generalize st[k].2 = x at *
        have hzx := bs_size x
        have Hst := hide hst
        have hxl : x.length ≤ 1000000000000 := by omega
        generalize sumP (st.take k) = yy at *
        clear hst t2
        go_wp2_with fail
        refine ⟨⟨k + 1, by omega, by go_num, ?_, by first | rfl | trivial⟩, by simp [intOf]; omega⟩
        rw [unhide Hst]
        first | (congr 1; omega) | go_num
      · have g1 : decide ((k : Int) < (st.length : Int)) = false := by simpa using hlt
        obtain rfl : k = st.length := by omega
        rw [List.take_length]
        by_cases hr : room < (b.length : Int) + (sumP st : Int)
        · have d1 : decide (room < (b.length : Int) + ((sumP st : Nat) : Int)) = true := by simpa using hr
          have Hr := hide (show putP room st b = (6, st) by rw [unhide Hpu]; simp [hr])
          clear hle t2 Hpu hr
          go_wp2_with fail
          go_ret
          rw [unhide Hr]
          exact ⟨rfl, DEnd.same (unhide Hh).1 (unhide Hh).2.1⟩
        · have d1 : decide (room < (b.length : Int) + ((sumP st : Nat) : Int)) = false := by simpa using hr
          have Hr := hide (show putP room st b = (0, st ++ [(d, b)]) by rw [unhide Hpu]; simp [hr])
          have h1 := (unhide Hh).2.2
          have hl1 := h1.lt
          clear hle t2 Hpu hr
          go_wp2_with (at_builtin; refine app_text_at rfl (.tmp 45) (.tmp 47) rfl base _ _ rfl (OwnsS.alloc h1.n _) ⟨W1.heap.size, 0, none⟩ d rfl ?qa ?qb ?qc ?_)
          case qa => exact cell_of_block (heap_alloc_new W1 (.cells #[.string (bs d)] 9))
          case qb => simp; omega
          case qc => simp; omega
          intro v1' W2 o2 g2 p2
          obtain ⟨e1, D2, f2, z2, s2⟩ := DSt.grow1 h1 o2 g2 (by simpa using p2)
          have hsh : ∃ a n c, v1' = .slice a n c := by
            obtain ⟨a, c, h⟩ := row_shape o2
            exact ⟨a, _, c, h⟩
          obtain ⟨a1', n1'', c1', rfl⟩ := hsh
          have j1 := cell_of_block (j := 1) e1
          simp at j1
          have jl := (Array.getElem?_eq_some_iff.1 e1).1
          have jf := free_block (j := 1) e1
          have j2 := cell_of_block (j := 2) D2.c
          simp at j2
          have jl2 := D2.lt
          have ob := D2.b
          have hz2 : (W2.setCell ⟨rb, 1, none⟩ (.slice a1' n1'' c1')).heap.size = W2.heap.size := by simp
          have HD := hide (And.intro D2 (And.intro f2 s2))
          clear D2 f2 s2 o2 g2 p2 e1 h1
          go_wp2_with (at_builtin; refine app_text_at rfl (.tmp 55) (.tmp 57) rfl base _ _ rfl (OwnsS.alloc ob _) ⟨W2.heap.size, 0, none⟩ b rfl ?qa ?qb ?qc ?_)
          case qa =>
            have := cell_of_block (j := 0) (heap_alloc_new (W2.setCell ⟨rb, 1, none⟩ (.slice a1' n1'' c1')) (.cells #[.string (bs b)] 9))
            rw [hz2] at this
            exact this
          case qb => simp; omega
          case qc => simp; omega
          intro v2' W4 o4 g4 p4
          obtain ⟨D2, f2, s2⟩ := unhide HD
          obtain ⟨e4, D4, f4, z4, s4⟩ := DSt.grow2 D2 o4 g4 (by simpa using p4)
          obtain ⟨a2', n2'', c2', rfl⟩ := shape3 o4
          have i2 := cell_of_block (j := 2) e4
          simp at i2
          have il := (Array.getElem?_eq_some_iff.1 e4).1
          have if2 := free_block (j := 2) e4
          have Hend := hide (show DEnd rb (.slice a1 n1' c1) (.slice a2 st.length c2) base room (st ++ [(d, b)]) w (W4.setCell ⟨rb, 2, none⟩ (.slice a2' n2'' c2')) from by
            have hb1 := (unhide Hh).2.1
            refine ⟨.slice a1' n1'' c1', .slice a2' n2'' c2', ?_, fr_comp (fr_comp (Fr.below hb1) f2 (fun x hx => .inl hx)) f4 (fun x hx => ?_), fun x hx => ?_⟩
            · unfold DS
              rw [List.map_append, List.map_append]
              exact D4
            · rcases s2 x hx with h | h
              · exact .inl h
              · exact .inr (by omega)
            · rcases s4 x hx with h | h
              · rcases s2 x h with h | h
                · exact .inl h
                · exact .inr (by omega)
              · exact .inr (by rw [hz2] at h; omega))
          clear D2 f2 s2 D4 f4 s4 e4 g4 p4 o4 HD
          go_wp2_with fail
          go_ret
          rw [unhide Hr]
          exact ⟨rfl, unhide Hend⟩
  · rw [i1] at Hat
    rw [i2] at Hpu
    have d0 : decide ((0 : Int) ≤ (m : Int)) = true := by simp
    have Hr := hide (show putP room st b = (0, st) by rw [unhide Hpu]; simp)
    go_wp2_with fail
    refine (unhide Hat).mono ?_
    rintro e w' ⟨rfl, hw'⟩
    rw [hw']
    clear hw' w' Hat i1 i2 Hpu
    go_wp2_with fail
    go_ret
    rw [unhide Hr]
    exact ⟨rfl, DEnd.same (unhide Hh).1 (unhide Hh).2.1⟩
end Go.Proofs.YtjmacegibchplaaGreatDoor
