import Derived.Test.YtjmacegibchplaaGreatDoorFtB
import Derived.Test.YtjmacegibchplaaGreatDoorUpA
import Derived.Test.YtjmacegibchplaaGreatDoorEntB
import Derived.Test.YtjmacegibchplaaGreatDoorPrC
import Derived.Laws.AppendOwnNone
import Derived.Deep.CutBlock
import Derived.Deep.RegionHeld3
/-
  The program's Fetch: an item is visited (the closure of Tree).
-/
namespace Go.Proofs.YtjmacegibchplaaGreatDoor
open Go.RowKit Go.Maps Go.WideMaps
set_option linter.unusedVariables false
structure FSt (w : World) (base bl be bd bf : Nat) (v : Value) (out : List En) (ents dep : Int) (pb um n : Nat) (room : Int) (st : List (List UInt8 × List UInt8)) : Prop where
  l : w.heap[bl]? = some (.cells #[v] 22 (0, 0))
  own : OwnsE w base v out
  e : w.heap[be]? = some (.cells #[.int .i64 (min ents 40)] 3 (0, 0))
  d : w.heap[bd]? = some (.cells #[.int .i64 (min dep 5)] 3 (0, 0))
  f : w.heap[bf]? = some (.cells #[.pointer (some ⟨pb, 0, none⟩)] 95 (0, 0))
  s : PStore w pb um n room st
  g : GlobOk w
  len : out.length ≤ 40
  bas : base ≤ w.heap.size
  gb : 0 < base
  bb : base ≤ bl
section
variable {w w' : World} {base bl be bd bf : Nat} {v : Value} {out : List En} {ents dep : Int} {pb um n : Nat} {room : Int} {st : List (List UInt8 × List UInt8)}
theorem FSt.below (h : FSt w base bl be bd bf v out ents dep pb um n room st) (hb : Below w.heap.size w w') : FSt w' base bl be bd bf v out ents dep pb um n room st :=
  ⟨(hb.block _ (Array.getElem?_eq_some_iff.1 h.l).1).trans h.l, ownsRow_same h.own (fun g hg => hb.block g (own_lt h.own hg)), (hb.block _ (Array.getElem?_eq_some_iff.1 h.e).1).trans h.e, (hb.block _ (Array.getElem?_eq_some_iff.1 h.d).1).trans h.d, (hb.block _ (Array.getElem?_eq_some_iff.1 h.f).1).trans h.f, h.s.below hb (Nat.le_refl _), h.g.below hb (Nat.le_refl _), h.len, Nat.le_trans h.bas hb.size, h.gb, h.bb⟩
theorem FSt.push {w4 : World} {v4 : Value} {y : En} (o : Obj) (h : FSt w base bl be bd bf v out ents dep pb um n room st) (hlt : out.length + 1 ≤ 40) (hg4 : (w.alloc o).grownBy w4 v.ownBlock) (ho : OwnsE w4 base v4 (out ++ [y])) :
    FSt (w4.setCell ⟨bl, 0, none⟩ v4) base bl be bd bf v4 (out ++ [y]) ents dep pb um n room st ∧ Fr (fun b => b = bl ∨ v.ownBlock = some b) w (w4.setCell ⟨bl, 0, none⟩ v4) := by
  have hfr : Fr (fun b => b = bl ∨ v.ownBlock = some b) w (w4.setCell ⟨bl, 0, none⟩ v4) := by
    refine ⟨?_, ?_, ?_, ?_, fun b hb hn => ?_⟩
    · exact hg4.os
    · exact hg4.tape
    · exact hg4.output
    · have := hg4.size; simp at this ⊢; omega
    · refine (Below.heap_setCell _ _ _ _ (fun e => hn (.inl e))).trans ((hg4.block b (by simp; omega) (fun e => hn (.inr e.symm))).trans (Below.heap_alloc w o b hb))
  have keep : ∀ (b : Nat) (t : TypeId) (cur : Array Value), w.heap[b]? = some (Obj.cells cur t (0, 0)) → t ≠ 22 → t ≠ 32 → (w4.setCell ⟨bl, 0, none⟩ v4).heap[b]? = some (Obj.cells cur t (0, 0)) := by
    intro b t cur hb h1 h2
    refine (hfr.block b (Array.getElem?_eq_some_iff.1 hb).1 ?_).trans hb
    rintro (e | e)
    · rw [e, h.l] at hb; simp at hb; exact h1 hb.2.symm
    · exact own_cells h.own e hb h2 rfl
  have hbl4 : w4.heap[bl]? = some (.cells #[v] 22 (0, 0)) := (hg4.block bl (by have := (Array.getElem?_eq_some_iff.1 h.l).1; simp; omega) (fun e => own_cells h.own e.symm h.l (by decide) rfl)).trans ((Below.heap_alloc w o bl (Array.getElem?_eq_some_iff.1 h.l).1).trans h.l)
  have hums : (w4.setCell ⟨bl, 0, none⟩ v4).heap[um]? = w.heap[um]? := by
    refine hfr.block um (h.s.lt um (.inr rfl)) ?_
    rintro (e | e)
    · exact map_ne_cells h.s.m h.l e.symm
    · exact map_not_row h.s.m h.own e.symm
  refine ⟨⟨heap_set0 _ hbl4, ?_, keep _ _ _ h.e (by decide) (by decide), keep _ _ _ h.d (by decide) (by decide), keep _ _ _ h.f (by decide) (by decide), ⟨keep _ _ _ h.s.s (by decide) (by decide), h.s.m.same hums, h.s.k⟩, ?_, by simpa using hlt, Nat.le_trans h.bas hfr.size, h.gb, h.bb⟩, hfr⟩
  · refine ownsRow_same ho (fun g hg => Below.heap_setCell _ _ _ _ ?_)
    exact own_cells ho hg hbl4 (by decide)
  · obtain ⟨m, hm⟩ := h.g
    refine ⟨m, cell_fr hfr hm ?_⟩
    rintro (e | e)
    · have := h.gb; have := h.bb; omega
    · have := (World.ownsRow.lt h.own _ e).1; have := h.gb; omega
end
end Go.Proofs.YtjmacegibchplaaGreatDoor

/-
  The program's Fetch: a directory's items are gone through.
-/
namespace Go.Proofs.YtjmacegibchplaaGreatDoor
open Go.RowKit Go.Maps Go.WideMaps
set_option linter.unusedVariables false
theorem FSt.with {w w' : World} {base bl be bd bf : Nat} {v : Value} {out : List En} {ents dep : Int} {pb um n : Nat} {room : Int} {st : List (List UInt8 × List UInt8)} (h : FSt w base bl be bd bf v out ents dep pb um n room st) (hb : Below w.heap.size w w') : FSt w' base bl be bd bf v out ents dep pb um n room st := h.below hb
end Go.Proofs.YtjmacegibchplaaGreatDoor

/-
  The program's calls on stores: New, Put, Get, Missing, Plant, Upload (package cellar).
-/
namespace Go.Proofs.YtjmacegibchplaaGreatDoor
open Go.RowKit Go.Maps Go.WideMaps
set_option linter.unusedVariables false
structure CS (w : World) (sb pb um n : Nat) (room : Int) (st : List (List UInt8 × List UInt8)) : Prop where
  c : w.heap[sb]? = some (.cells #[.pointer (some ⟨pb, 0, none⟩)] 99 (0, 0))
  p : PStore w pb um n room st
section
variable {w w' : World} {sb pb um n : Nat} {room : Int} {st : List (List UInt8 × List UInt8)}
theorem CS.lt (h : CS w sb pb um n room st) : sb < w.heap.size ∧ pb < w.heap.size ∧ um < w.heap.size := ⟨(Array.getElem?_eq_some_iff.1 h.c).1, h.p.lt pb (.inl rfl), h.p.lt um (.inr rfl)⟩
theorem CS.ne (h : CS w sb pb um n room st) : sb ≠ pb ∧ sb ≠ um := ⟨fun e => by have a := h.c; rw [e, h.p.s] at a; simp at a, fun e => map_ne_cells h.p.m h.c e⟩
theorem CS.below {B : Nat} (h : CS w sb pb um n room st) (hb : Below B w w') (hB : w.heap.size ≤ B) : CS w' sb pb um n room st := ⟨(hb.block sb (Nat.lt_of_lt_of_le h.lt.1 hB)).trans h.c, h.p.below hb hB⟩
theorem CS.fr {S : Nat → Prop} (h : CS w sb pb um n room st) (hf : Fr S w w') (h0 : ¬ S sb) (h1 : ¬ S pb) (h2 : ¬ S um) : CS w' sb pb um n room st := ⟨(hf.block sb h.lt.1 h0).trans h.c, h.p.fr hf h1 h2⟩
theorem CS.next {n' : Nat} {st' : List (List UInt8 × List UInt8)} (h : CS w sb pb um n room st) (hf : Fr (fun x => x = pb ∨ x = um) w w') (hp : PStore w' pb um n' room st') : CS w' sb pb um n' room st' := ⟨(hf.block sb h.lt.1 (by have := h.ne; omega)).trans h.c, hp⟩
end
theorem cNew_no (room : Int) (w : World) (h : room < 0 ∨ 100000 < room) :
    Calls Tryz.prog 26 #[.int .i64 room] w fun e w' => e = .returned (.tuple #[.pointer none, .int .i64 5]) ∧ w' = w := by
  have hn := storeNew_no room w h
  go_enter Tryz.func26, Tryz.ntmps26
  go_wp2_with (go_at_call 54; refine hn.mono ?_; rintro e w' ⟨rfl, hw'⟩; rw [hw']; clear hw' w')
  go_ret2
  exact ⟨rfl, rfl⟩
theorem cNew_ok (room : Int) (w : World) (h0 : 0 ≤ room) (h1 : room ≤ 100000) :
    Calls Tryz.prog 26 #[.int .i64 room] w fun e w' => ∃ sb pb um, e = .returned (.tuple #[.pointer (some ⟨sb, 0, none⟩), .int .i64 0]) ∧ CS w' sb pb um 0 room [] ∧ (w.heap.size ≤ sb ∧ w.heap.size ≤ pb ∧ w.heap.size ≤ um) ∧ Below w.heap.size w w' := by
  have hn := storeNew_ok room w h0 h1
  go_enter Tryz.func26, Tryz.ntmps26
  go_wp2_with fail
  refine hn.mono ?_
  rintro e w1 ⟨rfl, hp, hb⟩
  go_wp2_with fail
  go_ret2
  have hbA : Below w1.heap.size w1 (w1.alloc (.cells #[.pointer (some ⟨w.heap.size + 1, 0, none⟩)] 99)) := (Below.refl _ _).alloc (Nat.le_refl _) _
  exact ⟨w1.heap.size, w.heap.size + 1, w.heap.size, rfl, ⟨heap_alloc_new w1 _, hp.below hbA (Nat.le_refl _)⟩, ⟨hb.size, by omega, by omega⟩, hb.trans (hbA.mono hb.size)⟩
set_option maxHeartbeats 1000000 in
theorem cPut_any (st : List (List UInt8 × List UInt8)) (sb pb um n : Nat) (room : Int) (b : List UInt8) (w : World) (h : CS w sb pb um n room st) (hb : b.length ≤ 10000000) (hn : n < maxLen) (hsum : sumP st ≤ 1000000000000) (hr0 : 0 ≤ room) (hr : room ≤ 100000) :
    Calls Tryz.prog 37 #[.pointer (some ⟨sb, 0, none⟩), .string (bs b)] w fun e w' => e = .returned (.int .i64 (putP room st b).1) ∧ CS w' sb pb um (n + 1) room (putP room st b).2 ∧ Fr (fun x => x = pb ∨ x = um) w w' := by
  have hp := put_any st pb um n room b w h.p hb hn hsum hr0 hr
  have c0 := cell_of_block (j := 0) h.c
  simp only [List.getElem?_toArray, List.getElem?_cons_zero] at c0
  have Hp := hide hp
  have H := hide h
  clear hp h
  generalize putP room st b = q at *
  go_enter Tryz.func37, Tryz.ntmps37
  go_wp2_with fail
  refine (unhide Hp).mono ?_
  rintro e w1 ⟨rfl, hp1, hf1⟩
  go_wp2_with fail
  go_ret
  exact ⟨rfl, (unhide H).next hf1 hp1, hf1⟩
set_option maxHeartbeats 1000000 in
theorem cGet_any (st : List (List UInt8 × List UInt8)) (sb pb um n : Nat) (room : Int) (d : List UInt8) (w : World) (h : CS w sb pb um n room st) (hd : d.length ≤ maxLen) (hsz : ∀ b, atP st d = some b → b.length ≤ 10000000) :
    Calls Tryz.prog 118 #[.pointer (some ⟨sb, 0, none⟩), .string (bs d)] w fun e w' => e = .returned (.tuple #[.string (bs (getB st d)), .int .i64 (getE st d)]) ∧ Below w.heap.size w w' := by
  have hp := get_any st pb um n room d w h.p hd hsz
  have c0 := cell_of_block (j := 0) h.c
  simp only [List.getElem?_toArray, List.getElem?_cons_zero] at c0
  have Hp := hide hp
  clear hp h hsz
  generalize getB st d = gb at *
  generalize getE st d = ge at *
  go_enter Tryz.func118, Tryz.ntmps118
  go_wp2_with fail
  refine (unhide Hp).mono ?_
  rintro e w1 ⟨rfl, hb1⟩
  go_wp2_with fail
  go_ret2
  exact ⟨rfl, hb1⟩
set_option maxHeartbeats 1000000 in
theorem cMissing_any (st : List (List UInt8 × List UInt8)) (sb pb um n : Nat) (room : Int) (l : List (List UInt8)) (a : Option Addr) (c : Nat) (w : World) (h : CS w sb pb um n room st) (hl : l.length ≤ 1100000) (ht : TextsAt w a l) (hx : ∀ x ∈ l, x.length ≤ 10000000) :
    Calls Tryz.prog 161 #[.pointer (some ⟨sb, 0, none⟩), .slice a l.length c] w fun e w' => ∃ v, e = .returned v ∧ OwnsS w' w.heap.size v (missTo st l l.length) ∧ Below w.heap.size w w' := by
  have hp := missing_any st pb um n room l a c w h.p hl ht hx
  have c0 := cell_of_block (j := 0) h.c
  simp only [List.getElem?_toArray, List.getElem?_cons_zero] at c0
  have Hp := hide hp
  clear hp h hx ht
  generalize missTo st l l.length = M at *
  generalize l.length = nl at *
  go_enter Tryz.func161, Tryz.ntmps161
  go_wp2_with fail
  refine (unhide Hp).mono ?_
  rintro e w1 ⟨v, rfl, ho, hb1⟩
  go_wp2_with fail
  go_ret
  exact ⟨v, rfl, ho, hb1⟩
set_option maxHeartbeats 1000000 in
theorem cPlant_any (st : List (List UInt8 × List UInt8)) (sb pb um n : Nat) (room : Int) (d b : List UInt8) (w : World) (h : CS w sb pb um n room st) (hd : d.length ≤ 10000000) (hb : b.length ≤ 10000000) (hn : n < maxLen) (hsum : sumP st ≤ 1000000000000) :
    Calls Tryz.prog 36 #[.pointer (some ⟨sb, 0, none⟩), .string (bs d), .string (bs b)] w fun e w' => e = .returned (.tuple #[]) ∧ CS w' sb pb um (n + 1) room (plantP st d b) ∧ Fr (fun x => x = pb ∨ x = um) w w' := by
  have hp := plant_any st pb um n room d b w h.p hd hb hn hsum
  have c0 := cell_of_block (j := 0) h.c
  simp only [List.getElem?_toArray, List.getElem?_cons_zero] at c0
  have Hp := hide hp
  have H := hide h
  clear hp h
  generalize plantP st d b = q at *
  go_enter Tryz.func36, Tryz.ntmps36
  go_wp2_with fail
  refine (unhide Hp).mono ?_
  rintro e w1 ⟨rfl, hp1, hf1⟩
  go_wp2_with fail
  go_end0
  exact ⟨rfl, (unhide H).next hf1 hp1, hf1⟩
end Go.Proofs.YtjmacegibchplaaGreatDoor

/-
  The program's Fetch.
-/
namespace Go.Proofs.YtjmacegibchplaaGreatDoor
open Go.RowKit Go.Maps Go.WideMaps
set_option linter.unusedVariables false
end Go.Proofs.YtjmacegibchplaaGreatDoor

/-
  awake: a small tree is built, brought and fetched.
-/
namespace Go.Proofs.YtjmacegibchplaaGreatDoor
open Go.RowKit Go.Maps Go.WideMaps
set_option linter.unusedVariables false
theorem OwnsE.lies {w : World} {base : Nat} {v : Value} {l : List En} (h : OwnsE w base v l) : ∃ a c, v = .slice a l.length c ∧ LiesE w a l ∧ (∀ b o q, a = some ⟨b, o, q⟩ → base ≤ b) := by
  rcases h.2 with ⟨rfl, hn⟩ | ⟨g, cap, cur, rfl, hb, hg, hnc, hcm, hcs, htake⟩
  · exact ⟨none, 0, by rw [hn], .inl (List.eq_nil_of_length_eq_zero hn), fun b o q e => by simp at e⟩
  · refine ⟨some ⟨g, 0, none⟩, cap, rfl, .inr ⟨g, 0, rfl, fun i hi => ?_⟩, fun b o q e => by simp at e; omega⟩
    have := row_ent h i hi
    rw [Nat.zero_add]
    exact this
theorem Fr.toBelow {S : Nat → Prop} {B : Nat} {a b : World} (h : Fr S a b) (hB : B ≤ a.heap.size) (hs : ∀ x, S x → B ≤ x) : Below B a b :=
  ⟨h.os, h.tape, h.output, h.size, fun x hx => h.block x (by omega) (fun hS => by have := hs x hS; omega)⟩
theorem EntsAt.fr {S : Nat → Prop} {w w' : World} {b o : Nat} {l : List En} (h : EntsAt w b o l) (hf : Fr S w w') (hn : ¬ S b) : EntsAt w' b o l := fun i hi =>
  ⟨cell_fr hf (h i hi).1 hn, cell_fr hf (h i hi).2.1 hn, cell_fr hf (h i hi).2.2 hn⟩
theorem GlobOk.fr {S : Nat → Prop} {w w' : World} (h : GlobOk w) (hf : Fr S w w') (hn : ¬ S 0) : GlobOk w' := by
  obtain ⟨m, hm⟩ := h
  exact ⟨m, cell_fr hf hm hn⟩
theorem GlobOk.lt {w : World} (h : GlobOk w) : 0 < w.heap.size := by
  obtain ⟨m, hm⟩ := h
  exact block_lt hm
end Go.Proofs.YtjmacegibchplaaGreatDoor

/-
  The document's examples: the first four.
-/
namespace Go.Proofs.YtjmacegibchplaaGreatDoor
open Go.RowKit Go.Maps Go.WideMaps
set_option linter.unusedVariables false
end Go.Proofs.YtjmacegibchplaaGreatDoor

/-
  The statement on fetched trees (Rooted): its body.
-/
namespace Go.Proofs.YtjmacegibchplaaGreatDoor
open Go.RowKit Go.Maps Go.WideMaps
set_option linter.unusedVariables false
theorem app_texts {w : World} {ops : Array Oper} {rest : List Oper} {o : Oper} {a : Act} {Q : Exit → Act → World → Prop} (hgd : o.guard = none) (s x : Operand)
    (ho : o.op = .call { callee := .builtin .append, args := #[s, x], argTypes := #[23, 23] }) (base : Nat) (v : Value) (l : List (List UInt8)) (hs : a.eval s = v) (hown : OwnsS w base v l)
    (ad : Option Addr) (y : List (List UInt8)) (c : Nat) (hx : a.eval x = .slice ad y.length c) (hn : ad = none → y = [] ∧ c = 0) (hy : TextsAt w ad y)
    (hlen : l.length + y.length ≤ 4000000) (hbase : base ≤ w.heap.size)
    (h : ∀ v' w', OwnsS w' base v' (l ++ y) → w.grownBy w' v.ownBlock → wpList Tryz.prog ops Q rest (a.put o.dst v') w') : wpList Tryz.prog ops Q (o :: rest) a w := by
  obtain ⟨i0, hi, hz0, hz1, hz2⟩ := info_parts info_str
  cases ad with
  | none =>
    obtain ⟨rfl, rfl⟩ := hn rfl
    refine wpList_append_own_none hgd s x 23 ho base 9 i0 1 Tryz.underlying23 hi v l.length (l.map strVal) hs hown hx ?_
    exact h v w (by rw [List.append_nil]; exact hown) ⟨rfl, rfl, rfl, Nat.le_refl _, fun _ _ _ => rfl⟩
  | some ad =>
    refine wpList_append_own w hgd s x 23 ho base 9 i0 _ 1 16 Tryz.underlying23 hi hz0 hz1 hz2 rfl (by decide) v l.length (l.map strVal) hs hown ad y.length c (y.map strVal) hx (by simp) ?_ ?_ (by unfold maxLen; omega) (by omega) hbase ?_
    · intro j u hj
      rw [List.getElem?_map] at hj
      rcases hy with rfl | ⟨b, o', e, hy⟩
      · simp at hj
      · obtain ⟨z, hz, rfl⟩ := Option.map_eq_some_iff.1 hj
        obtain ⟨hjl, rfl⟩ := List.getElem?_eq_some_iff.1 hz
        obtain rfl : ad = ⟨b, o', none⟩ := by simpa using e
        rw [add_off]
        exact hy j hjl
    · intro u hu
      obtain ⟨z, _, rfl⟩ := List.mem_map.1 hu
      rfl
    · intro v' w' h2 h3 _
      refine h v' w' ?_ h3
      unfold OwnsS
      rw [List.length_append, List.map_append]
      exact h2
theorem row_neS {w : World} {base e1 s1 n1 b : Nat} {v1 : Value} {xs1 : List Value} {cur : Array Value} {e2 : TypeId} {fz : Nat × Nat} (h1 : w.ownsRow base e1 s1 v1 n1 xs1) (hb : w.heap[b]? = some (.cells cur e2 fz)) (hne : e1 ≠ e2) : v1.ownBlock ≠ some b := by
  intro hg
  rcases h1.2 with ⟨rfl, _⟩ | ⟨g', cap, cur', rfl, hb', hgg, _⟩
  · simp [Value.ownBlock] at hg
  · simp [Value.ownBlock] at hg
    subst hg
    rw [hb] at hgg
    simp at hgg
    exact hne hgg.2.1.symm
theorem CS.grown {w w' : World} {sb pb um n : Nat} {room : Int} {st : List (List UInt8 × List UInt8)} {base s1 n1 : Nat} {v1 : Value} {xs1 : List Value} (h : CS w sb pb um n room st) (ho : w.ownsRow base 9 s1 v1 n1 xs1) (hg : w.grownBy w' v1.ownBlock) : CS w' sb pb um n room st := by
  refine h.fr (S := fun x => v1.ownBlock = some x) (Fr.grown hg (fun g e => e)) (row_neS ho h.c (by decide)) (row_neS ho h.p.s (by decide)) ?_
  intro e
  rcases ho.2 with ⟨rfl, _⟩ | ⟨g', cap, cur', rfl, hb', hgg, _⟩
  · simp [Value.ownBlock] at e
  · simp [Value.ownBlock] at e
    subst e
    exact map_ne_cells h.p.m hgg rfl
end Go.Proofs.YtjmacegibchplaaGreatDoor
