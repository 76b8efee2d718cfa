import Derived.Test.YtjmacegibchplaaGreatDoorLcC
import Derived.Test.YtjmacegibchplaaGreatDoorOfB
import Derived.Test.YtjmacegibchplaaGreatDoorLcA
import Derived.Deep.CutBlock
import Derived.Test.YtjmacegibchplaaGreatDoorUpF
namespace Go.Proofs.YtjmacegibchplaaGreatDoor
open Go.RowKit Go.Maps Go.WideMaps
set_option linter.unusedVariables false
set_option maxRecDepth 100000 in
set_option maxHeartbeats 1000000 in
theorem entriesOf_free (l : List En) (ad : Addr) (c : Nat) (w : World) (hl : l.length * 40 ≤ 140737488351232) (hi : LiesE w (some ad) l) :
  Calls Tryz.prog 15 #[.slice (some ad) l.length c] w fun e w' => e = .returned (.slice (some ⟨w.heap.size, 0, none⟩) l.length (l.length + 8)) ∧ EntsAt w' w.heap.size 0 (emarked l 8) ∧ Below w.heap.size w w' ∧ (∀ j, w'.frozen? ⟨w.heap.size, j, none⟩ = false) := by
 have hq := eqlE_nil
 have hlen := rowCells_length (n := 3) enCells_len l
 obtain ⟨W1, hmk, hrow, hbel, hfz⟩ : ∃ W1, (Instr.makeSlice 22 (.int .i64 ((l.length : Int) + 8)) (.int .i64 ((l.length : Int) + 8))).run Tryz.prog w = .ok (.slice (some ⟨w.heap.size, 0, none⟩) (l.length + 8) (l.length + 8)) W1
   ∧ RowAt enCells 3 W1 w.heap.size 0 (List.replicate (l.length + 8) en0) ∧ Below w.heap.size w W1 ∧ ∀ j, W1.frozen? ⟨w.heap.size, j, none⟩ = false := by
  obtain ⟨i0, hi0, hz0, hz1, hz2⟩ := info_parts info_ent
  have h := run_make (P := Tryz.prog) w 22 32 i0 _ Tryz.underlying22 hi0 hz0 .i64 .i64 ((l.length : Int) + 8) ((l.length : Int) + 8) (by omega) (by omega) (by rw [hz2]; omega) (by omega)
  rw [hz1, show ((l.length : Int) + 8).toNat = l.length + 8 by omega] at h
  exact ⟨_, h, RowAt.made enCells_len en0 _ rfl (l.length + 8) w 32, (Below.refl _ _).alloc (Nat.le_refl _) _, fun j => free_block (heap_alloc_new w _)⟩
 have hsrc := (hi.below hbel (Nat.le_refl _)).src
 have hcp := run_copy_rec (P := Tryz.prog) W1 22 22 3 32 w.heap.size 0 (l.length + 8) (l.length + 8) ad l.length c 3 (rowCells enCells l) Tryz.underlying22 (by kernel_rfl)
  (by rw [hlen]; congr 1; exact (Nat.min_eq_left (by omega)).symm) hsrc (fun j hj => hrow.there enCells_len j (by simp; omega)) (fun j _ => by rw [Nat.zero_add]; exact hfz j) (enCells_one l)
 have hrow2 : RowAt enCells 3 (W1.setCells w.heap.size 0 (rowCells enCells l)) w.heap.size 0 (emarked l 0) := by
  have := hrow.copied enCells_len l (by simp)
  unfold emarked
  simpa using this
 have hbel2 := below_setCells w.heap.size (Nat.le_refl _) (rowCells enCells l) 0 W1 hbel
 have hfz2 : ∀ j, (W1.setCells w.heap.size 0 (rowCells enCells l)).frozen? ⟨w.heap.size, j, none⟩ = false := fun j => by rw [World.frozen?_setCells]; exact hfz j
 generalize W1.setCells w.heap.size 0 (rowCells enCells l) = W2 at *
 clear hrow hfz hsrc hbel hi hlen
 go_enter Tryz.func15, Tryz.ntmps15
 go_wp2_with fail
 clear hcp hmk hq
 go_loopw [5] (fun i wr => ∃ k : Nat, k ≤ 8 ∧ i = .int .i64 k ∧ RowAt enCells 3 wr w.heap.size 0 (emarked l k) ∧ Below w.heap.size w wr ∧ ∀ j, wr.frozen? ⟨w.heap.size, j, none⟩ = false) (fun i _ => 8 - (intOf i).toNat)
 case atStart => exact ⟨0, by omega, rfl, hrow2, hbel2, hfz2⟩
 case round =>
  obtain ⟨k, hk, rfl, hr, hb, hf⟩ := hrel
  clear hrow2 hbel2 hfz2
  by_cases hlt : k < 8
  ·obtain ⟨c0, c1, c2⟩ := EntsAt.of_row hr (l.length + k) (by rw [emarked_len l k hk]; omega)
   have hnew := hr.store enCells_len (l.length + k) (by rw [emarked_len l k hk]; omega) enMark
   rw [emarked_succ l k hlt] at hnew
   generalize (emarked l k)[l.length + k]'(by rw [emarked_len l k hk]; omega) = y at *
   obtain ⟨nm, kd, dg⟩ := y
   simp only [Nat.zero_add] at c0 c1 c2
   have f0 := hf ((l.length + k) * 3)
   have f1 := hf ((l.length + k) * 3 + 1)
   have f2 := hf ((l.length + k) * 3 + 2)
   have hb' := below_setCells w.heap.size (Nat.le_refl _) (enCells enMark) (0 + (l.length + k) * 3) wr hb
   have hf' : ∀ j, (wr.setCells w.heap.size (0 + (l.length + k) * 3) (enCells enMark)).frozen? ⟨w.heap.size, j, none⟩ = false := fun j => by rw [World.frozen?_setCells]; exact hf j
   rw [Nat.zero_add, set3] at hnew hb'
   simp only [Nat.zero_add, set3] at hf'
   simp only [enMark] at hnew hb' hf'
   have H := hide (And.intro hnew (And.intro hb' hf'))
   clear hnew hb' hf' hf
   go_wp2_with fail
   go_roundw
   case rel =>
    obtain ⟨hnew, hb', hf'⟩ := unhide H
    exact ⟨k + 1, by omega, by go_num, hnew, hb', hf'⟩
   case measure => simp [intOf]; omega
  ·obtain rfl : k = 8 := by omega
   go_wp2_with fail
   go_ret
   exact ⟨rfl, EntsAt.of_row hr, hb, hf⟩
theorem eq_sentL (a1 b1 c1 a2 b2 c2 : Int) (w : World) :
  (Op.equalIn 10000 52 (.agg #[.int .i64 a1, .int .i64 b1, .int .i64 c1]) (.agg #[.int .i64 a2, .int .i64 b2, .int .i64 c2])).run Tryz.prog w
   = .ok (a1 == a2 && (b1 == b2 && c1 == c2)) w := by
 have u3 := Tryz.underlying3
 have a3 := Tryz.isAgg3
 have z3 := Tryz.sizeOf3
 have hS : Tryz.prog.underlying 52 = some (.struct (Tryz.prog.fieldsOf 52)) := by kernel_rfl
 have hp : Tryz.prog.stoodInHeld 52 = false := by kernel_rfl
 rw [show (10000 : Nat) = 9999 + 1 from rfl, run_equalIn_agg w 9999 52 _ _ hS hp]
 simp only [Program.fieldsOf, Tryz.underlying52]
 go_simp
 by_cases h1 : a1 = a2 <;> by_cases h2 : b1 = b2 <;> by_cases h3 : c1 = c2 <;> simp [h1, h2, h3]
theorem frozen_same {w w' : World} {g j : Nat} (h : w'.heap[g]? = w.heap[g]?) : w'.frozen? ⟨g, j, none⟩ = w.frozen? ⟨g, j, none⟩ := by
 simp [World.frozen?, h]
def CopyE (lo : Nat) (W : World) (t : List En) (ao : Option Addr) (co : Nat) : Prop :=
 (ao = none ∧ t = [] ∧ co = 0) ∨ ∃ g, ao = some ⟨g, 0, none⟩ ∧ (lo ≤ g ∧ g < W.heap.size) ∧ co = t.length + 8 ∧ EntsAt W g 0 (emarked t 8) ∧ ∀ j, W.frozen? ⟨g, j, none⟩ = false
theorem CopyE.fr {S : Nat → Prop} {lo : Nat} {W W' : World} {t : List En} {ao : Option Addr} {co : Nat} (h : CopyE lo W t ao co) (hf : Fr S W W') (hn : ∀ x, lo ≤ x → ¬ S x) : CopyE lo W' t ao co := by
 rcases h with h | ⟨g, e, hg, hc, hm, hz⟩
 ·exact .inl h
 ·have hb := hf.block g hg.2 (hn g hg.1)
  exact .inr ⟨g, e, ⟨hg.1, Nat.lt_of_lt_of_le hg.2 hf.size⟩, hc, hm.fr hf (hn g hg.1), fun j => (frozen_same hb).trans (hz j)⟩
theorem CopyE.lies {lo : Nat} {W : World} {t : List En} {ao : Option Addr} {co : Nat} (h : CopyE lo W t ao co) : LiesE W ao t := by
 rcases h with ⟨-, e, -⟩ | ⟨g, e, hg, hc, hm, hz⟩
 ·exact .inl e
 ·refine .inr ⟨g, 0, e, fun i h => ?_⟩
  have := hm i (by rw [emarked_len t 8 (by omega)]; omega)
  rwa [emarked_lo t i h] at this
theorem copyE_any (l : List En) (a : Option Addr) (c : Nat) (w : World) (hl : l.length * 40 ≤ 140737488351232) (hi : LiesE w a l) (hn : a = none → l = [] ∧ c = 0) :
  Calls Tryz.prog 15 #[.slice a l.length c] w fun e w' => ∃ a' c', e = .returned (.slice a' l.length c') ∧ CopyE w.heap.size w' l a' c' ∧ Below w.heap.size w w' ∧ (a' = none → a = none ∧ c = 0) := by
 cases a with
 | none =>
  obtain ⟨rfl, rfl⟩ := hn rfl
  refine (entriesOf_nil w).mono ?_
  rintro e w' ⟨rfl, rfl⟩
  exact ⟨none, 0, rfl, .inl ⟨rfl, rfl, rfl⟩, Below.refl _ _, fun _ => ⟨rfl, rfl⟩⟩
 | some ad =>
  refine (entriesOf_free l ad c w hl hi).mono ?_
  rintro e w' ⟨rfl, hm, hb, hz⟩
  refine ⟨_, _, rfl, .inr ⟨w.heap.size, rfl, ⟨Nat.le_refl _, ?_⟩, rfl, hm, hz⟩, hb, fun h => by simp at h⟩
  exact entAt_lt (hm 0 (by rw [emarked_len l 8 (by omega)]; omega))
theorem stillE_any (l : List En) (lo : Nat) (ao : Option Addr) (co : Nat) (a : Option Addr) (c : Nat) (w : World) (hl : l.length * 40 ≤ 140737488351232) (h : CopyE lo w l ao co) (hi : LiesE w a l) (hn : ao = none → a = none ∧ c = 0) :
  Calls Tryz.prog 16 #[.slice ao l.length co, .slice a l.length c] w fun e w3 => e = .returned (.bool true) ∧ ∃ n, w3 = w.drewN n := by
 rcases h with ⟨rfl, rfl, rfl⟩ | ⟨g, rfl, hg, rfl, hm, hz⟩
 ·obtain ⟨rfl, rfl⟩ := hn rfl
  exact stillEntries_nil w
 ·exact stillEntries_some l g a c w hl hm hi
def CopyI (lo : Nat) (W : World) (t : List Int) (ao : Option Addr) (co : Nat) : Prop :=
 (ao = none ∧ t = [] ∧ co = 0) ∨ ∃ g, ao = some ⟨g, 0, none⟩ ∧ (lo ≤ g ∧ g < W.heap.size) ∧ co = t.length + 8 ∧ InAt W g 0 (imarked t 8) ∧ ∀ j, W.frozen? ⟨g, j, none⟩ = false
theorem CopyI.fr {S : Nat → Prop} {lo : Nat} {W W' : World} {t : List Int} {ao : Option Addr} {co : Nat} (h : CopyI lo W t ao co) (hf : Fr S W W') (hn : ∀ x, lo ≤ x → ¬ S x) : CopyI lo W' t ao co := by
 rcases h with h | ⟨g, e, hg, hc, hm, hz⟩
 ·exact .inl h
 ·have hb := hf.block g hg.2 (hn g hg.1)
  exact .inr ⟨g, e, ⟨hg.1, Nat.lt_of_lt_of_le hg.2 hf.size⟩, hc, fun i hi => cell_fr hf (hm i hi) (hn g hg.1), fun j => (frozen_same hb).trans (hz j)⟩
theorem CopyI.ints {lo : Nat} {W : World} {t : List Int} {ao : Option Addr} {co : Nat} (h : CopyI lo W t ao co) : IntsAt W ao t := by
 rcases h with ⟨-, e, -⟩ | ⟨g, e, hg, hc, hm, hz⟩
 ·exact .inl e
 ·refine .inr ⟨g, 0, e, fun i h => ?_⟩
  have := hm i (by rw [imarked_len t 8 (by omega)]; omega)
  rwa [imarked_lo t i h] at this
theorem copyI_any (l : List Int) (a : Option Addr) (c : Nat) (w : World) (hl : l.length * 8 ≤ 140737488351232) (hi : IntsAt w a l) (hn : a = none → l = [] ∧ c = 0) :
  Calls Tryz.prog 164 #[.slice a l.length c] w fun e w' => ∃ a' c', e = .returned (.slice a' l.length c') ∧ CopyI w.heap.size w' l a' c' ∧ Below w.heap.size w w' ∧ (a' = none → a = none ∧ c = 0) := by
 cases a with
 | none =>
  obtain ⟨rfl, rfl⟩ := hn rfl
  refine (intsOf_nil w).mono ?_
  rintro e w' ⟨rfl, rfl⟩
  exact ⟨none, 0, rfl, .inl ⟨rfl, rfl, rfl⟩, Below.refl _ _, fun _ => ⟨rfl, rfl⟩⟩
 | some ad =>
  refine (intsOf_some l ad c w hl hi).mono ?_
  rintro e w' ⟨rfl, hm, hb, hz⟩
  refine ⟨_, _, rfl, .inr ⟨w.heap.size, rfl, ⟨Nat.le_refl _, ?_⟩, rfl, hm, hz⟩, hb, fun h => by simp at h⟩
  exact block_lt (hm 0 (by rw [imarked_len l 8 (by omega)]; omega))
theorem stillI_any (l : List Int) (lo : Nat) (ao : Option Addr) (co : Nat) (a : Option Addr) (c : Nat) (w : World) (hl : l.length * 8 ≤ 140737488351232) (h : CopyI lo w l ao co) (hi : IntsAt w a l) (hn : ao = none → a = none ∧ c = 0) :
  Calls Tryz.prog 165 #[.slice ao l.length co, .slice a l.length c] w fun e w3 => e = .returned (.bool true) ∧ ∃ n, w3 = w.drewN n := by
 rcases h with ⟨rfl, rfl, rfl⟩ | ⟨g, rfl, hg, rfl, hm, hz⟩
 ·obtain ⟨rfl, rfl⟩ := hn rfl
  exact stillInts_nil w
 ·exact stillInts_some l g a c w hl hm hi
structure Two (w : World) (base : Nat) (u1 u2 : Value) (l1 l2 : List (List UInt8)) : Prop where
 a : OwnsS w base u1 l1
 b : OwnsS w base u2 l2
 ne : ∀ g, u1.ownBlock = some g → u2.ownBlock ≠ some g
section
variable {w w1 : World} {base : Nat} {u1 u2 u' : Value} {l1 l2 l' : List (List UInt8)} {X : Obj}
theorem Two.app1 (h : Two w base u1 u2 l1 l2) (o : OwnsS w1 base u' l') (g : (w.alloc X).grownBy w1 u1.ownBlock) (p : u'.ownBlock = u1.ownBlock ∨ u'.ownBlock = some (w.alloc X).heap.size) : Two w1 base u' u2 l' l2 := by
 have h2a : OwnsS (w.alloc X) base u2 l2 := OwnsS.alloc h.b X
 refine ⟨o, ownsRow_same h2a (fun q e => g.block q (own_lt h2a e) (fun e2 => h.ne q e2.symm e)), fun q eq e2 => ?_⟩
 rcases p with p | p
 ·exact h.ne q (by rw [← p]; exact eq) e2
 ·rw [p] at eq
  obtain rfl := Option.some.inj eq
  have := own_lt h.b e2
  simp at this
  omega
theorem Two.app2 (h : Two w base u1 u2 l1 l2) (o : OwnsS w1 base u' l') (g : (w.alloc X).grownBy w1 u2.ownBlock) (p : u'.ownBlock = u2.ownBlock ∨ u'.ownBlock = some (w.alloc X).heap.size) : Two w1 base u1 u' l1 l' := by
 have h2a : OwnsS (w.alloc X) base u1 l1 := OwnsS.alloc h.a X
 refine ⟨ownsRow_same h2a (fun q e => g.block q (own_lt h2a e) (fun e2 => h.ne q e e2.symm)), o, fun q eq e2 => ?_⟩
 rcases p with p | p
 ·exact h.ne q eq (by rw [← p]; exact e2)
 ·rw [p] at e2
  obtain rfl := Option.some.inj e2
  have := own_lt h.a eq
  simp at this
  omega
end
def keepP (st : List (List UInt8 × List UInt8)) (d : List UInt8) (k : Nat) : List (List UInt8 × List UInt8) := (st.take k).filter (fun p => !(p.1 == d))
theorem keepP_succ (st : List (List UInt8 × List UInt8)) (d : List UInt8) (k : Nat) (h : k < st.length) : keepP st d (k + 1) = if st[k].1 = d then keepP st d k else keepP st d k ++ [st[k]] := by
 unfold keepP
 rw [List.take_add_one, List.getElem?_eq_getElem h, List.filter_append]
 by_cases e : st[k].1 = d
 ·simp [e]
 ·simp [e]
theorem keepP_len (st : List (List UInt8 × List UInt8)) (d : List UInt8) (k : Nat) : (keepP st d k).length ≤ st.length := by
 unfold keepP
 have h1 := List.length_filter_le (fun p : List UInt8 × List UInt8 => !(p.1 == d)) (st.take k)
 have h2 : (st.take k).length ≤ st.length := by simp; omega
 omega
set_option maxRecDepth 100000 in
set_option maxHeartbeats 4000000 in
theorem refPlant_any (st : List (List UInt8 × List UInt8)) (rb : Nat) (v1 v2 : Value) (base : Nat) (room : Int) (d b : List UInt8) (w : World) (h : DS w rb v1 v2 base room st) (hbase : base ≤ w.heap.size) (hlen : st.length ≤ 1000000000) :
  Calls Tryz.prog 121 #[.pointer (some ⟨rb, 0, none⟩), .string (bs d), .string (bs b)] w fun e w' => e = .returned (.tuple #[]) ∧ DEnd rb v1 v2 base room (plantP st d b) w w' := by
 obtain ⟨a1, c1, e1, t1, -, -⟩ := OwnsS.texts h.n
 obtain ⟨a2, c2, e2, t2, -, -⟩ := OwnsS.texts h.b
 rw [List.length_map] at e1 e2
 subst e1
 subst e2
 have Hh := hide h
 have hlt := h.lt
 have hcc := h.c
 clear h
 go_enter Tryz.func121, Tryz.ntmps121
 go_wp2_with fail
 go_loopw [6, 7, 8] (fun u6 u7 i wr => ∃ k : Nat, k ≤ st.length ∧ i = .int .i64 k ∧ Two wr w.heap.size u6 u7 ((keepP st d k).map (·.1)) ((keepP st d k).map (·.2)) ∧ Below w.heap.size w wr) (fun _ _ i _ => st.length - (intOf i).toNat)
 case atStart => exact ⟨0, by omega, rfl, ⟨World.ownsRow_nil _ _ _ _, World.ownsRow_nil _ _ _ _, fun g e => by simp [Value.ownBlock] at e⟩, Below.refl _ _⟩
 case round =>
  obtain ⟨k, hk, rfl, h2, hbel⟩ := hrel
  have hbs := hbel.size
  have hc := (hbel.block rb hlt).trans hcc
  have k1 := cell_of_block (j := 1) hc
  have k2 := cell_of_block (j := 2) hc
  simp at k1 k2
  have hkl := keepP_len st d k
  by_cases hltk : k < st.length
  ·have g1 : decide ((k : Int) < (st.length : Int)) = true := by simpa using hltk
   have q1 : (k : Int) < (st.length : Int) := by omega
   obtain ⟨b1, o1, rfl, cc1⟩ := textsGet (t1.below hbel (Nat.le_refl _)) (k := k) (by simpa using hltk)
   obtain ⟨b2, o2, rfl, cc2⟩ := textsGet (t2.below hbel (Nat.le_refl _)) (k := k) (by simpa using hltk)
   have lb2 : b2 < w.heap.size := by
    obtain ⟨b', o', e', c'⟩ := textsGet t2 (k := k) (by simpa using hltk)
    obtain ⟨rfl, rfl⟩ : b2 = b' ∧ o2 = o' := by simpa using e'
    exact block_lt c'
   rw [List.getElem_map] at cc1 cc2
   unfold strVal at cc1 cc2
   have hsu := keepP_succ st d k hltk
   generalize st[k] = p at *
   obtain ⟨x, y⟩ := p
   simp only at cc1 cc2 hsu
   have hE := str_eq2 x d
   clear hc
   by_cases he : x = d
   ·rw [if_pos he] at hsu
    have hx : (x == d) = true := by simpa using he
    rw [hx] at hE
    have Hz := hide (And.intro h2 (And.intro hsu hbel))
    clear he hx h2 hsu hbel hcc
    go_wp2_with fail
    refine ⟨⟨k + 1, by omega, by go_num, by rw [(unhide Hz).2.1]; exact (unhide Hz).1, (unhide Hz).2.2⟩, by simp [intOf]; omega⟩
   ·rw [if_neg he] at hsu
    have hx : (x == d) = false := by simpa using he
    rw [hx] at hE
    have Hz := hide (And.intro h2 (And.intro hsu (And.intro hbel hcc)))
    clear he hx hsu hbel hcc
    go_wp2_with (at_builtin; refine app_text_at rfl (.tmp 27) (.tmp 35) rfl w.heap.size _ _ rfl (OwnsS.alloc h2.a _) ⟨wr.heap.size, 0, none⟩ x rfl ?qa ?qb ?qc ?_)
    case qa => first | exact cell_of_block (heap_alloc_new wr (.cells #[.string (bs x)] 9)) | rfl
    case qb => first | omega | (simp; omega)
    case qc => first | omega | (simp; omega)
    intro u6' W2 o6 g6 p6
    have T2 := Two.app1 h2 o6 g6 (by simpa using p6)
    have hb2 : Below w.heap.size w W2 := ((unhide Hz).2.2.1.alloc hbs _).grown g6 (by simp; omega) (fun q hq => (World.ownsRow.lt h2.a q hq).1)
    have hc2 := (hb2.block rb hlt).trans (unhide Hz).2.2.2
    have m2 := cell_of_block (j := 2) hc2
    simp at m2
    have cc2' : W2.cell? ⟨b2, o2 + k, none⟩ = some (.string (bs y)) := by
     exact (hb2.cell (p := ⟨b2, o2 + k, none⟩) lb2).trans (((unhide Hz).2.2.1.cell (p := ⟨b2, o2 + k, none⟩) lb2).symm.trans cc2)
    have hbs2 := hb2.size
    have Hy := hide (And.intro T2 hb2)
    have T2b := T2.b
    clear h2 o6 g6 p6 T2 hb2 hc2 k1 k2 cc1 cc2
    go_wp2_with (at_builtin; refine app_text_at rfl (.tmp 37) (.tmp 45) rfl w.heap.size _ _ rfl (OwnsS.alloc T2b _) ⟨W2.heap.size, 0, none⟩ y rfl ?qa ?qb ?qc ?_)
    case qa => first | exact cell_of_block (heap_alloc_new W2 (.cells #[.string (bs y)] 9)) | rfl
    case qb => first | omega | (simp; omega)
    case qc => first | omega | (simp; omega)
    intro u7' W3 o7 g7 p7
    have T3 := Two.app2 (unhide Hy).1 o7 g7 (by simpa using p7)
    have hb3 : Below w.heap.size w W3 := ((unhide Hy).2.alloc hbs2 _).grown g7 (by simp; omega) (fun q hq => (World.ownsRow.lt T2b q hq).1)
    have Hx := hide (And.intro T3 hb3)
    clear T3 hb3 o7 g7 p7 T2b
    go_wp2_with fail
    refine ⟨⟨k + 1, by omega, by go_num, ?_, (unhide Hx).2⟩, by simp [intOf]; omega⟩
    rw [(unhide Hz).2.1, List.map_append, List.map_append]
    exact (unhide Hx).1
  ·have g1 : decide ((k : Int) < (st.length : Int)) = false := by simpa using hltk
   obtain rfl : k = st.length := by omega
   have hkp : keepP st d st.length = st.filter (fun p => !(p.1 == d)) := by unfold keepP; rw [List.take_length]
   have Hkp := hide hkp
   generalize keepP st d st.length = F at *
   have Hz := hide (And.intro h2 hbel)
   have h2a := h2.a
   have h2b := h2.b
   clear hkp h2 hbel t1 t2 hc
   obtain ⟨E, hE, hEb⟩ : ∃ E : Bool, (bs b).toList.isEmpty = E ∧ ((E = true ∧ b = []) ∨ (E = false ∧ b ≠ [])) := ⟨_, rfl, by
    rw [ByteArray.toList_eq, bs_data]
    cases b with
    | nil => exact .inl ⟨rfl, rfl⟩
    | cons a r => exact .inr ⟨rfl, by simp⟩⟩
   have HEb := hide hEb
   clear hEb
   go_upto_if 48 with fail
   go_cut [6, 7] (fun s6 s7 wx => Two wx w.heap.size s6 s7 ((plantP st d b).map (·.1)) ((plantP st d b).map (·.2)) ∧ Below w.heap.size w wx)
   case first =>
    have hFl : F.length ≤ 1000000000 := by omega
    rcases unhide HEb with ⟨e0, hb⟩ | ⟨e0, hb⟩
    ·have Hp := hide (show plantP st d b = F by unfold plantP; rw [unhide Hkp, hb]; simp)
     clear hE hb
     subst e0
     go_wp2_with fail
     go_meet
     rw [unhide Hp]
     exact unhide Hz
    ·have Hp := hide (show plantP st d b = F ++ [(d, b)] by unfold plantP; rw [unhide Hkp, if_neg hb])
     clear k1 k2 hkl hE hb
     subst e0
     go_wp2_with (at_builtin; refine app_text_at rfl (.tmp 49) (.tmp 51) rfl w.heap.size _ _ rfl (OwnsS.alloc h2a _) ⟨wr.heap.size, 0, none⟩ d rfl ?qa ?qb ?qc ?_)
     case qa => first | exact cell_of_block (heap_alloc_new wr (.cells #[.string (bs d)] 9)) | rfl
     case qb => first | omega | (simp; omega)
     case qc => first | omega | (simp; omega)
     intro u6' W2 o6 g6 p6
     have T2 := Two.app1 (unhide Hz).1 o6 g6 (by simpa using p6)
     have hb2 : Below w.heap.size w W2 := ((unhide Hz).2.alloc hbs _).grown g6 (by simp; omega) (fun q hq => (World.ownsRow.lt h2a q hq).1)
     have hbs2 := hb2.size
     have Hy := hide (And.intro T2 hb2)
     have T2b := T2.b
     clear o6 g6 p6 T2 hb2 h2a h2b
     go_wp2_with (at_builtin; refine app_text_at rfl (.tmp 53) (.tmp 55) rfl w.heap.size _ _ rfl (OwnsS.alloc T2b _) ⟨W2.heap.size, 0, none⟩ b rfl ?qa ?qb ?qc ?_)
     case qa => first | exact cell_of_block (heap_alloc_new W2 (.cells #[.string (bs b)] 9)) | rfl
     case qb => first | omega | (simp; omega)
     case qc => first | omega | (simp; omega)
     intro u7' W3 o7 g7 p7
     have T3 := Two.app2 (unhide Hy).1 o7 g7 (by simpa using p7)
     have hb3 : Below w.heap.size w W3 := ((unhide Hy).2.alloc hbs2 _).grown g7 (by simp; omega) (fun q hq => (World.ownsRow.lt T2b q hq).1)
     go_wp2_with fail
     go_meet
     rw [unhide Hp, List.map_append, List.map_append]
     exact ⟨T3, hb3⟩
   case rest =>
    rename World => wx
    obtain ⟨T3, hb3⟩ := hcut
    have hc3 := (hb3.block rb hlt).trans hcc
    obtain ⟨a6, n6, c6, rfl⟩ := shape3 T3.a
    obtain ⟨a7, n7, c7, rfl⟩ := shape3 T3.b
    have m1 := cell_of_block (j := 1) hc3
    have m2 := cell_of_block (j := 2) hc3
    simp at m1 m2
    have ml := (Array.getElem?_eq_some_iff.1 hc3).1
    have mf := fun j => free_block (j := j) hc3
    have s1 := heap_setCell_same wx rb 1 _ _ (.slice a6 n6 c6) hc3
    have s2 := heap_setCell_same _ rb 2 _ _ (.slice a7 n7 c7) s1
    have hn1 := row_neS T3.a hc3 (by decide)
    have hn2 := row_neS T3.b hc3 (by decide)
    have hfr : Fr (fun x => x = rb) wx ((wx.setCell ⟨rb, 1, none⟩ (.slice a6 n6 c6)).setCell ⟨rb, 2, none⟩ (.slice a7 n7 c7)) := (Fr.set (S := fun x => x = rb) wx rb 1 _ rfl).trans (Fr.set (S := fun x => x = rb) _ rb 2 _ rfl)
    have Hend := hide (show DEnd rb (.slice a1 st.length c1) (.slice a2 st.length c2) base room (plantP st d b) w ((wx.setCell ⟨rb, 1, none⟩ (.slice a6 n6 c6)).setCell ⟨rb, 2, none⟩ (.slice a7 n7 c7)) from by
     refine ⟨.slice a6 n6 c6, .slice a7 n7 c7, ⟨s2, OwnsS.weak (ownsRow_same T3.a (fun g e => hfr.block g (own_lt T3.a e) (fun e2 => hn1 (by rw [e, e2])))) hbase, OwnsS.weak (ownsRow_same T3.b (fun g e => hfr.block g (own_lt T3.b e) (fun e2 => hn2 (by rw [e, e2])))) hbase, T3.ne⟩, fr_comp (Fr.widen hb3 hfr (fun x _ h => .inl h)) (Fr.below (Below.refl _ _)) (fun x h => .inl h), ?_⟩
     rintro x (rfl | hx | hx)
     ·exact .inl (.inl rfl)
     ·exact .inr (World.ownsRow.lt T3.a x hx).1
     ·exact .inr (World.ownsRow.lt T3.b x hx).1)
    clear T3 hb3 hc3 s1 s2 hn1 hn2 hfr Hz Hh h2a h2b hcc
    go_wp2_with fail
    go_end0
    exact ⟨rfl, unhide Hend⟩
structure Pair (w : World) (pp sb pb um n rb : Nat) (v1 v2 : Value) (base : Nat) (room : Int) (st : List (List UInt8 × List UInt8)) : Prop where
 p : w.heap[pp]? = some (.cells #[.pointer (some ⟨sb, 0, none⟩), .pointer (some ⟨rb, 0, none⟩)] 160 (0, 0))
 c : CS w sb pb um n room st
 d : DS w rb v1 v2 base room st
def PSet (pp sb pb um rb : Nat) (v1 v2 : Value) (x : Nat) : Prop := x = pp ∨ x = sb ∨ x = pb ∨ x = um ∨ DSet rb v1 v2 x
section
variable {w w' : World} {pp sb pb um n rb base : Nat} {v1 v2 : Value} {room : Int} {st : List (List UInt8 × List UInt8)}
theorem cells_ne {w : World} {b g : Nat} {c1 c2 : Array Value} {t1 t2 : TypeId} {f1 f2 : Nat × Nat} (h1 : w.heap[b]? = some (.cells c1 t1 f1)) (h2 : w.heap[g]? = some (.cells c2 t2 f2)) (hne : t1 ≠ t2) : b ≠ g := by
 rintro rfl
 rw [h1] at h2
 simp at h2
 exact hne h2.2.1
theorem row_map {w : World} {base s1 n1 m n : Nat} {v1 : Value} {xs1 : List Value} {e : TypeId} {F : List UInt8 → Option Value} (ho : w.ownsRow base e s1 v1 n1 xs1) (hm : MapIs w m n F) : v1.ownBlock ≠ some m := by
 intro h
 rcases ho.2 with ⟨rfl, _⟩ | ⟨g', cap, cur', rfl, hb', hgg, _⟩
 ·simp [Value.ownBlock] at h
 ·simp [Value.ownBlock] at h
  subst h
  exact map_ne_cells hm hgg rfl
theorem Pair.apart (h : Pair w pp sb pb um n rb v1 v2 base room st) : (∀ x, DSet rb v1 v2 x → x ≠ sb ∧ x ≠ pb ∧ x ≠ um ∧ x ≠ pp) ∧ pp ≠ sb ∧ pp ≠ pb ∧ pp ≠ um := by
 refine ⟨?_, cells_ne h.p h.c.c (by decide), cells_ne h.p h.c.p.s (by decide), map_ne_cells h.c.p.m h.p⟩
 rintro x (rfl | hx | hx)
 ·exact ⟨cells_ne h.d.c h.c.c (by decide), cells_ne h.d.c h.c.p.s (by decide), map_ne_cells h.c.p.m h.d.c, cells_ne h.d.c h.p (by decide)⟩
 ·exact ⟨fun e => row_neS h.d.n h.c.c (by decide) (by rw [hx, e]), fun e => row_neS h.d.n h.c.p.s (by decide) (by rw [hx, e]), fun e => row_map h.d.n h.c.p.m (by rw [hx, e]), fun e => row_neS h.d.n h.p (by decide) (by rw [hx, e])⟩
 ·exact ⟨fun e => row_neS h.d.b h.c.c (by decide) (by rw [hx, e]), fun e => row_neS h.d.b h.c.p.s (by decide) (by rw [hx, e]), fun e => row_map h.d.b h.c.p.m (by rw [hx, e]), fun e => row_neS h.d.b h.p (by decide) (by rw [hx, e])⟩
theorem Pair.lt (h : Pair w pp sb pb um n rb v1 v2 base room st) (x : Nat) (hx : PSet pp sb pb um rb v1 v2 x) : x < w.heap.size := by
 rcases hx with rfl | rfl | rfl | rfl | hx
 ·exact (Array.getElem?_eq_some_iff.1 h.p).1
 ·exact h.c.lt.1
 ·exact h.c.lt.2.1
 ·exact h.c.lt.2.2
 ·exact DSt.setLt h.d x hx
theorem Pair.fr {S : Nat → Prop} (h : Pair w pp sb pb um n rb v1 v2 base room st) (hf : Fr S w w') (hn : ∀ x, PSet pp sb pb um rb v1 v2 x → ¬ S x) : Pair w' pp sb pb um n rb v1 v2 base room st :=
 ⟨(hf.block pp (h.lt pp (.inl rfl)) (hn pp (.inl rfl))).trans h.p, h.c.fr hf (hn sb (.inr (.inl rfl))) (hn pb (.inr (.inr (.inl rfl)))) (hn um (.inr (.inr (.inr (.inl rfl))))), DSt.fr h.d hf (fun x hx => hn x (.inr (.inr (.inr (.inr hx)))))⟩
theorem Pair.below {B : Nat} (h : Pair w pp sb pb um n rb v1 v2 base room st) (hb : Below B w w') (hB : w.heap.size ≤ B) : Pair w' pp sb pb um n rb v1 v2 base room st :=
 ⟨(hb.block pp (Nat.lt_of_lt_of_le (h.lt pp (.inl rfl)) hB)).trans h.p, h.c.below hb hB, DSt.below h.d hb hB⟩
theorem Pair.step {w1 w2 : World} {n' : Nat} {st' : List (List UInt8 × List UInt8)} (h : Pair w pp sb pb um n rb v1 v2 base room st) (hc : CS w1 sb pb um n' room st') (hf : Fr (fun x => x = pb ∨ x = um) w w1) (hd : DEnd rb v1 v2 base room st' w1 w2) :
  ∃ v1' v2', Pair w2 pp sb pb um n' rb v1' v2' base room st' ∧ Fr (PSet pp sb pb um rb v1 v2) w w2 ∧ ∀ x, PSet pp sb pb um rb v1' v2' x → PSet pp sb pb um rb v1 v2 x ∨ w.heap.size ≤ x := by
 obtain ⟨v1', v2', hd', hf2, hs⟩ := hd
 obtain ⟨a1, a2, a3, a4⟩ := h.apart
 have hlt := h.lt
 refine ⟨v1', v2', ⟨?_, hc.fr hf2 (fun e => (a1 sb e).1 rfl) (fun e => (a1 pb e).2.1 rfl) (fun e => (a1 um e).2.2.1 rfl), hd'⟩, ?_, ?_⟩
 ·exact (hf2.block pp (Nat.lt_of_lt_of_le (hlt pp (.inl rfl)) hf.size) (fun e => (a1 pp e).2.2.2 rfl)).trans ((hf.block pp (hlt pp (.inl rfl)) (by omega)).trans h.p)
 ·exact fr_comp (hf.mono (fun x hx => by rcases hx with rfl | rfl; exact .inr (.inr (.inl rfl)); exact .inr (.inr (.inr (.inl rfl))))) hf2 (fun x hx => .inl (.inr (.inr (.inr (.inr hx)))))
 ·rintro x (rfl | rfl | rfl | rfl | hx)
  ·exact .inl (.inl rfl)
  ·exact .inl (.inr (.inl rfl))
  ·exact .inl (.inr (.inr (.inl rfl)))
  ·exact .inl (.inr (.inr (.inr (.inl rfl))))
  ·rcases hs x hx with h1 | h1
   ·exact .inl (.inr (.inr (.inr (.inr h1))))
   ·exact .inr (Nat.le_trans hf.size h1)
end
theorem refNew_ds (room : Int) (w : World) (base : Nat) (h0 : 0 ≤ room) (h1 : room ≤ 100000) :
  Calls Tryz.prog 112 #[.int .i64 room] w fun e w' => e = .returned (.tuple #[.pointer (some ⟨w.heap.size, 0, none⟩), .int .i64 0]) ∧ DS w' w.heap.size (.slice none 0 0) (.slice none 0 0) base room [] ∧ Below w.heap.size w w' := by
 have hn : ¬ room < 0 := by omega
 have hg : ¬ 100000 < room := by omega
 go_enter Tryz.func112, Tryz.ntmps112
 go_wp2_with fail
 go_ret2
 exact ⟨rfl, ⟨heap_alloc_new w _, World.ownsRow_nil _ _ _ _, World.ownsRow_nil _ _ _ _, fun g e => by simp [Value.ownBlock] at e⟩, (Below.refl _ _).alloc (Nat.le_refl _) _⟩
set_option maxHeartbeats 1000000 in
theorem open_no (room : Int) (w : World) (h : room < 0 ∨ 100000 < room) :
  Calls Tryz.prog 74 #[.int .i64 room] w fun e w' => e = .returned (.tuple #[.pointer none, .bool true]) ∧ Below w.heap.size w w' := by
 go_enter Tryz.func74, Tryz.ntmps74
 go_wp2_with fail
 refine (cNew_no room w h).mono ?_
 rintro e w' ⟨rfl, hw'⟩
 rw [hw']
 clear hw' w'
 go_wp2_with fail
 refine (refNew_no room w h).mono ?_
 rintro e w' ⟨rfl, hw'⟩
 rw [hw']
 clear hw' w'
 go_wp2_with fail
 go_ret2
 exact ⟨rfl, Below.refl _ _⟩
set_option maxHeartbeats 1000000 in
theorem open_ok (room : Int) (w : World) (base : Nat) (h0 : 0 ≤ room) (h1 : room ≤ 100000) :
  Calls Tryz.prog 74 #[.int .i64 room] w fun e w' => ∃ pp sb pb um rb, e = .returned (.tuple #[.pointer (some ⟨pp, 0, none⟩), .bool true]) ∧ Pair w' pp sb pb um 0 rb (.slice none 0 0) (.slice none 0 0) base room [] ∧ (∀ x, PSet pp sb pb um rb (.slice none 0 0) (.slice none 0 0) x → w.heap.size ≤ x) ∧ Below w.heap.size w w' := by
 go_enter Tryz.func74, Tryz.ntmps74
 go_wp2_with fail
 refine (cNew_ok room w h0 h1).mono ?_
 rintro e W1 ⟨sb, pb, um, rfl, hc1, hge, hb1⟩
 have Hc1 := hide hc1
 clear hc1
 go_wp2_with fail
 refine (refNew_ds room W1 base h0 h1).mono ?_
 rintro e W2 ⟨rfl, hd2, hb2⟩
 have hbw2 := hb1.trans (hb2.mono hb1.size)
 have hbA : Below W2.heap.size W2 (W2.alloc (.cells #[.pointer (some ⟨sb, 0, none⟩), .pointer (some ⟨W1.heap.size, 0, none⟩)] 160)) := (Below.refl _ _).alloc (Nat.le_refl _) _
 have Hend := hide (And.intro (Pair.mk (heap_alloc_new W2 (.cells #[.pointer (some ⟨sb, 0, none⟩), .pointer (some ⟨W1.heap.size, 0, none⟩)] 160)) (((unhide Hc1).below hb2 (Nat.le_refl _)).below hbA (Nat.le_refl _)) (DSt.below hd2 hbA (Nat.le_refl _))) (hbw2.trans (hbA.mono hbw2.size)))
 have hs1 := hb1.size
 have hs2 := hbw2.size
 clear hd2 hb2 hbw2 hbA Hc1
 go_wp2_with fail
 go_ret2
 refine ⟨_, _, _, _, _, rfl, (unhide Hend).1, ?_, (unhide Hend).2⟩
 rintro x (rfl | rfl | rfl | rfl | rfl | hx | hx)
 ·omega
 ·exact hge.1
 ·exact hge.2.1
 ·exact hge.2.2
 ·omega
 ·simp [Value.ownBlock] at hx
 ·simp [Value.ownBlock] at hx
end Go.Proofs.YtjmacegibchplaaGreatDoor