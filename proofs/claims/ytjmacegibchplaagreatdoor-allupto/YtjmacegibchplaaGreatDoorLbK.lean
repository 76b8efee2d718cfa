import Derived.Test.YtjmacegibchplaaGreatDoorLbF
import Derived.Test.YtjmacegibchplaaGreatDoorLawD
import Derived.Test.YtjmacegibchplaaGreatDoorLawC
import Derived.Test.YtjmacegibchplaaGreatDoorTreeE
import Derived.Test.YtjmacegibchplaaGreatDoorEntB
import Derived.Test.YtjmacegibchplaaGreatDoorDecP
namespace Go.Proofs.YtjmacegibchplaaGreatDoor
open Go.RowKit Go.Maps Go.WideMaps
set_option linter.unusedVariables false
theorem pairMissing_any (l : List (List UInt8)) (a : Option Addr) (c : Nat) (pp sb pb um n rb : Nat) (v1 v2 : Value) (base : Nat) (room : Int) (st : List (List UInt8 × List UInt8)) (w : World) (h : Pair w pp sb pb um n rb v1 v2 base room st) (hst : st.length ≤ maxLen)
  (hl : l.length ≤ 1100000) (hi : TextsAt w a l) (hn : a = none → l = [] ∧ c = 0) (hx : ∀ x ∈ l, x.length ≤ 10000000) :
  Calls Tryz.prog 120 #[.pointer (some ⟨pp, 0, none⟩), .slice a l.length c] w fun e w' => ∃ v lv, e = .returned (.tuple #[v, .bool true]) ∧ OwnsS w' w.heap.size v lv ∧ lv.length ≤ 1100000 ∧ Below w.heap.size w w' := by
 cases a with
 | none =>
  obtain ⟨rfl, rfl⟩ := hn rfl
  refine (pairMissing_nil pp sb pb um n rb v1 v2 base room st w h hst).mono ?_
  rintro e w' ⟨v, h1, h2, h3⟩
  exact ⟨v, [], h1, h2, by simp, h3⟩
 | some ad =>
  refine (pairMissing_some l ad c pp sb pb um n rb v1 v2 base room st w h hst hl hi hx).mono ?_
  rintro e w' ⟨v, h1, h2, h3⟩
  exact ⟨v, _, h1, h2, Nat.le_trans (missTo_len st l l.length) hl, h3⟩
set_option maxRecDepth 100000 in
set_option maxHeartbeats 4000000 in
theorem uses_missing {w : World} {wb base N K : Nat} {ps : Value} {B : Nat → Prop} {L : List PR} (h : Sd w wb base ps B N K L) (hL : 0 < L.length) (hL2 : L.length ≤ 1000000) (hK : K ≤ 500000) (store A B' tr ba : Int) (S T : List UInt8) (X E Li : Value) (hs0 : -9223372036854775808 ≤ store) (hs1 : store ≤ 9223372036854775807) (hN : N ≤ 4000000) (hbase : base ≤ w.heap.size) (l : List (List UInt8)) (aX : Option Addr) (cX : Nat) (hX : X = .slice aX l.length cX) (hl : l.length ≤ 1100000) (hi' : TextsAt w aX l) (hn' : aX = none → l = [] ∧ cX = 0) (hx' : ∀ x ∈ l, x.length ≤ 10000000) :
  Calls Tryz.prog 78 #[.pointer (some ⟨wb, 0, none⟩), .agg (opC 4 store A B' S T X E Li tr ba)] w fun e w' => e = .returned (.bool true) ∧ ∃ B2, Sd w' wb base ps B2 (N + 2) K L ∧ Fr (fun x => base ≤ x) w w' := by
 subst hX
 obtain ⟨i, hi, hpi⟩ := pick_at store L.length hL
 have hpick := fun W => lawPick store L.length W hs0 hs1 (by omega) (by omega)
 rw [hpi] at hpick
 have hb0 : Below w.heap.size w (w.alloc (.cells (opC 4 store A B' S T (.slice aX l.length cX) E Li tr ba) 93)) := (Below.refl _ _).alloc (Nat.le_refl _) _
 have hnew := heap_alloc_new w (.cells (opC 4 store A B' S T (.slice aX l.length cX) E Li tr ba) 93)
 obtain ⟨W0, hW0⟩ : ∃ W0, w.alloc (.cells (opC 4 store A B' S T (.slice aX l.length cX) E Li tr ba) 93) = W0 := ⟨_, rfl⟩
 rw [hW0] at hb0 hnew
 have h0 := h.below hb0
 obtain ⟨g, cg, eps, hcell⟩ := h0.at i hi
 subst eps
 obtain ⟨-, cur, hwb, h8⟩ := h0.kp.wa
 have hwl := (Array.getElem?_eq_some_iff.1 hwb).1
 have hnl := (Array.getElem?_eq_some_iff.1 hnew).1
 have hgl := block_lt hcell
 have x0 := cell_of_block (j := 0) hnew
 have x1 := cell_of_block (j := 1) hnew
 have x6 := cell_of_block (j := 6) hnew
 unfold opC at x0 x1 x6 hW0 ⊢
 simp at x0 x1 x6
 have hok := h0.ok i hi
 have y0 := cell_of_block (j := 0) hok.pair.p
 have y1 := cell_of_block (j := 1) hok.pair.p
 simp at y0 y1
 have hpl := (Array.getElem?_eq_some_iff.1 hok.pair.p).1
 unfold PR.ptr at hcell
 have qi : (i : Int) < (L.length : Int) := by omega
 have HW0 := hide hW0
 have Hall := hide (And.intro h0 (And.intro hok hb0))
 have Htx := hide (And.intro (hi'.below hb0 (Nat.le_refl _)) hx')
 have hold : ∀ x, B x → x < w.heap.size := fun x hx => h.kp.setLt x hx
 have hold2 : ∀ j (hj : j < L.length) x, (L[j]).set x → x < w.heap.size := fun j hj x hx => (h.ok j hj).lt x hx
 have hold3 : ∀ x, (Value.slice (some ⟨g, 0, none⟩) L.length cg).ownBlock = some x → x < w.heap.size := fun x hx => own_lt h.row hx
 clear hi' hx'
 generalize L[i] = p at *
 clear h h0 hok hb0 hW0 hnew hwb
 go_enter Tryz.func78, Tryz.ntmps78
 go_wp2_with fail
 rw [unhide HW0]
 go_quiet ((go_at_call 116; exact Calls.quiet_of_same (hpick _)))
 obtain ⟨W1, hW1⟩ : ∃ W1, W0.drewN nq = W1 := ⟨_, rfl⟩
 rw [hW1]
 have hb1 : Below W0.heap.size W0 W1 := by rw [← hW1]; exact below_drewN (Below.refl _ _) _
 have hsz1 : W1.heap.size = W0.heap.size := by rw [← hW1]; simp
 have x0' : W1.cell? ⟨w.heap.size, 0, none⟩ = some (.int .i64 4) := (hb1.cell (p := ⟨w.heap.size, 0, none⟩) hnl).trans x0
 have x6' : W1.cell? ⟨w.heap.size, 6, none⟩ = some (.slice aX l.length cX) := (hb1.cell (p := ⟨w.heap.size, 6, none⟩) hnl).trans x6
 have y0' : W1.cell? ⟨p.pp, 0, none⟩ = some (.pointer (some ⟨p.sb, 0, none⟩)) := (hb1.cell (p := ⟨p.pp, 0, none⟩) hpl).trans y0
 have y1' : W1.cell? ⟨p.pp, 1, none⟩ = some (.pointer (some ⟨p.rb, 0, none⟩)) := (hb1.cell (p := ⟨p.pp, 1, none⟩) hpl).trans y1
 have hnl1 : w.heap.size < W1.heap.size := by omega
 have hpl1 : p.pp < W1.heap.size := by omega
 have hb01 : Below w.heap.size w W1 := (unhide Hall).2.2.trans (hb1.mono (unhide Hall).2.2.size)
 have H1 := hide (pairMissing_any l aX cX p.pp p.sb p.pb p.um p.n p.rb p.v1 p.v2 base p.room p.st W1 ((unhide Hall).2.1.pair.below hb1 (Nat.le_refl _)) (by have := (unhide Hall).2.1.len; unfold maxLen; omega) hl ((unhide Htx).1.below hb1 (Nat.le_refl _)) hn' (unhide Htx).2)
 have hs0' := (unhide Hall).2.2.size
 clear hW1 x0 x1 x6 y0 y1 hcell h8
 go_wp2_with fail
 refine (unhide H1).mono ?_
 rintro e W2 ⟨v, lv, rfl, ho2, hlv, hb2⟩
 have hS2 := ((unhide Hall).1.below hb1).below hb2
 have hvx : ∀ x, v.ownBlock = some x → w.heap.size ≤ x := fun x hx => by have := (World.ownsRow.lt ho2 x hx).1; omega
 have H2 := hide (hS2.kp.takeT (own_weak ho2 (by omega)) (fun x hx hB => by have h1 := hvx x hx; have h2 := hold x hB; omega) (by omega) hN (by have := hb2.size; omega))
 have HS2 := hide (And.intro hS2 hvx)
 clear hS2 ho2 hvx
 go_wp2_with fail
 refine (unhide H2).mono ?_
 rintro e W3 ⟨rfl, hk3, hf3⟩
 have hbw2 := ((unhide Hall).2.2.trans (hb1.mono (unhide Hall).2.2.size))
 have Hend := hide (And.intro ((unhide HS2).1.took hk3 hf3 (fun x hx e => by have h1 := (unhide HS2).2 x hx; have h2 := hold3 x e; omega) (fun j hj x hx e => by have h1 := (unhide HS2).2 x e; have h2 := hold2 j hj x hx; omega) (fun x hx => by have h1 := (unhide HS2).2 x hx; omega)) ((Fr.below (hbw2.trans (hb2.mono hbw2.size))).trans (hf3.mono (T := fun x => base ≤ x) (fun x hx => hx.elim ((unhide HS2).1.low.1 x) (fun e => by have h1 := (unhide HS2).2 x e; omega)))))
 clear hk3 hf3
 go_wp2_with fail
 go_ret
 exact ⟨rfl, _, unhide Hend⟩
set_option maxRecDepth 100000 in
set_option maxHeartbeats 4000000 in
theorem uses_plant {w : World} {wb base N K : Nat} {ps : Value} {B : Nat → Prop} {L : List PR} (h : Sd w wb base ps B N K L) (hL : 0 < L.length) (hL2 : L.length ≤ 1000000) (hK : K ≤ 500000) (store A B' tr ba : Int) (S T : List UInt8) (X E Li : Value) (hs0 : -9223372036854775808 ≤ store) (hs1 : store ≤ 9223372036854775807) (hS : S.length ≤ 1100000) (hT : T.length ≤ 1100000) (hbase : base ≤ w.heap.size) :
  Calls Tryz.prog 78 #[.pointer (some ⟨wb, 0, none⟩), .agg (opC 5 store A B' S T X E Li tr ba)] w fun e w' => e = .returned (.bool true) ∧ ∃ L', L'.length = L.length ∧ Sd w' wb base ps B N (K + 1) L' ∧ Fr (fun x => base ≤ x) w w' := by
 obtain ⟨i, hi, hpi⟩ := pick_at store L.length hL
 have hpick := fun W => lawPick store L.length W hs0 hs1 (by omega) (by omega)
 rw [hpi] at hpick
 have hb0 : Below w.heap.size w (w.alloc (.cells (opC 5 store A B' S T X E Li tr ba) 93)) := (Below.refl _ _).alloc (Nat.le_refl _) _
 have hnew := heap_alloc_new w (.cells (opC 5 store A B' S T X E Li tr ba) 93)
 obtain ⟨W0, hW0⟩ : ∃ W0, w.alloc (.cells (opC 5 store A B' S T X E Li tr ba) 93) = W0 := ⟨_, rfl⟩
 rw [hW0] at hb0 hnew
 have h0 := h.below hb0
 obtain ⟨g, cg, eps, hcell⟩ := h0.at i hi
 subst eps
 obtain ⟨-, cur, hwb, h8⟩ := h0.kp.wa
 have hwl := (Array.getElem?_eq_some_iff.1 hwb).1
 have hnl := (Array.getElem?_eq_some_iff.1 hnew).1
 have hgl := block_lt hcell
 have x0 := cell_of_block (j := 0) hnew
 have x1 := cell_of_block (j := 1) hnew
 have x4 := cell_of_block (j := 4) hnew
 have x5 := cell_of_block (j := 5) hnew
 unfold opC at x0 x1 x4 x5 hW0 ⊢
 simp at x0 x1 x4 x5
 have hok := h0.ok i hi
 have y0 := cell_of_block (j := 0) hok.pair.p
 have y1 := cell_of_block (j := 1) hok.pair.p
 simp at y0 y1
 have hpl := (Array.getElem?_eq_some_iff.1 hok.pair.p).1
 unfold PR.ptr at hcell
 have qi : (i : Int) < (L.length : Int) := by omega
 have HW0 := hide hW0
 have Hput := hide (fun W (q : PR) (f : Fr (L[i]).set W0 W) (hq : q.Ok W base (K + 1)) (hp : q.ptr = (L[i]).ptr) (hs : ∀ x, q.set x → (L[i]).set x ∨ W0.heap.size ≤ x) => And.intro (h0.put i hi q hq (Nat.le_succ K) hp f hs) ((Fr.below hb0).trans (f.mono (T := fun x => base ≤ x) (fun x hx => h0.low.2 i hi x hx))))
 have hold : ∀ x, (L[i]).set x → x < w.heap.size := fun x hx => (h.ok i hi).lt x hx
 have Hall := hide (And.intro h0 (And.intro hok hb0))
 generalize L[i] = p at *
 clear h h0 hok hb0 hW0 hnew hwb
 go_enter Tryz.func78, Tryz.ntmps78
 go_wp2_with fail
 rw [unhide HW0]
 go_quiet ((go_at_call 116; exact Calls.quiet_of_same (hpick _)))
 obtain ⟨W1, hW1⟩ : ∃ W1, W0.drewN nq = W1 := ⟨_, rfl⟩
 rw [hW1]
 have hb1 : Below W0.heap.size W0 W1 := by rw [← hW1]; exact below_drewN (Below.refl _ _) _
 have hsz1 : W1.heap.size = W0.heap.size := by rw [← hW1]; simp
 have x0' : W1.cell? ⟨w.heap.size, 0, none⟩ = some (.int .i64 5) := (hb1.cell (p := ⟨w.heap.size, 0, none⟩) hnl).trans x0
 have x4' : W1.cell? ⟨w.heap.size, 4, none⟩ = some (.string (bs S)) := (hb1.cell (p := ⟨w.heap.size, 4, none⟩) hnl).trans x4
 have x5' : W1.cell? ⟨w.heap.size, 5, none⟩ = some (.string (bs T)) := (hb1.cell (p := ⟨w.heap.size, 5, none⟩) hnl).trans x5
 have y0' : W1.cell? ⟨p.pp, 0, none⟩ = some (.pointer (some ⟨p.sb, 0, none⟩)) := (hb1.cell (p := ⟨p.pp, 0, none⟩) hpl).trans y0
 have y1' : W1.cell? ⟨p.pp, 1, none⟩ = some (.pointer (some ⟨p.rb, 0, none⟩)) := (hb1.cell (p := ⟨p.pp, 1, none⟩) hpl).trans y1
 have hnl1 : w.heap.size < W1.heap.size := by omega
 have hpl1 : p.pp < W1.heap.size := by omega
 have hb01 : Below w.heap.size w W1 := (unhide Hall).2.2.trans (hb1.mono (unhide Hall).2.2.size)
 have hsum : sumP p.st ≤ 1000000000000 := by have := (unhide Hall).2.1.sum; omega
 have H1 := hide (fun W (hW : Below W1.heap.size W1 W) => (cPlant_any p.st p.sb p.pb p.um p.n p.room S T W (((unhide Hall).2.1.pair.c.below hb1 (Nat.le_refl _)).below hW (Nat.le_refl _)) (by omega) (by omega) (by have := (unhide Hall).2.1.cnt; unfold maxLen; omega) hsum).mono (fun e w' (hh : e = .returned (.tuple #[]) ∧ CS w' p.sb p.pb p.um (p.n + 1) p.room (plantP p.st S T) ∧ Fr (fun x => x = p.pb ∨ x = p.um) W w') => (show e = .returned (.tuple #[]) ∧ CS w' p.sb p.pb p.um (p.n + 1) p.room (plantP p.st S T) ∧ Fr (fun x => x = p.pb ∨ x = p.um) W1 w' from ⟨hh.1, hh.2.1, (Fr.below hW).trans hh.2.2⟩)))
 clear hW1 x0 x1 x4 x5 y0 y1 hcell h8
 go_upto_region 15 with fail
 go_cut [102] (fun e wx => e = .tuple #[] ∧ CS wx p.sb p.pb p.um (p.n + 1) p.room (plantP p.st S T) ∧ Fr (fun x => x = p.pb ∨ x = p.um) W1 wx)
 case first =>
  go_region_with ((go_at_call 36; refine (unhide H1 _ (by first | exact (Below.refl _ _).drew | exact Below.refl _ _)).mono ?_; rintro e w9 ⟨rfl, hc9, hf9⟩; have Hc9 := hide (And.intro hc9 hf9); clear hc9 hf9))
  all_goals
   go_wp2_with fail
   go_meet
   exact ⟨rfl, (unhide Hc9).1, (unhide Hc9).2⟩
 case rest =>
  rename World => W2
  obtain ⟨rfl, hc2, hf2⟩ := hcut
  have hpr := (unhide Hall).2.1.pair.below hb1 (Nat.le_refl _)
  obtain ⟨ap1, ap2, ap3, ap4⟩ := hpr.apart
  have hbox : ¬ (w.heap.size = p.pb ∨ w.heap.size = p.um) := by
   rintro (e | e)
   ·have := hold p.pb (.inr (.inr (.inl rfl))); omega
   ·have := hold p.um (.inr (.inr (.inr (.inl rfl)))); omega
  have x4'' : W2.cell? ⟨w.heap.size, 4, none⟩ = some (.string (bs S)) := cell_fr hf2 x4' hbox
  have x5'' : W2.cell? ⟨w.heap.size, 5, none⟩ = some (.string (bs T)) := cell_fr hf2 x5' hbox
  have y1'' : W2.cell? ⟨p.pp, 1, none⟩ = some (.pointer (some ⟨p.rb, 0, none⟩)) := cell_fr hf2 y1' (by rintro (e | e); exact ap3 e; exact ap4 e)
  have hsz2 := hf2.size
  have hd2 := DSt.fr hpr.d hf2 (fun x hx hs => by rcases hs with e | e; exact (ap1 x hx).2.1 e; exact (ap1 x hx).2.2.1 e)
  have hbs2 : base ≤ W2.heap.size := by omega
  have H2 := hide (fun W (hW : Below W2.heap.size W2 W) => (refPlant_any p.st p.rb p.v1 p.v2 base p.room S T W (DSt.below hd2 hW (Nat.le_refl _)) (by have := hW.size; omega) (by have := (unhide Hall).2.1.len; omega)).mono (fun e w' (hh : e = .returned (.tuple #[]) ∧ DEnd p.rb p.v1 p.v2 base p.room (plantP p.st S T) W w') => (show e = .returned (.tuple #[]) ∧ DEnd p.rb p.v1 p.v2 base p.room (plantP p.st S T) W2 w' from ⟨hh.1, DEnd.from hW hh.2⟩)))
  have Hc2 := hide (And.intro hpr (And.intro hc2 hf2))
  clear x0' x4' x5' y0' y1' hc2 hf2 hd2 hpr ap1 ap2 ap3 ap4
  go_upto_region 16 with fail
  go_cut [111] (fun s wx => s = .tuple #[] ∧ DEnd p.rb p.v1 p.v2 base p.room (plantP p.st S T) W2 wx)
  case first =>
   go_region_with ((go_at_call 121; refine (unhide H2 _ (by first | exact (Below.refl _ _).drew | exact Below.refl _ _)).mono ?_; rintro e w9 ⟨rfl, hd9⟩; have Hd9 := hide hd9; clear hd9))
   all_goals
    go_wp2_with fail
    go_meet
    exact ⟨by first | rfl | simp, unhide Hd9⟩
  case rest =>
   rename World => W3
   obtain ⟨rfl, hd3⟩ := hcut
   obtain ⟨hpr, hc2, hf2⟩ := unhide Hc2
   obtain ⟨v1', v2', hp3, hf3, hs3⟩ := hpr.step hc2 hf2 hd3
   have Hend := hide (unhide Hput W3 ⟨p.pp, p.sb, p.pb, p.um, p.n + 1, p.rb, v1', v2', p.room, (plantP p.st S T)⟩ (fr_comp (Fr.below hb1) hf3 (fun x hx => .inl hx)) ((unhide Hall).2.1.plant hT hp3) rfl (fun x hx => (hs3 x hx).imp id (fun h => by omega)))
   clear hd3 hpr hc2 hf2 hp3 hf3 hs3
   go_wp2_with fail
   go_ret
   exact ⟨rfl, _, by simp, unhide Hend⟩
set_option maxRecDepth 100000 in
set_option maxHeartbeats 4000000 in
theorem step_uses {w : World} {wb : Nat} {Q : World → Prop} (kind store A B' tr ba : Int) (S T : List UInt8) (X E Li : Value) (hk0 : 2 ≤ kind) (hk1 : kind ≤ 7)
  (hC : ∀ W, Below w.heap.size w W → Calls Tryz.prog 78 #[.pointer (some ⟨wb, 0, none⟩), .agg (opC kind store A B' S T X E Li tr ba)] W fun e w' => e = .returned (.bool true) ∧ Q w') :
  Calls Tryz.prog 49 #[.pointer (some ⟨wb, 0, none⟩), .agg (opC kind store A B' S T X E Li tr ba)] w fun e w' => e = .returned (.bool true) ∧ Q w' := by
 have hb0 : Below w.heap.size w (w.alloc (.cells (opC kind store A B' S T X E Li tr ba) 93)) := (Below.refl _ _).alloc (Nat.le_refl _) _
 have hnew := heap_alloc_new w (.cells (opC kind store A B' S T X E Li tr ba) 93)
 obtain ⟨W0, hW0⟩ : ∃ W0, w.alloc (.cells (opC kind store A B' S T X E Li tr ba) 93) = W0 := ⟨_, rfl⟩
 rw [hW0] at hb0 hnew
 have hnl := (Array.getElem?_eq_some_iff.1 hnew).1
 have HC := hide (hC W0 hb0)
 have x0 := cell_of_block (j := 0) hnew
 have x1 := cell_of_block (j := 1) hnew
 have x2 := cell_of_block (j := 2) hnew
 have x3 := cell_of_block (j := 3) hnew
 have x4 := cell_of_block (j := 4) hnew
 have x5 := cell_of_block (j := 5) hnew
 have x6 := cell_of_block (j := 6) hnew
 have x7 := cell_of_block (j := 7) hnew
 have x8 := cell_of_block (j := 8) hnew
 have x9 := cell_of_block (j := 9) hnew
 have x10 := cell_of_block (j := 10) hnew
 unfold opC at x0 x1 x2 x3 x4 x5 x6 x7 x8 x9 x10 hW0 HC ⊢
 simp at x0 x1 x2 x3 x4 x5 x6 x7 x8 x9 x10
 have n1 : (kind == 1) = false := by simp; omega
 have n8 : (kind == 8) = false := by simp; omega
 have n9 : (kind == 9) = false := by simp; omega
 have l2 : decide (kind < 2) = false := decide_eq_false (by omega)
 have g7 : decide (7 < kind) = false := decide_eq_false (by omega)
 have HW0 := hide hW0
 clear hC hb0 hW0 hnew
 go_enter Tryz.func49, Tryz.ntmps49
 go_wp2_with fail
 rw [unhide HW0]
 refine (unhide HC).mono ?_
 rintro e w' ⟨rfl, hq⟩
 have Hq := hide hq
 clear hq
 go_wp2_with fail
 go_ret
 exact ⟨rfl, unhide Hq⟩
theorem info_ptr : (Tryz.prog.info? 114).map (fun i => (i.zero, i.size, i.bytes)) = some (some (.pointer none), 1, 8) := by kernel_rfl
theorem app_ptr {w : World} {ops : Array Oper} {rest : List Oper} {o : Oper} {a : Act} {Q : Exit → Act → World → Prop} (hgd : o.guard = none) (s x : Operand)
  (ho : o.op = .call { callee := .builtin .append, args := #[s, x], argTypes := #[85, 85] }) (base : Nat) (v : Value) (n : Nat) (l : List Value) (hs : a.eval s = v) (hown : w.ownsRow base 114 1 v n l)
  (ad : Addr) (y : Value) (hx : a.eval x = .slice (some ad) 1 1) (hnews : w.cell? (ad.add 0) = some y) (h1 : y.oneCell' = true) (hlen : n ≤ 20000000) (hbase : base ≤ w.heap.size)
  (h : ∀ v' w', w'.ownsRow base 114 1 v' (n + 1) (l ++ [y]) → w.grownBy w' v.ownBlock → (v'.ownBlock = v.ownBlock ∨ v'.ownBlock = some w.heap.size) → wpList Tryz.prog ops Q rest (a.put o.dst v') w') : wpList Tryz.prog ops Q (o :: rest) a w := by
 obtain ⟨i0, hi, hz0, hz1, hz2⟩ := info_parts info_ptr
 exact wp_app_at hgd s x 85 ho base 114 i0 _ 8 Tryz.underlying85 hi hz0 hz1 hz2 rfl v n l hs hown ad y hx hnews h1 (by unfold maxLen; omega) (by omega) hbase h
set_option maxRecDepth 100000 in
set_option maxHeartbeats 4000000 in
theorem step_none {w : World} {wb : Nat} (kind store A B' tr ba : Int) (S T : List UInt8) (X E Li : Value) (hk : kind < 1 ∨ 9 < kind) :
  Calls Tryz.prog 49 #[.pointer (some ⟨wb, 0, none⟩), .agg (opC kind store A B' S T X E Li tr ba)] w fun e w' => e = .returned (.bool true) ∧ Below w.heap.size w w' := by
 have hb0 : Below w.heap.size w (w.alloc (.cells (opC kind store A B' S T X E Li tr ba) 93)) := (Below.refl _ _).alloc (Nat.le_refl _) _
 have hnew := heap_alloc_new w (.cells (opC kind store A B' S T X E Li tr ba) 93)
 obtain ⟨W0, hW0⟩ : ∃ W0, w.alloc (.cells (opC kind store A B' S T X E Li tr ba) 93) = W0 := ⟨_, rfl⟩
 rw [hW0] at hb0 hnew
 have hnl := (Array.getElem?_eq_some_iff.1 hnew).1
 have x0 := cell_of_block (j := 0) hnew
 have x1 := cell_of_block (j := 1) hnew
 have x2 := cell_of_block (j := 2) hnew
 have x3 := cell_of_block (j := 3) hnew
 have x4 := cell_of_block (j := 4) hnew
 have x5 := cell_of_block (j := 5) hnew
 have x6 := cell_of_block (j := 6) hnew
 have x7 := cell_of_block (j := 7) hnew
 have x8 := cell_of_block (j := 8) hnew
 have x9 := cell_of_block (j := 9) hnew
 have x10 := cell_of_block (j := 10) hnew
 unfold opC at x0 x1 x2 x3 x4 x5 x6 x7 x8 x9 x10 hW0 ⊢
 simp at x0 x1 x2 x3 x4 x5 x6 x7 x8 x9 x10
 have n1 : (kind == 1) = false := by simp; omega
 have n8 : (kind == 8) = false := by simp; omega
 have n9 : (kind == 9) = false := by simp; omega
 have HW0 := hide hW0
 clear hW0 hnew
 rcases hk with hk | hk
 ·have l2 : kind < 2 := by omega
  go_enter Tryz.func49, Tryz.ntmps49
  go_wp2_with fail
  rw [unhide HW0]
  go_ret
  exact ⟨rfl, hb0⟩
 ·have l2 : decide (kind < 2) = false := decide_eq_false (by omega)
  have g7 : 7 < kind := by omega
  go_enter Tryz.func49, Tryz.ntmps49
  go_wp2_with fail
  rw [unhide HW0]
  go_ret
  exact ⟨rfl, hb0⟩
end Go.Proofs.YtjmacegibchplaaGreatDoor
namespace Go.Proofs.YtjmacegibchplaaGreatDoor
open Go.RowKit
set_option linter.unusedVariables false
set_option maxHeartbeats 1000000 in
theorem decodedB_any (L : List UInt8) (w : World) (hl : L.length ≤ 140737488351232) :
  Calls Tryz.prog 75 #[.string (bs L)] w fun e w' => ∃ v, e = .returned (.tuple #[v, .bool true]) ∧ Below w.heap.size w w'
   ∧ ∃ items, items.length ≤ 1000000 ∧ OwnsIt w' w.heap.size v items := by
 go_enter Tryz.func75, Tryz.ntmps75
 go_wp2_with fail
 refine (cellarDecode L w (by unfold maxLen; omega)).mono ?_
 rintro e w1 ⟨hb1, ⟨hd, rfl⟩ | ⟨items, v, hd, hf, hl2, rfl, ho1⟩⟩
 ·have Hd := hide hd
  clear hd
  go_wp2_with fail
  refine (refDecode_loop L w1 hl).mono ?_
  rintro e w2 ⟨hb2, ⟨hd2, rfl⟩ | ⟨items, v, hd2, rfl, ho2⟩⟩
  ·clear hd2
   go_wp2_with fail
   go_ret2
   exact ⟨_, rfl, hb1.trans (hb2.mono hb1.size), [], by simp, World.ownsRow_nil _ _ _ _⟩
  ·rw [unhide Hd] at hd2; simp at hd2
 ·have Hd := hide hd
  clear hd
  go_wp2_with fail
  refine (refDecode_loop L w1 hl).mono ?_
  rintro e w2 ⟨hb2, ⟨hd2, rfl⟩ | ⟨items2, v2, hd2, rfl, ho2⟩⟩
  ·rw [unhide Hd] at hd2; simp at hd2
  ·rw [unhide Hd] at hd2
   simp at hd2
   subst hd2
   obtain ⟨a1, c1, hv1, l1, _⟩ := ho1.lies
   obtain ⟨a2, c2, hv2, l2, _⟩ := ho2.lies
   have ho1' : OwnsIt w2 w.heap.size v items := World.ownsRow.kept (row := none) ho1 ⟨hb2.os, hb2.tape, hb2.output, hb2.size, fun k hk _ => hb2.block k hk⟩ (by cases v.ownBlock <;> simp)
   subst hv1 hv2
   go_wp2_with fail
   refine (sameItems_same items a1 a2 c1 c2 w2 (by unfold maxLen; omega) (l1.below hb2 (Nat.le_refl _)) l2).mono ?_
   rintro e w3 ⟨rfl, n, hw3⟩
   subst hw3
   go_wp2_with fail
   go_ret2
   exact ⟨_, rfl, below_drewN (hb1.trans (hb2.mono hb1.size)) n, items, by omega, ho1'⟩
set_option maxRecDepth 100000 in
set_option maxHeartbeats 4000000 in
theorem step_decode {w : World} {wb base N K : Nat} {ps : Value} {B : Nat → Prop} {L : List PR} (store A B' tr ba : Int) (S T : List UInt8) (X E Li : Value) (hS : S.length ≤ 1100000) (h : Sd w wb base ps B N K L) (hN : N ≤ 4000000) (hbase : base ≤ w.heap.size) :
  Calls Tryz.prog 49 #[.pointer (some ⟨wb, 0, none⟩), .agg (opC 8 store A B' S T X E Li tr ba)] w fun e w' => e = .returned (.bool true) ∧ ∃ B2, Sd w' wb base ps B2 (N + 2) K L ∧ Fr (fun x => base ≤ x) w w' := by
 have hb0 : Below w.heap.size w (w.alloc (.cells (opC 8 store A B' S T X E Li tr ba) 93)) := (Below.refl _ _).alloc (Nat.le_refl _) _
 have hnew := heap_alloc_new w (.cells (opC 8 store A B' S T X E Li tr ba) 93)
 obtain ⟨W0, hW0⟩ : ∃ W0, w.alloc (.cells (opC 8 store A B' S T X E Li tr ba) 93) = W0 := ⟨_, rfl⟩
 rw [hW0] at hb0 hnew
 have hnl := (Array.getElem?_eq_some_iff.1 hnew).1
 have Hs := hide (And.intro (h.below hb0) hb0)
 have hold : ∀ x, B x → x < w.heap.size := fun x hx => h.kp.setLt x hx
 have hold2 : ∀ j (hj : j < L.length) x, (L[j]).set x → x < w.heap.size := fun j hj x hx => (h.ok j hj).lt x hx
 have hold3 : ∀ x, ps.ownBlock = some x → x < w.heap.size := fun x hx => own_lt h.row hx
 have x0 := cell_of_block (j := 0) hnew
 have x1 := cell_of_block (j := 1) hnew
 have x2 := cell_of_block (j := 2) hnew
 have x3 := cell_of_block (j := 3) hnew
 have x4 := cell_of_block (j := 4) hnew
 have x5 := cell_of_block (j := 5) hnew
 have x6 := cell_of_block (j := 6) hnew
 have x7 := cell_of_block (j := 7) hnew
 have x8 := cell_of_block (j := 8) hnew
 have x9 := cell_of_block (j := 9) hnew
 have x10 := cell_of_block (j := 10) hnew
 unfold opC at x0 x1 x2 x3 x4 x5 x6 x7 x8 x9 x10 hW0 ⊢
 simp at x0 x1 x2 x3 x4 x5 x6 x7 x8 x9 x10
 have HW0 := hide hW0
 have H1 := hide (decodedB_any S W0 (by omega))
 have hs0' := hb0.size
 clear h hb0 hW0 hnew
 go_enter Tryz.func49, Tryz.ntmps49
 go_wp2_with fail
 rw [unhide HW0]
 refine (unhide H1).mono ?_
 rintro e W2 ⟨v, rfl, hb2, lv, hlv, ho2⟩
 have hS2 := (unhide Hs).1.below hb2
 have hvx : ∀ x, v.ownBlock = some x → w.heap.size ≤ x := fun x hx => by have := (World.ownsRow.lt ho2 x hx).1; omega
 have H2 := hide (hS2.kp.takeI (own_weak ho2 (by omega)) (fun x hx hB => by have h1 := hvx x hx; have h2 := hold x hB; omega) (by omega) hN (by have := hb2.size; omega))
 have HS2 := hide (And.intro hS2 hvx)
 clear hS2 ho2 hvx
 go_wp2_with fail
 refine (unhide H2).mono ?_
 rintro e W3 ⟨rfl, hk3, hf3⟩
 have hbw1 := (unhide Hs).2
 have Hend := hide (And.intro ((unhide HS2).1.took hk3 hf3 (fun x hx e => by have h1 := (unhide HS2).2 x hx; have h2 := hold3 x e; omega) (fun j hj x hx e => by have h1 := (unhide HS2).2 x e; have h2 := hold2 j hj x hx; omega) (fun x hx => by have h1 := (unhide HS2).2 x hx; omega)) ((Fr.below (hbw1.trans (hb2.mono hbw1.size))).trans (hf3.mono (T := fun x => base ≤ x) (fun x hx => hx.elim ((unhide HS2).1.low.1 x) (fun e => by have h1 := (unhide HS2).2 x e; omega)))))
 clear hk3 hf3
 go_wp2_with fail
 go_ret
 exact ⟨rfl, _, unhide Hend⟩
end Go.Proofs.YtjmacegibchplaaGreatDoor