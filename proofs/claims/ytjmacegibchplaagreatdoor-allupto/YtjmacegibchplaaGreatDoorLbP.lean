import Derived.Test.YtjmacegibchplaaGreatDoorLbK
import Derived.Test.YtjmacegibchplaaGreatDoorUpA
import Derived.Test.YtjmacegibchplaaGreatDoorOfD
import Derived.Test.YtjmacegibchplaaGreatDoorReadB
import Derived.Deep.QuietTactic
import Derived.BigQuiet
import Derived.Deep.CutBlock
import Derived.Deep.DrawnRows
import Derived.Test.YtjmacegibchplaaGreatDoorRows
import Derived.Test.YtjmacegibchplaaGreatDoorTreeD
import Derived.Test.YtjmacegibchplaaGreatDoorLnB
namespace Go.Proofs.YtjmacegibchplaaGreatDoor
open Go.RowKit Go.Maps Go.WideMaps
set_option linter.unusedVariables false
set_option maxRecDepth 100000 in
set_option maxHeartbeats 4000000 in
theorem step_new_no {w : World} {wb base N K : Nat} {ps : Value} {B : Nat → Prop} {L : List PR} (store A B' tr ba : Int) (S T : List UInt8) (X E Li : Value) (hA : A < 0 ∨ 100000 < A) :
  Calls Tryz.prog 49 #[.pointer (some ⟨wb, 0, none⟩), .agg (opC 1 store A B' S T X E Li tr ba)] w fun e w' => e = .returned (.bool true) ∧ Below w.heap.size w w' := by
 have hb0 : Below w.heap.size w (w.alloc (.cells (opC 1 store A B' S T X E Li tr ba) 93)) := (Below.refl _ _).alloc (Nat.le_refl _) _
 have hnew := heap_alloc_new w (.cells (opC 1 store A B' S T X E Li tr ba) 93)
 obtain ⟨W0, hW0⟩ : ∃ W0, w.alloc (.cells (opC 1 store A B' S T X E Li tr ba) 93) = W0 := ⟨_, rfl⟩
 rw [hW0] at hb0 hnew
 have hnl := (Array.getElem?_eq_some_iff.1 hnew).1
 have x0 := cell_of_block (j := 0) hnew
 have x1 := cell_of_block (j := 1) hnew
 have x2 := cell_of_block (j := 2) hnew
 have x3 := cell_of_block (j := 3) hnew
 have x4 := cell_of_block (j := 4) hnew
 have x5 := cell_of_block (j := 5) hnew
 have x6 := cell_of_block (j := 6) hnew
 have x7 := cell_of_block (j := 7) hnew
 have x8 := cell_of_block (j := 8) hnew
 have x9 := cell_of_block (j := 9) hnew
 have x10 := cell_of_block (j := 10) hnew
 unfold opC at x0 x1 x2 x3 x4 x5 x6 x7 x8 x9 x10 hW0 ⊢
 simp at x0 x1 x2 x3 x4 x5 x6 x7 x8 x9 x10
 have HW0 := hide hW0
 have H1 := hide (open_no A W0 hA)
 clear hW0 hnew
 go_enter Tryz.func49, Tryz.ntmps49
 go_wp2_with fail
 rw [unhide HW0]
 refine (unhide H1).mono ?_
 rintro e W2 ⟨rfl, hb2⟩
 go_wp2_with fail
 go_ret
 exact ⟨rfl, hb0.trans (hb2.mono hb0.size)⟩
set_option maxRecDepth 100000 in
set_option maxHeartbeats 4000000 in
theorem step_new {w : World} {wb base N K : Nat} {ps : Value} {B : Nat → Prop} {L : List PR} (store A B' tr ba : Int) (S T : List UInt8) (X E Li : Value) (hA0 : 0 ≤ A) (hA1 : A ≤ 100000) (h : Sd w wb base ps B N K L) (hL2 : L.length ≤ 1000000) (hbase : base ≤ w.heap.size) :
  Calls Tryz.prog 49 #[.pointer (some ⟨wb, 0, none⟩), .agg (opC 1 store A B' S T X E Li tr ba)] w fun e w' => e = .returned (.bool true) ∧ ∃ ps' q, Sd w' wb base ps' B N K (L ++ [q]) ∧ Fr (fun x => base ≤ x) w w' := by
 have hb0 : Below w.heap.size w (w.alloc (.cells (opC 1 store A B' S T X E Li tr ba) 93)) := (Below.refl _ _).alloc (Nat.le_refl _) _
 have hnew := heap_alloc_new w (.cells (opC 1 store A B' S T X E Li tr ba) 93)
 obtain ⟨W0, hW0⟩ : ∃ W0, w.alloc (.cells (opC 1 store A B' S T X E Li tr ba) 93) = W0 := ⟨_, rfl⟩
 rw [hW0] at hb0 hnew
 have hnl := (Array.getElem?_eq_some_iff.1 hnew).1
 have Hs := hide (And.intro (h.below hb0) hb0)
 have hs0' := hb0.size
 have x0 := cell_of_block (j := 0) hnew
 have x1 := cell_of_block (j := 1) hnew
 have x2 := cell_of_block (j := 2) hnew
 have x3 := cell_of_block (j := 3) hnew
 have x4 := cell_of_block (j := 4) hnew
 have x5 := cell_of_block (j := 5) hnew
 have x6 := cell_of_block (j := 6) hnew
 have x7 := cell_of_block (j := 7) hnew
 have x8 := cell_of_block (j := 8) hnew
 have x9 := cell_of_block (j := 9) hnew
 have x10 := cell_of_block (j := 10) hnew
 unfold opC at x0 x1 x2 x3 x4 x5 x6 x7 x8 x9 x10 hW0 ⊢
 simp at x0 x1 x2 x3 x4 x5 x6 x7 x8 x9 x10
 have HW0 := hide hW0
 have H1 := hide (open_ok A W0 base hA0 hA1)
 clear h hb0 hW0 hnew
 go_enter Tryz.func49, Tryz.ntmps49
 go_wp2_with fail
 rw [unhide HW0]
 refine (unhide H1).mono ?_
 rintro e W1 ⟨pp, sb, pb, um, rb, rfl, hpr, hge, hb1⟩
 have hS1 := (unhide Hs).1.below hb1
 obtain ⟨hBw, cur, hwa, h8⟩ := hS1.kp.wa
 have hwl := (Array.getElem?_eq_some_iff.1 hwa).1
 have hrow := hS1.row
 obtain ⟨aps, cps, eps⟩ := row_shape hrow
 have hoff := hS1.off wb
 have hsz1 := hb1.size
 have HP := hide (And.intro hpr (And.intro hge (And.intro hb1 (And.intro hS1 hwa))))
 clear hpr hge hb1 hS1 hwa
 subst eps
 go_wp2_with (at_builtin; refine app_ptr rfl (.tmp 27) (.tmp 29) rfl base _ L.length _ rfl (World.ownsRow.alloc hrow _) ⟨W1.heap.size, 0, none⟩ (.pointer (some ⟨pp, 0, none⟩)) rfl ?qa rfl ?qb ?qc ?_)
 case qa => exact cell_of_block (heap_alloc_new W1 (.cells #[.pointer (some ⟨pp, 0, none⟩)] 114))
 case qb => omega
 case qc => simp; omega
 intro v' W2 o2 g2 p2
 obtain ⟨hpr, hge, hb1, hS1, hwa⟩ := unhide HP
 have hg : Fr (fun x => (Value.slice aps L.length cps).ownBlock = some x) W1 W2 := (Fr.below ((Below.refl _ _).alloc (Nat.le_refl _) _)).trans (Fr.grown g2 (fun g e => e))
 have hwa2 := (hg.block wb hwl (fun e => hoff e hBw)).trans hwa
 have hwl2 := (Array.getElem?_eq_some_iff.1 hwa2).1
 have hwf2 := free_block (j := 8) hwa2
 have h82 : W2.cell? ⟨wb, 8, none⟩ = some (.slice aps L.length cps) := cell_fr hg h8 (fun e => hoff e hBw)
 obtain ⟨an, nn, cn, rfl⟩ := shape3 o2
 have hbw1 := ((unhide Hs).2.trans (hb1.mono (unhide Hs).2.size))
 have Hend := hide (And.intro ((unhide Hs).1.push (q := ⟨pp, sb, pb, um, 0, rb, .slice none 0 0, .slice none 0 0, A, []⟩) hb1 ⟨hpr, hA0, hA1, by simp, by simp, by simp [sumP], fun d b hb => by simp [atP] at hb⟩ hge o2 hg (fun x hx => by
  rcases p2 with p2 | p2
  ·exact .inl (by rw [← p2]; exact hx)
  ·rw [p2] at hx
   have := Option.some.inj hx
   exact .inr (by first | omega | (rw [← this]; simp) | (rw [← this]; exact Nat.le_of_lt (by simp))))) (((Fr.below hbw1).trans (hg.mono (T := fun x => base ≤ x) (fun x hx => (World.ownsRow.lt hS1.row x hx).1))).trans (Fr.set (S := fun x => base ≤ x) W2 wb 8 (.slice an nn cn) (hS1.low.1 wb hBw))))
 clear hpr hge hb1 hS1 hwa hg hwa2 o2 g2 p2 hrow HP
 go_wp2_with fail
 go_ret
 exact ⟨rfl, _, _, unhide Hend⟩
set_option maxRecDepth 100000 in
set_option maxHeartbeats 4000000 in
theorem step_build {w : World} {wb base N K : Nat} {ps : Value} {B : Nat → Prop} {L : List PR} (store A B' tr ba : Int) (S T : List UInt8) (X E Li : Value) (l : List En) (aE : Option Addr) (cE : Nat) (hE : E = .slice aE l.length cE) (hl : l.length ≤ 1100000) (hi' : LiesE w aE l) (hn' : aE = none → l = [] ∧ cE = 0) (hfit : TFit l) (hglob : GlobOk w) (h : Sd w wb base ps B N K L) (hN : N ≤ 4000000) (hbase : base ≤ w.heap.size) :
  Calls Tryz.prog 49 #[.pointer (some ⟨wb, 0, none⟩), .agg (opC 9 store A B' S T X E Li tr ba)] w fun e w' => e = .returned (.bool true) ∧ ∃ B2, Sd w' wb base ps B2 (N + 2) K L ∧ Fr (fun x => base ≤ x) w w' := by
 subst hE
 have hb0 : Below w.heap.size w (w.alloc (.cells (opC 9 store A B' S T X (.slice aE l.length cE) Li tr ba) 93)) := (Below.refl _ _).alloc (Nat.le_refl _) _
 have hnew := heap_alloc_new w (.cells (opC 9 store A B' S T X (.slice aE l.length cE) Li tr ba) 93)
 obtain ⟨W0, hW0⟩ : ∃ W0, w.alloc (.cells (opC 9 store A B' S T X (.slice aE l.length cE) Li tr ba) 93) = W0 := ⟨_, rfl⟩
 rw [hW0] at hb0 hnew
 have hnl := (Array.getElem?_eq_some_iff.1 hnew).1
 have Hs := hide (And.intro (h.below hb0) hb0)
 have hold : ∀ x, B x → x < w.heap.size := fun x hx => h.kp.setLt x hx
 have hold2 : ∀ j (hj : j < L.length) x, (L[j]).set x → x < w.heap.size := fun j hj x hx => (h.ok j hj).lt x hx
 have hold3 : ∀ x, ps.ownBlock = some x → x < w.heap.size := fun x hx => own_lt h.row hx
 have x0 := cell_of_block (j := 0) hnew
 have x1 := cell_of_block (j := 1) hnew
 have x2 := cell_of_block (j := 2) hnew
 have x3 := cell_of_block (j := 3) hnew
 have x4 := cell_of_block (j := 4) hnew
 have x5 := cell_of_block (j := 5) hnew
 have x6 := cell_of_block (j := 6) hnew
 have x7 := cell_of_block (j := 7) hnew
 have x8 := cell_of_block (j := 8) hnew
 have x9 := cell_of_block (j := 9) hnew
 have x10 := cell_of_block (j := 10) hnew
 unfold opC at x0 x1 x2 x3 x4 x5 x6 x7 x8 x9 x10 hW0 ⊢
 simp at x0 x1 x2 x3 x4 x5 x6 x7 x8 x9 x10
 have HW0 := hide hW0
 have H1 := hide (built_law glob_stays progBuild l aE cE W0 (glob_stays w W0 hglob hb0) (by omega) (hi'.below hb0 (Nat.le_refl _)) hn' hfit)
 have hlen := outOf_len l
 have hs0' := hb0.size
 clear h hb0 hW0 hnew hi' hglob
 go_enter Tryz.func49, Tryz.ntmps49
 go_wp2_with fail
 rw [unhide HW0]
 refine (unhide H1).mono ?_
 rintro e W2 ⟨v, rfl, ho2, hb2⟩
 have hS2 := (unhide Hs).1.below hb2
 have hvx : ∀ x, v.ownBlock = some x → w.heap.size ≤ x := fun x hx => by have := (World.ownsRow.lt ho2 x hx).1; omega
 have H2 := hide (hS2.kp.takeT (own_weak ho2 (by omega)) (fun x hx hB => by have h1 := hvx x hx; have h2 := hold x hB; omega) (by omega) hN (by have := hb2.size; omega))
 have HS2 := hide (And.intro hS2 hvx)
 clear hS2 ho2 hvx
 go_wp2_with fail
 refine (unhide H2).mono ?_
 rintro e W3 ⟨rfl, hk3, hf3⟩
 have hbw1 := (unhide Hs).2
 have Hend := hide (And.intro ((unhide HS2).1.took hk3 hf3 (fun x hx e => by have h1 := (unhide HS2).2 x hx; have h2 := hold3 x e; omega) (fun j hj x hx e => by have h1 := (unhide HS2).2 x e; have h2 := hold2 j hj x hx; omega) (fun x hx => by have h1 := (unhide HS2).2 x hx; omega)) ((Fr.below (hbw1.trans (hb2.mono hbw1.size))).trans (hf3.mono (T := fun x => base ≤ x) (fun x hx => hx.elim ((unhide HS2).1.low.1 x) (fun e => by have h1 := (unhide HS2).2 x e; omega)))))
 clear hk3 hf3
 go_wp2_with fail
 go_ret
 exact ⟨rfl, _, unhide Hend⟩
structure OpP where
 kind : Int
 store : Int
 A : Int
 B : Int
 S : List UInt8
 T : List UInt8
 texts : List (List UInt8)
 aX : Option Addr
 cX : Nat
 tree : List En
 aE : Option Addr
 cE : Nat
 tr : Int
 ba : Int
 Li : Value
def OpP.cells (o : OpP) : Array Value := opC o.kind o.store o.A o.B o.S o.T (.slice o.aX o.texts.length o.cX) (.slice o.aE o.tree.length o.cE) o.Li o.tr o.ba
structure OpP.Ok (w : World) (o : OpP) : Prop where
 s0 : -9223372036854775808 ≤ o.store
 s1 : o.store ≤ 9223372036854775807
 hS : o.S.length ≤ 1100000
 hT : o.T.length ≤ 1100000
 xl : o.texts.length ≤ 1100000
 xt : TextsAt w o.aX o.texts
 xn : o.aX = none → o.texts = [] ∧ o.cX = 0
 xx : ∀ x ∈ o.texts, x.length ≤ 10000000
 el : o.tree.length ≤ 1100000
 et : LiesE w o.aE o.tree
 en : o.aE = none → o.tree = [] ∧ o.cE = 0
 ef : TFit o.tree
theorem OpP.Ok.below {w w' : World} {o : OpP} (h : o.Ok w) (hb : Below w.heap.size w w') : o.Ok w' := ⟨h.s0, h.s1, h.hS, h.hT, h.xl, h.xt.below hb (Nat.le_refl _), h.xn, h.xx, h.el, h.et.below hb (Nat.le_refl _), h.en, h.ef⟩
def Next (w : World) (wb base N K n : Nat) (w' : World) : Prop := ∃ ps B L, (n ≤ List.length L ∧ List.length L ≤ n + 1) ∧ Sd w' wb base ps B N K L ∧ Fr (fun x => base ≤ x) w w'
theorem Next.from {w w1 w' : World} {wb base N K n : Nat} (hb : Below w.heap.size w w1) (h : Next w1 wb base N K n w') : Next w wb base N K n w' := by
 obtain ⟨ps, B, L, h1, h2, h3⟩ := h
 exact ⟨ps, B, L, h1, h2, (Fr.below hb).trans h3⟩
theorem step_any {w : World} {wb base N K : Nat} {ps : Value} {B : Nat → Prop} {L : List PR} (o : OpP) (h : Sd w wb base ps B N K L) (ho : o.Ok w) (hg : GlobOk w) (hL : 0 < L.length) (hL2 : L.length ≤ 900000) (hN : N ≤ 4000000) (hK : K ≤ 500000) (hk : o.kind ≤ 5 ∨ 7 < o.kind) :
  Calls Tryz.prog 49 #[.pointer (some ⟨wb, 0, none⟩), .agg o.cells] w fun e w' => e = .returned (.bool true) ∧ Next w wb base (N + 2) (K + 1) L.length w' := by
 obtain ⟨kind, store, A, B', S, T, texts, aX, cX, tree, aE, cE, tr, ba, Li⟩ := o
 have hbase := h.base_le
 have hsame : ∀ w', Below w.heap.size w w' → Next w wb base (N + 2) (K + 1) L.length w' := fun w' hb => ⟨ps, B, L, ⟨Nat.le_refl _, Nat.le_succ _⟩, (h.below hb).mono (by omega) (by omega), Fr.below hb⟩
 unfold OpP.cells
 simp only at hk ⊢
 by_cases k0 : kind < 1 ∨ 9 < kind
 ·exact (step_none kind store A B' tr ba S T _ _ Li k0).mono (fun e w' hh => ⟨hh.1, hsame w' hh.2⟩)
 by_cases k1 : kind = 1
 ·subst k1
  by_cases hA : A < 0 ∨ 100000 < A
  ·exact (step_new_no (base := base) (N := N) (K := K) (ps := ps) (B := B) (L := L) store A B' tr ba S T _ _ Li hA).mono (fun e w' hh => ⟨hh.1, hsame w' hh.2⟩)
  ·refine (step_new store A B' tr ba S T _ _ Li (by omega) (by omega) h (by omega) hbase).mono ?_
   rintro e w' ⟨rfl, ps', q, h1, h2⟩
   exact ⟨rfl, ps', B, _, by simp, h1.mono (by omega) (by omega), h2⟩
 by_cases k8 : kind = 8
 ·subst k8
  refine (step_decode store A B' tr ba S T _ _ Li ho.hS h hN hbase).mono ?_
  rintro e w' ⟨rfl, B2, h1, h2⟩
  exact ⟨rfl, ps, B2, L, ⟨Nat.le_refl _, Nat.le_succ _⟩, h1.mono (by omega) (by omega), h2⟩
 by_cases k9 : kind = 9
 ·subst k9
  refine (step_build store A B' tr ba S T _ _ Li tree aE cE rfl ho.el ho.et ho.en ho.ef hg h hN hbase).mono ?_
  rintro e w' ⟨rfl, B2, h1, h2⟩
  exact ⟨rfl, ps, B2, L, ⟨Nat.le_refl _, Nat.le_succ _⟩, h1.mono (by omega) (by omega), h2⟩
 refine step_uses (Q := Next w wb base (N + 2) (K + 1) L.length) kind store A B' tr ba S T _ _ Li (by omega) (by omega) (fun W hW => ?_)
 have hs := h.below hW
 have how := ho.below hW
 have hbW : base ≤ W.heap.size := hs.base_le
 by_cases k2 : kind = 2
 ·subst k2
  refine (uses_put hs hL (by omega) hK store A B' tr ba S T _ _ Li how.s0 how.s1 how.hS hbW).mono ?_
  rintro e w' ⟨rfl, L', hl, h1, h2⟩
  exact ⟨rfl, ps, B, L', by omega, h1.mono (by omega) (by omega), (Fr.below hW).trans h2⟩
 by_cases k3 : kind = 3
 ·subst k3
  refine (uses_get hs hL (by omega) hK store A B' tr ba S T _ _ Li how.s0 how.s1 how.hS).mono ?_
  rintro e w' ⟨rfl, hb⟩
  exact ⟨rfl, hsame w' (hW.trans (hb.mono hW.size))⟩
 by_cases k4 : kind = 4
 ·subst k4
  refine (uses_missing hs hL (by omega) hK store A B' tr ba S T _ _ Li how.s0 how.s1 hN hbW texts aX cX rfl how.xl how.xt how.xn how.xx).mono ?_
  rintro e w' ⟨rfl, B2, h1, h2⟩
  exact ⟨rfl, ps, B2, L, ⟨Nat.le_refl _, Nat.le_succ _⟩, h1.mono (by omega) (by omega), (Fr.below hW).trans h2⟩
 obtain rfl : kind = 5 := by omega
 refine (uses_plant hs hL (by omega) hK store A B' tr ba S T _ _ Li how.s0 how.s1 how.hS how.hT hbW).mono ?_
 rintro e w' ⟨rfl, L', hl, h1, h2⟩
 exact ⟨rfl, ps, B, L', by omega, h1.mono (by omega) (by omega), (Fr.below hW).trans h2⟩
def CellsAt (w : World) (b p : Nat) (l : List Value) : Prop := ∀ (j : Nat) (v : Value), l[j]? = some v → w.cell? ⟨b, p + j, none⟩ = some v
set_option maxRecDepth 100000 in
set_option maxHeartbeats 4000000 in
theorem plays_of (w : World) (a : Option Addr) (n c : Nat) (hi : Int) (hn : n ≤ 200000) (R1 R2 R3 : World → Prop) (R T : Nat → World → Prop)
  (hnew : ∀ W0, w.alloc (.cells #[.int .i64 0, .bool false, .slice none 0 0, .slice none 0 0, .slice none 0 0, .slice none 0 0, .slice none 0 0, .slice none 0 0, .slice none 0 0, .slice none 0 0, .slice none 0 0, .slice none 0 0, .slice none 0 0, .slice none 0 0, .slice none 0 0] 90) = W0 →
   Calls Tryz.prog 49 #[.pointer (some ⟨w.heap.size, 0, none⟩), .agg #[.int .i64 1, .int .i64 0, .int .i64 1000, .int .i64 0, .string (bs []), .string (bs []), .slice none 0 0, .slice none 0 0, .int .i64 0, .int .i64 0, .slice none 0 0]] W0 fun e W' => e = .returned (.bool true) ∧ R1 W')
  (hnew2 : ∀ W, R1 W → Calls Tryz.prog 49 #[.pointer (some ⟨w.heap.size, 0, none⟩), .agg #[.int .i64 1, .int .i64 0, .int .i64 60, .int .i64 0, .string (bs []), .string (bs []), .slice none 0 0, .slice none 0 0, .int .i64 0, .int .i64 0, .slice none 0 0]] W fun e W' => e = .returned (.bool true) ∧ R2 W')
  (hps : ∀ W, R2 W → ∃ (aps : Option Addr) (cps : Nat) (cur : Array Value), W.heap[w.heap.size]? = some (.cells cur 90 (0, 0)) ∧ cur[8]? = some (.slice aps 2 cps))
  (hput : ∀ W, R2 W → Calls Tryz.prog 49 #[.pointer (some ⟨w.heap.size, 0, none⟩), .agg #[.int .i64 2, .int .i64 0, .int .i64 0, .int .i64 0, .string (bs [102, 105, 114, 115, 116]), .string (bs []), .slice none 0 0, .slice none 0 0, .int .i64 0, .int .i64 0, .slice none 0 0]] W fun e W' => e = .returned (.bool true) ∧ R3 W')
  (hget : ∀ W, R3 W → Calls Tryz.prog 49 #[.pointer (some ⟨w.heap.size, 0, none⟩), .agg #[.int .i64 3, .int .i64 0, .int .i64 0, .int .i64 0, .string (bs [48, 48, 49]), .string (bs []), .slice none 0 0, .slice none 0 0, .int .i64 0, .int .i64 0, .slice none 0 0]] W fun e W' => e = .returned (.bool true) ∧ R 0 W')
  (hround : ∀ k, k < n → ∃ (b s : Nat) (kd : Int) (v1 v2 v3 v4 v5 v6 v7 v8 v9 v10 : Value), a = some ⟨b, s, none⟩ ∧ (∀ W, R k W → CellsAt W b (s + k * 11) [.int .i64 kd, v1, v2, v3, v4, v5, v6, v7, v8, v9, v10]) ∧
   (hi < kd ∧ kd ≤ 7 → ∀ W, R k W → R (k + 1) W) ∧ (¬ (hi < kd ∧ kd ≤ 7) → ∀ W, R k W → Calls Tryz.prog 49 #[.pointer (some ⟨w.heap.size, 0, none⟩), .agg #[.int .i64 kd, v1, v2, v3, v4, v5, v6, v7, v8, v9, v10]] W fun e W' => e = .returned (.bool true) ∧ T k W'))
  (hlooks : ∀ k W, T k W → Calls Tryz.prog 50 #[.pointer (some ⟨w.heap.size, 0, none⟩)] W fun e W' => e = .returned (.bool true) ∧ R (k + 1) W') :
  Calls Tryz.prog 21 #[.slice a n c, .int .i64 hi] w fun e w' => e = .returned (.bool true) ∧ R n w' := by
 obtain ⟨W0, hW0⟩ : ∃ W0, w.alloc (.cells #[.int .i64 0, .bool false, .slice none 0 0, .slice none 0 0, .slice none 0 0, .slice none 0 0, .slice none 0 0, .slice none 0 0, .slice none 0 0, .slice none 0 0, .slice none 0 0, .slice none 0 0, .slice none 0 0, .slice none 0 0, .slice none 0 0] 90) = W0 := ⟨_, rfl⟩
 have H1 := hide (hnew W0 hW0)
 have HW0 := hide hW0
 have G2 := hide hnew2
 have G3 := hide hput
 have G4 := hide hget
 have G5 := hide hround
 have G6 := hide hlooks
 have G8 := hide hps
 clear hW0 hnew hnew2 hput hget hround hlooks hps
 go_enter Tryz.func21, Tryz.ntmps21
 go_wp2_with fail
 rw [unhide HW0]
 refine (unhide H1).mono ?_
 rintro e W1 ⟨rfl, r1⟩
 have H2 := hide (unhide G2 W1 r1)
 clear r1
 go_wp2_with fail
 refine (unhide H2).mono ?_
 rintro e W2 ⟨rfl, r2⟩
 obtain ⟨aps, cps, cur2, hwa2, h82⟩ := unhide G8 W2 r2
 have hwl2 := (Array.getElem?_eq_some_iff.1 hwa2).1
 have x82 := (cell_of_block (j := 8) hwa2).trans h82
 have H3 := hide (unhide G3 W2 r2)
 clear r2 hwa2 h82
 go_wp2_with fail
 refine (unhide H3).mono ?_
 rintro e W3 ⟨rfl, r3⟩
 have H4 := hide (unhide G4 W3 r3)
 clear r3
 go_wp2_with fail
 refine (unhide H4).mono ?_
 rintro e W4 ⟨rfl, r4⟩
 have Hst := hide r4
 clear r4 H1 H2 H3 H4 HW0 G2 G3 G4 G8 x82 hwl2
 go_wp2_with fail
 go_loopw [8] (fun i wr => ∃ k : Nat, k ≤ n ∧ i = .int .i64 k ∧ R k wr) (fun i _ => n - (intOf i).toNat)
 case atStart => exact ⟨0, by omega, rfl, unhide Hst⟩
 case round =>
  obtain ⟨k, hk, rfl, hr⟩ := hrel
  by_cases hlt : k < n
  ·have q1 : (k : Int) < (n : Int) := by omega
   obtain ⟨b, s, kd, v1, v2, v3, v4, v5, v6, v7, v8, v9, v10, ea, hcs, hskip, hstep⟩ := unhide G5 k hlt
   subst ea
   have hop := hcs wr hr
   have x0 := hop 0 _ rfl
   have x1 := hop 1 _ rfl
   have x2 := hop 2 _ rfl
   have x3 := hop 3 _ rfl
   have x4 := hop 4 _ rfl
   have x5 := hop 5 _ rfl
   have x6 := hop 6 _ rfl
   have x7 := hop 7 _ rfl
   have x8 := hop 8 _ rfl
   have x9 := hop 9 _ rfl
   have x10 := hop 10 _ rfl
   have hbl := block_lt x0
   simp at x0
   have Hr := hide hr
   have Hc := hide hcs
   have Hskip := hide hskip
   have Hstep := hide hstep
   clear hr hcs hskip hstep hop
   by_cases hc : hi < kd
   ·by_cases hc2 : kd ≤ 7
    ·go_upto_region 13 with fail
     go_wp2_with fail
     exact ⟨⟨k + 1, by omega, by go_num, unhide Hskip ⟨hc, hc2⟩ _ (unhide Hr)⟩, by simp [intOf]; omega⟩
    ·have H5 := hide (unhide Hstep (fun h => hc2 h.2) wr (unhide Hr))
     have c2 : decide (kd ≤ 7) = false := decide_eq_false hc2
     clear Hskip Hstep Hc Hr hc2 G5
     go_upto_region 13 with fail
     go_wp2_with fail
     refine (unhide H5).mono ?_
     rintro e W5 ⟨rfl, h5⟩
     have H6 := hide (unhide G6 k W5 h5)
     clear h5
     go_wp2_with fail
     refine (unhide H6).mono ?_
     rintro e W6 ⟨rfl, h6⟩
     have H7 := hide h6
     clear h6
     go_wp2_with fail
     exact ⟨⟨k + 1, by omega, by go_num, unhide H7⟩, by simp [intOf]; omega⟩
   ·have H5 := hide (unhide Hstep (fun h => hc h.1) wr (unhide Hr))
    have c1 : decide (hi < kd) = false := decide_eq_false hc
    clear Hskip Hstep Hc Hr hc G5
    go_upto_region 13 with fail
    go_wp2_with fail
    refine (unhide H5).mono ?_
    rintro e W5 ⟨rfl, h5⟩
    have H6 := hide (unhide G6 k W5 h5)
    clear h5
    go_wp2_with fail
    refine (unhide H6).mono ?_
    rintro e W6 ⟨rfl, h6⟩
    have H7 := hide h6
    clear h6
    go_wp2_with fail
    exact ⟨⟨k + 1, by omega, by go_num, unhide H7⟩, by simp [intOf]; omega⟩
  ·obtain rfl : k = n := by omega
   have Hr := hide hr
   clear hr
   go_wp2_with fail
   go_ret
   exact ⟨rfl, unhide Hr⟩
end Go.Proofs.YtjmacegibchplaaGreatDoor
namespace Go.Proofs.YtjmacegibchplaaGreatDoor
open Go.RowKit
set_option linter.unusedVariables false
theorem bulk_pos {H : Type} (d : DataW H) : 0 < Rows.uptoBulk d := by
 unfold Rows.uptoBulk
 split <;> omega
theorem bulk_len {H : Type} : ∀ l : List (DataW H), l.length ≤ Rows.uptoBulkAll l
 | [] => Nat.zero_le _
 | d :: l => by
  have h1 := bulk_pos d
  have h2 := bulk_len l
  rw [Rows.uptoBulkAll, List.length_cons]
  omega
theorem bulk_part {H : Type} {d : DataW H} {l : List (DataW H)} (h : d ∈ l) : Rows.uptoBulk d ≤ Rows.uptoBulkAll l := by
 obtain ⟨r, t, rfl⟩ := List.append_of_mem h
 clear h
 induction r with
 | nil => rw [List.nil_append, Rows.uptoBulkAll]; omega
 | cons e r ih => rw [List.cons_append, Rows.uptoBulkAll]; omega
set_option maxRecDepth 100000 in
theorem open_entryB {H : Type} {enc : TypeId × Value → H} {W : World} {base : Nat} {sp : Nat → Bool} {held : Bool} {fuel : Nat} {cs : List Value} {x : DataW H × List MemPlace}
  (h : DataW.trod enc Tryz.prog W base sp held fuel 32 cs = some x) : ∃ y : En, cs = enCells y ∧ EFits y ∧ y.path.size + y.data.size ≤ Rows.uptoBulk x.1 := by
 obtain ⟨xs, n, _, rfl, hl, hlen, hf⟩ := DataW.trod_struct Tryz.underlying32 h
 rw [cells_ent] at hl
 match cs, hl with
 | [v0, v1, v2], _ =>
  have h0 : DataW.trod enc Tryz.prog W base sp held n 9 (([v0, v1, v2].drop 0).take (Tryz.prog.cellsOf 9)) = xs[0]? := hf 0 _ rfl
  have h1 : DataW.trod enc Tryz.prog W base sp held n 3 (([v0, v1, v2].drop 1).take (Tryz.prog.cellsOf 3)) = xs[1]? := hf 1 _ rfl
  have h2 : DataW.trod enc Tryz.prog W base sp held n 9 (([v0, v1, v2].drop 2).take (Tryz.prog.cellsOf 9)) = xs[2]? := hf 2 _ rfl
  rw [cells_str] at h0 h2
  rw [cells_int] at h1
  match xs, hlen with
  | [y0, y1, y2], _ =>
   obtain ⟨s0, e0, r0, z0⟩ := DataW.trod_string Tryz.underlying9 h0
   obtain ⟨s1, e1, r1, z1⟩ := DataW.trod_int Tryz.underlying3 h1
   obtain ⟨s2, e2, r2, z2⟩ := DataW.trod_string Tryz.underlying9 h2
   simp at e0 e1 e2
   subst e0 e1 e2
   subst r0 r2
   refine ⟨⟨s0, s1, s2⟩, rfl, ⟨z0, z2⟩, ?_⟩
   simp only [List.map_cons, List.map_nil, Rows.uptoBulk, Rows.uptoBulkAll, Array.length_toList]
   show s0.data.size + s2.data.size ≤ _
   omega
set_option maxRecDepth 100000 in
theorem open_entriesB {H : Type} {enc : TypeId × Value → H} {W : World} {base : Nat} {sp : Nat → Bool} {held : Bool} {fuel : Nat} {a : Option Addr} {len cap : Nat} {x : DataW H × List MemPlace}
  (h : DataW.trod enc Tryz.prog W base sp held fuel 22 [.slice a len cap] = some x) (hk : Rows.uptoBulk x.1 ≤ 1048576) :
  ∃ l : List En, l.length = len ∧ LiesE W a l ∧ TFit l ∧ len ≤ 1048576 ∧ (a = none → l = [] ∧ cap = 0) := by
 rcases Deep.open_slice Tryz.underlying22 h with ⟨hcs, rfl⟩ | ⟨ad, len', cap', m, n, D, Pl, hcs, _, hl, hm, hmm, rfl, hel⟩
 ·simp at hcs
  obtain ⟨rfl, rfl, rfl⟩ := hcs
  exact ⟨[], rfl, .inl rfl, fun i hi => absurd hi (by simp), by decide, fun _ => ⟨rfl, rfl⟩⟩
 ·simp at hcs
  obtain ⟨rfl, rfl, rfl⟩ := hcs
  have hlm : len ≤ m := by rw [hmm]; split <;> omega
  simp only [Rows.uptoBulk] at hk
  have hln := bulk_len ((List.range len).map D)
  rw [List.length_map, List.length_range] at hln
  have hex : ∀ i, i < len → ∃ y : En, (EFits y ∧ y.path.size + y.data.size ≤ 1048576) ∧ ∀ j v, (enCells y)[j]? = some v → W.cell? ((ad.add (i * 3)).add j) = some v := by
   intro i hi
   obtain ⟨cs', hc, ht⟩ := hel i (by omega)
   obtain ⟨y, rfl, hy, hb⟩ := open_entryB ht
   rw [cells_ent] at hc
   obtain ⟨_, hlen, hcc⟩ := World.cells?_some hc
   have hp := bulk_part (d := D i) (l := (List.range len).map D) (List.mem_map.2 ⟨i, by simpa using hi, rfl⟩)
   simp only at hb
   refine ⟨y, ⟨hy, by omega⟩, fun j v hv => ?_⟩
   have hj : j < 3 := (List.getElem?_eq_some_iff.1 hv).1
   rw [← hv]
   exact hcc j hj
  obtain ⟨l, hll, hp⟩ := list_choose hex
  refine ⟨l, hll, ?_, fun i hi => ⟨by have := (hp i hi).1.2; omega, (hp i hi).1.1.data⟩, by omega, fun h => by simp at h⟩
  rcases Nat.eq_zero_or_pos len with h0 | hpos
  ·left; exact List.eq_nil_of_length_eq_zero (by omega)
  ·right
   obtain ⟨b, o, spot⟩ := ad
   have hc := (hp 0 (by omega)).2 0 _ rfl
   have hspot : spot = none := by simpa [Addr.add] using World.cell?_spot hc
   subst hspot
   refine ⟨b, o, rfl, EntsAt.of_row ?_⟩
   intro i hi j v hv
   have := (hp i hi).2 j v hv
   rw [add_off, add_off] at this
   exact this
set_option maxRecDepth 100000 in
theorem open_textsB {H : Type} {enc : TypeId × Value → H} {W : World} {base : Nat} {sp : Nat → Bool} {held : Bool} {fuel : Nat} {a : Option Addr} {len cap : Nat} {x : DataW H × List MemPlace}
  (h : DataW.trod enc Tryz.prog W base sp held fuel 23 [.slice a len cap] = some x) (hk : Rows.uptoBulk x.1 ≤ 1048576) :
  ∃ l : List (List UInt8), l.length = len ∧ TextsAt W a l ∧ (∀ y ∈ l, y.length ≤ 1048576) ∧ len ≤ 1048576 ∧ (a = none → l = [] ∧ cap = 0) := by
 rcases Deep.open_slice Tryz.underlying23 h with ⟨hcs, rfl⟩ | ⟨ad, len', cap', m, n, D, Pl, hcs, _, hl, hm, hmm, rfl, hel⟩
 ·simp at hcs
  obtain ⟨rfl, rfl, rfl⟩ := hcs
  exact ⟨[], rfl, .inl rfl, by simp, by decide, fun _ => ⟨rfl, rfl⟩⟩
 ·simp at hcs
  obtain ⟨rfl, rfl, rfl⟩ := hcs
  have hlm : len ≤ m := by rw [hmm]; split <;> omega
  simp only [Rows.uptoBulk] at hk
  have hln := bulk_len ((List.range len).map D)
  rw [List.length_map, List.length_range] at hln
  have hex : ∀ i, i < len → ∃ y : List UInt8, y.length ≤ 1048576 ∧ W.cell? (ad.add i) = some (strVal y) := by
   intro i hi
   obtain ⟨cs', hc, ht⟩ := hel i (by omega)
   obtain ⟨s0, e0, r0, z0⟩ := DataW.trod_string Tryz.underlying9 ht
   rw [cells_str] at hc
   obtain ⟨_, hlen, hcc⟩ := World.cells?_some hc
   have hp := bulk_part (d := D i) (l := (List.range len).map D) (List.mem_map.2 ⟨i, by simpa using hi, rfl⟩)
   have hcs : cs' = [.string s0] := e0
   have hD : D i = .lit (.string s0.data.toList) := by simpa using congrArg Prod.fst r0
   rw [hD] at hp
   refine ⟨s0.data.toList, ?_, ?_⟩
   ·simp only [Rows.uptoBulk] at hp
    omega
   ·have := hcc 0 (by omega)
    rw [hcs] at this
    rw [show strVal s0.data.toList = .string s0 by unfold strVal; rw [bs_of]]
    have h2 : ((ad.add i).add 0) = ad.add i := by unfold Addr.add; split <;> simp_all
    simp only [Nat.mul_one] at this
    rw [h2] at this
    simpa using this
  obtain ⟨l, hll, hp⟩ := list_choose hex
  refine ⟨l, hll, ?_, fun y hy => ?_, by omega, fun h => by simp at h⟩
  ·rcases Nat.eq_zero_or_pos len with h0 | hpos
   ·left; exact List.eq_nil_of_length_eq_zero (by omega)
   ·right
    obtain ⟨b, o, spot⟩ := ad
    have hc := (hp 0 (by omega)).2
    have hspot : spot = none := by simpa [Addr.add] using World.cell?_spot hc
    subst hspot
    refine ⟨b, o, rfl, fun i hi => ?_⟩
    have := (hp i hi).2
    rw [add_off] at this
    exact this
  ·obtain ⟨i, hi, rfl⟩ := List.getElem_of_mem hy
   exact (hp i hi).1
set_option maxRecDepth 100000 in
theorem open_intsB {H : Type} {enc : TypeId × Value → H} {W : World} {base : Nat} {sp : Nat → Bool} {held : Bool} {fuel : Nat} {a : Option Addr} {len cap : Nat} {x : DataW H × List MemPlace}
  (h : DataW.trod enc Tryz.prog W base sp held fuel 55 [.slice a len cap] = some x) (hk : Rows.uptoBulk x.1 ≤ 1048576) :
  ∃ l : List Int, l.length = len ∧ IntsAt W a l ∧ (∀ r ∈ l, -9223372036854775808 ≤ r ∧ r ≤ 9223372036854775807) ∧ len ≤ 1048576 ∧ (a = none → l = [] ∧ cap = 0) := by
 rcases Deep.open_slice Tryz.underlying55 h with ⟨hcs, rfl⟩ | ⟨ad, len', cap', m, n, D, Pl, hcs, _, hl, hm, hmm, rfl, hel⟩
 ·simp at hcs
  obtain ⟨rfl, rfl, rfl⟩ := hcs
  exact ⟨[], rfl, .inl rfl, by simp, by decide, fun _ => ⟨rfl, rfl⟩⟩
 ·simp at hcs
  obtain ⟨rfl, rfl, rfl⟩ := hcs
  have hlm : len ≤ m := by rw [hmm]; split <;> omega
  simp only [Rows.uptoBulk] at hk
  have hln := bulk_len ((List.range len).map D)
  rw [List.length_map, List.length_range] at hln
  have hmin : IntKind.i64.min = -9223372036854775808 := by decide
  have hmax : IntKind.i64.max = 9223372036854775807 := by decide
  have hex : ∀ i, i < len → ∃ y : Int, (-9223372036854775808 ≤ y ∧ y ≤ 9223372036854775807) ∧ W.cell? (ad.add i) = some (.int .i64 y) := by
   intro i hi
   obtain ⟨cs', hc, ht⟩ := hel i (by omega)
   obtain ⟨s0, e0, r0, z0⟩ := DataW.trod_int Tryz.underlying3 ht
   rw [cells_int] at hc
   obtain ⟨_, hlen, hcc⟩ := World.cells?_some hc
   have hcs : cs' = [.int .i64 s0] := e0
   refine ⟨s0, ?_, ?_⟩
   ·have h1 := z0
    simp [Lit.wf] at h1
    omega
   ·have := hcc 0 (by omega)
    rw [hcs] at this
    have h2 : ((ad.add i).add 0) = ad.add i := by unfold Addr.add; split <;> simp_all
    simp only [Nat.mul_one] at this
    rw [h2] at this
    simpa using this
  obtain ⟨l, hll, hp⟩ := list_choose hex
  refine ⟨l, hll, ?_, fun y hy => ?_, by omega, fun h => by simp at h⟩
  ·rcases Nat.eq_zero_or_pos len with h0 | hpos
   ·left; exact List.eq_nil_of_length_eq_zero (by omega)
   ·right
    obtain ⟨b, o, spot⟩ := ad
    have hc := (hp 0 (by omega)).2
    have hspot : spot = none := by simpa [Addr.add] using World.cell?_spot hc
    subst hspot
    refine ⟨b, o, rfl, fun i hi => ?_⟩
    have := (hp i hi).2
    rw [add_off] at this
    exact this
  ·obtain ⟨i, hi, rfl⟩ := List.getElem_of_mem hy
   exact (hp i hi).1
end Go.Proofs.YtjmacegibchplaaGreatDoor
namespace Go.Proofs.YtjmacegibchplaaGreatDoor
open Go.RowKit Go.Maps Go.WideMaps
set_option linter.unusedVariables false
theorem Sd.zero (w : World) (base : Nat) (hb : base ≤ w.heap.size) : Sd (w.alloc (.cells #[.int .i64 0, .bool false, .slice none 0 0, .slice none 0 0, .slice none 0 0, .slice none 0 0, .slice none 0 0, .slice none 0 0, .slice none 0 0, .slice none 0 0, .slice none 0 0, .slice none 0 0, .slice none 0 0, .slice none 0 0, .slice none 0 0] 90)) w.heap.size base (.slice none 0 0) (fun x => x = w.heap.size) 0 0 [] :=
 ⟨Kp.zero w base hb, World.ownsRow_nil _ _ _ _, fun x e => by simp [Value.ownBlock] at e, fun i hi => by simp at hi, fun i j hi => by simp at hi, fun i hi => by simp at hi, fun x hx => by omega, fun i hi => by simp at hi⟩
def OpAt (w : World) (b p : Nat) (o : OpP) : Prop := ∀ (j : Nat) (v : Value), o.cells[j]? = some v → w.cell? ⟨b, p + j, none⟩ = some v
def LiesO (w : World) (a : Option Addr) (l : List OpP) : Prop := l = [] ∨ ∃ b s, a = some ⟨b, s, none⟩ ∧ ∀ i (h : i < l.length), OpAt w b (s + i * 11) l[i]
theorem OpAt.below {w w' : World} {b p : Nat} {o : OpP} (h : OpAt w b p o) (hb : Below w.heap.size w w') : OpAt w' b p o := fun j v hv => (hb.cell (p := ⟨b, p + j, none⟩) (block_lt (h j v hv))).trans (h j v hv)
end Go.Proofs.YtjmacegibchplaaGreatDoor