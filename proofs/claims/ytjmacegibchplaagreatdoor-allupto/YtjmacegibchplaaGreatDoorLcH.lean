import Derived.Test.YtjmacegibchplaaGreatDoorLcB
import Derived.Test.YtjmacegibchplaaGreatDoorUpF
import Derived.Test.YtjmacegibchplaaGreatDoorMapV
import Derived.Test.YtjmacegibchplaaGreatDoorLcA
namespace Go.Proofs.YtjmacegibchplaaGreatDoor
open Go.RowKit Go.Maps Go.WideMaps
set_option linter.unusedVariables false
structure FB (w : World) (fb base : Nat) (v : Value) (out : List En) (ents dep : Int) (rb : Nat) (D1 D2 : Value) (dbase : Nat) (room : Int) (st : List (List UInt8 × List UInt8)) : Prop where
 f : w.heap[fb]? = some (.cells #[.pointer (some ⟨rb, 0, none⟩), .int .i64 ents, .int .i64 dep, v] 217 (0, 0))
 own : OwnsE w base v out
 bas : base ≤ w.heap.size
 len : out.length ≤ 40
 d : DS w rb D1 D2 dbase room st
 dlt : ∀ x, DSet rb D1 D2 x → x < base
 flt : base ≤ fb
section
variable {w w' w4 : World} {fb base : Nat} {v v4 : Value} {out : List En} {ents dep : Int} {rb : Nat} {D1 D2 : Value} {dbase : Nat} {room : Int} {st : List (List UInt8 × List UInt8)} {y : En} {X : Obj}
theorem FB.lt (h : FB w fb base v out ents dep rb D1 D2 dbase room st) : fb < w.heap.size := (Array.getElem?_eq_some_iff.1 h.f).1
theorem FB.below (h : FB w fb base v out ents dep rb D1 D2 dbase room st) (hb : Below w.heap.size w w') : FB w' fb base v out ents dep rb D1 D2 dbase room st :=
 ⟨(hb.block fb h.lt).trans h.f, own_fr h.own (Fr.below (S := fun _ => False) hb) (fun _ _ hh => hh), Nat.le_trans h.bas hb.size, h.len, DSt.below h.d hb (Nat.le_refl _), h.dlt, h.flt⟩
theorem FB.fr {S : Nat → Prop} (h : FB w fb base v out ents dep rb D1 D2 dbase room st) (hf : Fr S w w') (h1 : ¬ S fb) (h2 : ∀ g, v.ownBlock = some g → ¬ S g) (h3 : ∀ x, DSet rb D1 D2 x → ¬ S x) : FB w' fb base v out ents dep rb D1 D2 dbase room st :=
 ⟨(hf.block fb h.lt h1).trans h.f, own_fr h.own hf h2, Nat.le_trans h.bas hf.size, h.len, DSt.fr h.d hf h3, h.dlt, h.flt⟩
theorem FB.next {W1 W5 W6 : World} {lo : Nat} {vi u u' : Value} {items : List P.It} (h : FB W5 fb base u out ents dep rb D1 D2 dbase room st) (ho : OwnsIt W5 lo vi items) (hf : Fr (fun x => x = fb ∨ v.ownBlock = some x) W1 W5) (hl : u.ownBlock = v.ownBlock ∨ ∃ g, u.ownBlock = some g ∧ W1.heap.size ≤ g) (hf6 : Fr (fun x => x = fb ∨ u.ownBlock = some x) W5 W6) (hl6 : u'.ownBlock = u.ownBlock ∨ ∃ g, u'.ownBlock = some g ∧ W5.heap.size ≤ g) :
  OwnsIt W6 lo vi items ∧ Fr (fun x => x = fb ∨ v.ownBlock = some x) W1 W6 ∧ (u'.ownBlock = v.ownBlock ∨ ∃ g, u'.ownBlock = some g ∧ W1.heap.size ≤ g) :=
 ⟨own_fr ho hf6 (by
  rintro g hg (e | e)
  ·exact own_cells ho hg h.f (by decide) e
  ·exact own_types ho h.own (by decide) hg e), fr_step hf hl hf6, loc_step hf.size hl hl6⟩
theorem FB.push (h : FB w fb base v out ents dep rb D1 D2 dbase room st) (hlt : out.length + 1 ≤ 40) (g : ((w.alloc X).drew).grownBy w4 v.ownBlock) (o : OwnsE w4 base v4 (out ++ [y])) :
  w4.heap[fb]? = some (.cells #[.pointer (some ⟨rb, 0, none⟩), .int .i64 ents, .int .i64 dep, v] 217 (0, 0)) ∧ FB (w4.setCell ⟨fb, 3, none⟩ v4) fb base v4 (out ++ [y]) ents dep rb D1 D2 dbase room st ∧ Fr (fun x => x = fb ∨ v.ownBlock = some x) w (w4.setCell ⟨fb, 3, none⟩ v4) := by
 have hne : v.ownBlock ≠ some fb := fun e => own_cells h.own e h.f (by decide) rfl
 have h4 : w4.heap[fb]? = some (.cells #[.pointer (some ⟨rb, 0, none⟩), .int .i64 ents, .int .i64 dep, v] 217 (0, 0)) := (g.block fb (by have := h.lt; simp; omega) (fun e => hne e.symm)).trans ((Below.heap_alloc w X fb h.lt).trans h.f)
 have hF : Fr (fun x => x = fb ∨ v.ownBlock = some x) w (w4.setCell ⟨fb, 3, none⟩ v4) := ((Fr.below ((Below.refl _ _).alloc (Nat.le_refl _) X).drew).trans (Fr.grown g (fun g' e => .inr e))).trans (Fr.set (S := fun x => x = fb ∨ v.ownBlock = some x) _ _ _ _ (.inl rfl))
 refine ⟨h4, ⟨heap_setCell_same w4 fb 3 _ _ v4 h4, own_fr o (Fr.set (S := fun x => x = fb) w4 fb 3 v4 rfl) (fun g' hg' e => own_cells o hg' h4 (by decide) e), Nat.le_trans h.bas hF.size, by simpa using hlt, DSt.fr h.d hF ?_, h.dlt, h.flt⟩, hF⟩
 intro x hx hs
 have h1 := h.dlt x hx
 have h2 := h.flt
 rcases hs with e | e
 ·omega
 ·have := (World.ownsRow.lt h.own x e).1; omega
end
def BEnd (w : World) (fb base : Nat) (v : Value) (ents dep : Int) (rb : Nat) (D1 D2 : Value) (dbase : Nat) (room : Int) (st : List (List UInt8 × List UInt8)) (q : Int × List En) (e : Ending) (w' : World) : Prop :=
 e = .returned (.int .i64 q.1) ∧ Fr (fun x => x = fb ∨ v.ownBlock = some x) w w' ∧ (q.1 = 0 → ∃ v', FB w' fb base v' q.2 ents dep rb D1 D2 dbase room st ∧ (v'.ownBlock = v.ownBlock ∨ ∃ g, v'.ownBlock = some g ∧ w.heap.size ≤ g))
def BelAt (fb base : Nat) (ents dep : Int) (rb : Nat) (D1 D2 : Value) (dbase : Nat) (room : Int) (st : List (List UInt8 × List UInt8)) (f k : Nat) : Prop := ∀ (d b : List UInt8) (v : Value) (out : List En) (w : World),
  d.length ≤ 13 * k → b.length ≤ 10000000 → FB w fb base v out ents dep rb D1 D2 dbase room st →
  Calls Tryz.prog 193 #[.pointer (some ⟨fb, 0, none⟩), .string (bs b), .string (bs (pre d)), .int .i64 ((k : Int) + 1)] w fun e w' => BEnd w fb base v ents dep rb D1 D2 dbase room st (belowF (atP st) ents dep (f + 1) ((k : Int) + 1) b d out) e w'
theorem bs_cat (a b : List UInt8) : bs a ++ bs b = bs (a ++ b) := by
 apply ByteArray.ext
 simp [bs]
set_option maxRecDepth 100000 in
set_option maxHeartbeats 40000000 in
theorem below_core (fb base : Nat) (ents dep : Int) (rb : Nat) (D1 D2 : Value) (dbase : Nat) (room : Int) (st : List (List UInt8 × List UInt8)) (hst : st.length ≤ maxLen) (hsz : ∀ d b, atP st d = some b → b.length ≤ 1100000) (f k : Nat) (hkf : k + f = 5) (ih : ∀ f', f = f' + 1 → BelAt fb base ents dep rb D1 D2 dbase room st f' (k + 1)) :
  BelAt fb base ents dep rb D1 D2 dbase room st f k := by
 intro d b v out w hdl hbl hF
 have hdec := refDecode_loop b w (by omega)
 have Hih := hide ih
 have Hdec := hide hdec
 clear ih hdec
 go_enter Tryz.func193, Tryz.ntmps193
 go_wp2_with fail
 refine (unhide Hdec).mono ?_
 rintro e W1 ⟨hb1, ⟨hno, rfl⟩ | ⟨items, vi, hok, rfl, hoi⟩⟩
 ·have Hr := hide (show belowF (atP st) ents dep (f + 1) ((k : Int) + 1) b d out = (8, out) by simp only [belowF, hno])
  have Hb := hide hb1
  clear hb1 hno Hdec Hih hF
  go_wp2_with fail
  go_ret
  exact ⟨ret_int (by rw [unhide Hr]), Fr.below (unhide Hb), fun h => by rw [unhide Hr] at h; simp at h⟩
 ·have hbel : belowF (atP st) ents dep (f + 1) ((k : Int) + 1) b d out = fetItems (atP st) ents dep (belowF (atP st) ents dep f ((k : Int) + 1 + 1)) d ((k : Int) + 1) items out := by simp only [belowF, hok]
  have hdok := ((decOk_iff _ _).1 hok).1
  have hil : items.length ≤ 40 := by
   unfold dirOk at hdok
   simp only [Bool.and_eq_true, decide_eq_true_eq] at hdok
   exact hdok.1
  have hios := dir_each items hdok
  have hF1 := hF.below hb1
  obtain ⟨ai, ci, rfl⟩ := row_shape hoi
  have Hb1 := hide hb1
  have Hbel := hide hbel
  clear hbel hdok hok Hdec hF hb1
  have HF1 := hide (And.intro hF1 hoi)
  clear hF1 hoi
  go_wp2_with fail
  go_loopw [11] (fun i wr => ∃ (j : Nat) (out' : List En) (v' : Value), j ≤ items.length ∧ i = .int .i64 j ∧ FB wr fb base v' out' ents dep rb D1 D2 dbase room st ∧ OwnsIt wr w.heap.size (.slice ai items.length ci) items ∧ fetItems (atP st) ents dep (belowF (atP st) ents dep f ((k : Int) + 1 + 1)) d ((k : Int) + 1) items out = fetItems (atP st) ents dep (belowF (atP st) ents dep f ((k : Int) + 1 + 1)) d ((k : Int) + 1) (items.drop j) out' ∧ Fr (fun x => x = fb ∨ v.ownBlock = some x) W1 wr ∧ (v'.ownBlock = v.ownBlock ∨ ∃ g, v'.ownBlock = some g ∧ W1.heap.size ≤ g)) (fun i _ => items.length - (intOf i).toNat)
  case atStart => exact ⟨0, out, v, by omega, rfl, (unhide HF1).1, (unhide HF1).2, by rw [List.drop_zero], fr_refl _ _, .inl rfl⟩
  case round =>
   obtain ⟨j, out', v', hj, rfl, hFr, hor, heq, hfr, hloc⟩ := hrel
   clear HF1
   by_cases hlt : j < items.length
   ·rw [List.drop_eq_getElem_cons hlt] at heq
    have hxo := hios _ (List.getElem_mem hlt)
    obtain ⟨g, o, rfl, t0, t1, t2, t3, t4⟩ : ∃ g o, ai = some ⟨g, o, none⟩ ∧ ItemAt wr g (o + j * 5) items[j] := by
     obtain ⟨a2, c2, e2, hli, -⟩ := hor.lies
     obtain ⟨rfl, rfl⟩ : ai = a2 ∧ ci = c2 := by simpa using e2
     rcases hli with h1 | ⟨b, o, rfl, h1⟩
     ·rw [h1] at hlt; simp at hlt
     ·exact ⟨b, o, rfl, h1 j hlt⟩
    obtain ⟨hx1, hx2, hx3⟩ := item_bd _ hxo
    have hnm := item_name _ hxo
    have hpl := pre_len2 d
    have q1 : (j : Int) < (items.length : Int) := by omega
    generalize items[j] = x at *
    obtain ⟨xn, xk, xd, xs, xt⟩ := x
    obtain ⟨nm, rfl⟩ : ∃ nm, xn = bs nm := ⟨xn.data.toList, (bs_of xn).symm⟩
    obtain ⟨dg, rfl⟩ : ∃ dg, xd = bs dg := ⟨xd.data.toList, (bs_of xd).symm⟩
    obtain ⟨tg, rfl⟩ : ∃ tg, xt = bs tg := ⟨xt.data.toList, (bs_of xt).symm⟩
    simp only [bs_data] at *
    have hbA : Below wr.heap.size wr (wr.alloc (.cells #[.string (bs nm), .int .i64 xk, .string (bs dg), .int .i64 xs, .string (bs tg)] 47)) := (Below.refl _ _).alloc (Nat.le_refl _) _
    have hA := heap_alloc_new wr (.cells #[.string (bs nm), .int .i64 xk, .string (bs dg), .int .i64 xs, .string (bs tg)] 47)
    obtain ⟨a0, c0, rfl⟩ := row_shape hFr.own
    have hgl := block_lt t0
    have Hall := hide (And.intro hFr (And.intro hor (And.intro hfr (And.intro hloc hbA))))
    have Heq := hide heq
    have hn40 := hFr.len
    have hflt := hFr.lt
    have k1 := cell_of_block (j := 1) ((hbA.block fb hflt).trans hFr.f)
    have k2 := cell_of_block (j := 2) ((hbA.block fb hflt).trans hFr.f)
    have k3 := cell_of_block (j := 3) ((hbA.block fb hflt).trans hFr.f)
    simp only [List.getElem?_toArray, List.getElem?_cons_zero, List.getElem?_cons_succ] at k1 k2 k3
    have hzA : (wr.alloc (.cells #[.string (bs nm), .int .i64 xk, .string (bs dg), .int .i64 xs, .string (bs tg)] 47)).heap.size = wr.heap.size + 1 := by simp
    clear hFr hor hfr hloc heq hbA
    obtain ⟨WA, hWA⟩ : ∃ WA, wr.alloc (.cells #[.string (bs nm), .int .i64 xk, .string (bs dg), .int .i64 xs, .string (bs tg)] 47) = WA := ⟨_, rfl⟩
    rw [hWA] at hA k1 k2 k3 hzA
    have HWA := hide hWA
    clear hWA
    have hfA : fb < WA.heap.size := by omega
    go_upto_region 8 with fail
    rw [unhide HWA]
    go_cut [64] (fun s wx => s = .bool (decide (ents < (out'.length : Int) + 1 ∨ dep < (k : Int) + 1 ∨ out'.length = 40 ∨ 5 < (k : Int) + 1)) ∧ ∃ n, wx = WA.drewN n)
    case first =>
     clear t0 t1 t2 t3 t4
     by_cases a1 : ents < (out'.length : Int) + 1
     ·have g : decide (ents < (out'.length : Int) + 1 ∨ dep < (k : Int) + 1 ∨ out'.length = 40 ∨ 5 < (k : Int) + 1) = true := decide_eq_true (.inl a1)
      go_quiet (fail)
      go_wp2_with fail
      go_meet
      exact ⟨congrArg Value.bool g.symm, _, by first | rfl | exact World.drewN_drewN _ _ _⟩
     ·have d1 : decide (ents < (out'.length : Int) + 1) = false := decide_eq_false a1
      by_cases a2 : dep < (k : Int) + 1
      ·have g : decide (ents < (out'.length : Int) + 1 ∨ dep < (k : Int) + 1 ∨ out'.length = 40 ∨ 5 < (k : Int) + 1) = true := decide_eq_true (.inr (.inl a2))
       go_quiet (fail)
       go_wp2_with fail
       go_meet
       exact ⟨congrArg Value.bool g.symm, _, by first | rfl | exact World.drewN_drewN _ _ _⟩
      ·have d2 : decide (dep < (k : Int) + 1) = false := decide_eq_false a2
       by_cases a3 : out'.length = 40
       ·have g : decide (ents < (out'.length : Int) + 1 ∨ dep < (k : Int) + 1 ∨ out'.length = 40 ∨ 5 < (k : Int) + 1) = true := decide_eq_true (.inr (.inr (.inl a3)))
        have b3 : ((out'.length : Int) == 40) = true := by simp; omega
        clear a3
        go_quiet (fail)
        go_wp2_with fail
        go_meet
        exact ⟨congrArg Value.bool g.symm, _, by first | rfl | exact World.drewN_drewN _ _ _⟩
       ·have b3 : ((out'.length : Int) == 40) = false := by simp; omega
        have g : decide (ents < (out'.length : Int) + 1 ∨ dep < (k : Int) + 1 ∨ out'.length = 40 ∨ 5 < (k : Int) + 1) = decide (5 < (k : Int) + 1) := by
         rw [decide_eq_decide]
         constructor
         ·rintro (h | h | h | h)
          ·exact absurd h a1
          ·exact absurd h a2
          ·exact absurd h a3
          ·exact h
         ·exact fun h => .inr (.inr (.inr h))
        clear a3
        go_quiet (fail)
        go_wp2_with fail
        go_meet
        exact ⟨congrArg Value.bool g.symm, _, by first | rfl | exact World.drewN_drewN _ _ _⟩
    case rest =>
     obtain ⟨rfl, n2, rfl⟩ := hcut
     by_cases hbud : ents < (out'.length : Int) + 1 ∨ dep < (k : Int) + 1 ∨ out'.length = 40 ∨ 5 < (k : Int) + 1
     ·rw [decide_eq_true hbud]
      have Hr := hide (show belowF (atP st) ents dep (f + 1) ((k : Int) + 1) b d out = (9, out') by rw [unhide Hbel, unhide Heq]; simp only [fetItems, if_pos hbud])
      clear hbud t0 t1 t2 t3 t4 k1 k2 k3
      go_wp2_with fail
      go_ret
      have hbA := (unhide Hall).2.2.2.2
      rw [unhide HWA] at hbA
      exact ⟨ret_int (by rw [unhide Hr]), ((Fr.below (unhide Hb1)).trans (unhide Hall).2.2.1).trans (Fr.below (below_drewN hbA _)), fun h => by rw [unhide Hr] at h; simp at h⟩
     ·rw [decide_eq_false hbud]
      obtain ⟨hFr, hor, hfr, hloc, hbA0⟩ := unhide Hall
      have hbA := hbA0
      rw [unhide HWA] at hbA
      have hbq : Below wr.heap.size wr (WA.drewN n2) := below_drewN hbA _
      have hAq : (WA.drewN n2).heap[wr.heap.size]? = some (.cells #[.string (bs nm), .int .i64 xk, .string (bs dg), .int .i64 xs, .string (bs tg)] 47 (0, 0)) := hA
      have hzq : (WA.drewN n2).heap.size = wr.heap.size + 1 := hzA
      have hFq := hFr.below hbq
      have hog : ∀ g, (Value.slice a0 out'.length c0).ownBlock = some g → g < wr.heap.size := fun g hg => (World.ownsRow.lt hFr.own g hg).2
      have hfw : fb < wr.heap.size := hFr.lt
      have hbw : base ≤ wr.heap.size := hFr.bas
      have hdw := hFr.dlt
      have hw1 := hfr.size
      have hoq : OwnsIt (WA.drewN n2) w.heap.size (.slice (some ⟨g, o, none⟩) items.length ci) items := own_fr hor (Fr.below (S := fun _ => False) hbq) (fun _ _ hh => hh)
      have hfq := hfr.trans (Fr.below hbq)
      have ad1 : ∀ w, (Op.stringOp .add (bs (pre d)) (bs nm)).run Tryz.prog w = .ok (.string (bs (pre d ++ nm))) w := fun w => by
       have := add_ok (bs (pre d)) (bs nm) (by rw [bs_size]; omega) (by rw [bs_size]; omega) w
       rw [bs_cat] at this
       exact this
      generalize WA.drewN n2 = Wq at *
      clear t0 t1 t2 t3 t4 k1 k2 k3 hA hzA hfA HWA Hall hFr hor hfr hbA0 hbA hgl
      have hbE : Below Wq.heap.size Wq (Wq.alloc (.cells #[.string (bs (pre d ++ nm)), .int .i64 xk, .string (bs tg)] 32)) := (Below.refl _ _).alloc (Nat.le_refl _) _
      have hE := heap_alloc_new Wq (.cells #[.string (bs (pre d ++ nm)), .int .i64 xk, .string (bs tg)] 32)
      have m0 := cell_of_block (j := 0) hAq
      have m1 := cell_of_block (j := 1) hAq
      have m4 := cell_of_block (j := 4) hAq
      simp only [List.getElem?_toArray, List.getElem?_cons_zero, List.getElem?_cons_succ] at m0 m1 m4
      have hlq : wr.heap.size < Wq.heap.size := by omega
      obtain ⟨WE, hWE⟩ : ∃ WE, Wq.alloc (.cells #[.string (bs (pre d ++ nm)), .int .i64 xk, .string (bs tg)] 32) = WE := ⟨_, rfl⟩
      have hzE : WE.heap.size = Wq.heap.size + 1 := by rw [← hWE]; simp
      rw [hWE] at hbE hE
      rw [hzq] at hE
      have hAE := (hbE.block wr.heap.size hlq).trans hAq
      have hFE := hFq.below hbE
      have hoE : OwnsIt WE w.heap.size (.slice (some ⟨g, o, none⟩) items.length ci) items := own_fr hoq (Fr.below (S := fun _ => False) hbE) (fun _ _ hh => hh)
      have hfE := hfq.trans (Fr.below hbE)
      have HWE := hide hWE
      have n0 := cell_of_block (j := 0) hAE
      have n1 := cell_of_block (j := 1) hAE
      have n2' := cell_of_block (j := 2) hAE
      have n3 := cell_of_block (j := 3) hAE
      have n4 := cell_of_block (j := 4) hAE
      have e0 := cell_of_block (j := 0) hE
      have e1 := cell_of_block (j := 1) hE
      have e2 := cell_of_block (j := 2) hE
      have ef2 := free_block (j := 2) hE
      have k0 := cell_of_block (j := 0) hFE.f
      have k3 := cell_of_block (j := 3) hFE.f
      simp only [List.getElem?_toArray, List.getElem?_cons_zero, List.getElem?_cons_succ] at n0 n1 n2' n3 n4 e0 e1 e2 k0 k3
      have hlE : wr.heap.size < WE.heap.size := by omega
      have hlE2 : wr.heap.size + 1 < WE.heap.size := by omega
      have hlf : fb < WE.heap.size := hFE.lt
      have HE := hide (And.intro hFE (And.intro hoE (And.intro hfE (And.intro hloc (And.intro hE hAE)))))
      have hownE := hFE.own
      have hbasE := hFE.bas
      have hout : xk = 3 → Calls Tryz.prog 71 #[.int .i64 (k : Int), .string (bs tg)] WE fun e w' => e = .returned (.bool (outP (k : Int) tg)) ∧ Below WE.heap.size WE w' := by
       intro h3
       refine out_any (k : Int) tg WE (by omega) (by omega) ?_ (by have := hx1; rw [bs_size] at this; exact this)
       rintro rfl
       rcases item_kind _ hxo with ⟨-, hl⟩ | ⟨hk, -⟩
       ·simp [P.linkOk, P.isTarget, bs] at hl
       ·simp only at hk; omega
      have hblob : ∀ W, Below WE.heap.size WE W → Calls Tryz.prog 192 #[.pointer (some ⟨rb, 0, none⟩), .string (bs dg)] W fun e w' => e = .returned (.tuple #[.string (bs (blobS (atP st) dg).2), .int .i64 (blobS (atP st) dg).1]) ∧ ∃ n, w' = W.drewN n := fun W hW =>
       refBlob_any st rb room dg W hst (DS.r (DSt.below hFE.d hW (Nat.le_refl _))) (hsz dg)
      have Hout := hide hout
      have Hblob := hide hblob
      have Hhx := hide (And.intro hxo (And.intro hx1 (And.intro hx2 (And.intro hx3 hnm))))
      clear hWE hAq hFq hoq hfq hFE hoE hfE hloc hE hAE hbE hbq hout hblob hxo hx1 hx2 hnm
      by_cases h3 : xk = 3
      ·subst h3
       have Ho := hide (unhide Hout rfl)
       go_wp2_with fail
       rw [unhide HWE]
       refine (unhide Ho).mono ?_
       rintro e W5 ⟨rfl, hb5⟩
       obtain ⟨hFE, hoE, hfE, hloc, hE, hAE⟩ := unhide HE
       have hF5 := hFE.below hb5
       have hE5 := (hb5.block _ hlE2).trans hE
       have hf5 := hfE.trans (Fr.below hb5)
       have ho5 : OwnsIt W5 w.heap.size (.slice (some ⟨g, o, none⟩) items.length ci) items := own_fr hoE (Fr.below (S := fun _ => False) hb5) (fun _ _ hh => hh)
       have hs5 := hb5.size
       clear n0 n1 n2' n3 n4 e0 e1 e2 ef2 k0 k3 m0 m1 m4 hownE Ho Hout Hblob HWE hFE hoE hfE hE hAE HE ad1 hb5
       cases hO : outP (k : Int) tg with
       | true =>
        have Hr := hide (show belowF (atP st) ents dep (f + 1) ((k : Int) + 1) b d out = (8, out') by rw [unhide Hbel, unhide Heq]; simp only [fetItems, if_neg hbud, bs_data, Int.add_sub_cancel, hO]; rfl)
        have Hf5 := hide hf5
        clear hF5 hE5 hf5 ho5 hloc hbud
        go_wp2_with fail
        go_ret
        exact ⟨ret_int (by rw [unhide Hr]), (Fr.below (unhide Hb1)).trans (unhide Hf5), fun h => by rw [unhide Hr] at h; simp at h⟩
       | false =>
        have heq2 : fetItems (atP st) ents dep (belowF (atP st) ents dep f ((k : Int) + 1 + 1)) d ((k : Int) + 1) items out = fetItems (atP st) ents dep (belowF (atP st) ents dep f ((k : Int) + 1 + 1)) d ((k : Int) + 1) (items.drop (j + 1)) (out' ++ [⟨bs (pre d ++ nm), 3, bs tg⟩]) := by
         rw [unhide Heq]; simp only [fetItems, if_neg hbud, bs_data, Int.add_sub_cancel, hO]; rfl
        have Heq2 := hide heq2
        have e0 := cell_of_block (j := 0) hE5
        have e1 := cell_of_block (j := 1) hE5
        have e2 := cell_of_block (j := 2) hE5
        have k3 := cell_of_block (j := 3) hF5.f
        have kf := free_block (j := 3) hF5.f
        simp only [List.getElem?_toArray, List.getElem?_cons_zero, List.getElem?_cons_succ] at e0 e1 e2 k3
        have hl5 : fb < W5.heap.size := hF5.lt
        have hown5 := hF5.own
        have hbas5 := hF5.bas
        have hlt40 : out'.length + 1 ≤ 40 := by omega
        have H5 := hide (And.intro hF5 (And.intro ho5 (And.intro hf5 hloc)))
        clear hF5 hE5 hf5 ho5 hloc hbud heq2
        go_upto_region 15 with fail
        obtain ⟨i0, hi0, hz0, hz1, hz2⟩ := info_parts info_ent
        have hownA : ((W5.alloc (.cells (enCells ⟨bs (pre d ++ nm), 3, bs tg⟩).toArray 32)).drew).ownsRow base 32 3 (.slice a0 out'.length c0) out'.length (rowCells enCells out') := World.ownsRow.drew (World.ownsRow.alloc hown5 _)
        have hnew : ∀ q y, (enCells ⟨bs (pre d ++ nm), 3, bs tg⟩)[q]? = some y → ((W5.alloc (.cells (enCells ⟨bs (pre d ++ nm), 3, bs tg⟩).toArray 32)).drew).cell? ((⟨W5.heap.size, 0, none⟩ : Addr).add q) = some y := by
         intro q y hq
         rw [add_off0]
         exact (cell_of_block (heap_alloc_new W5 _)).trans (by simpa using hq)
        have hb0 : base ≤ ((W5.alloc (.cells (enCells ⟨bs (pre d ++ nm), 3, bs tg⟩).toArray 32)).drew).heap.size := by simp; omega
        have hone : ∀ (y : En), ∀ u ∈ enCells y, u.oneCell' = true := fun y u hu => enCells_one [y] u (by simpa [rowCells] using hu)
        simp only [enCells] at hownA hnew hb0
        go_region_law ((refine step_app (enc := enCells) (bytes := 40) rfl (.tmp 87) (.tmp 89) 22 rfl i0 _ Tryz.underlying22 hi0 hz0 hz1 hz2 rfl (by decide) enCells_len hone base (.slice a0 out'.length c0) out' rfl hownA ⟨W5.heap.size, 0, none⟩ ⟨bs (pre d ++ nm), 3, bs tg⟩ rfl hnew (by unfold maxLen; omega) (by omega) hb0 ?_; intro v6 w6 ho6 hg6 hl6; obtain ⟨a6, c6, hv6⟩ := row_shape ho6; subst hv6; have hP := FB.push (unhide H5).1 hlt40 hg6 (by unfold OwnsE; rw [List.length_append]; exact ho6); have s3 := cell_of_block (j := 3) hP.1; have sf := free_block (j := 3) hP.1; have sl := (Array.getElem?_eq_some_iff.1 hP.1).1; simp only [List.getElem?_toArray, List.getElem?_cons_zero, List.getElem?_cons_succ] at s3; have HP := hide (And.intro hP.2 hl6); clear hP ho6 hg6 hl6))
        all_goals
         obtain ⟨⟨hF6, hf6⟩, hl6⟩ := unhide HP
         obtain ⟨hF5, ho5, hf5, hloc⟩ := unhide H5
         obtain ⟨g1, g2, g3⟩ := FB.next hF5 ho5 hf5 hloc hf6 (hl6.imp id (fun e => ⟨_, e, by simp⟩))
         have H6 := hide (And.intro hF6 (And.intro g1 (And.intro g2 g3)))
         clear hF6 hf6 hl6 hF5 ho5 hf5 hloc g1 g2 g3 HP H5 s3 sf sl k3 kf e0 e1 e2 hown5 hownA hnew hb0
         go_wp2_with fail
         obtain ⟨hF6, g1, g2, g3⟩ := unhide H6
         exact ⟨⟨j + 1, _, _, by omega, by go_num, hF6, g1, unhide Heq2, g2, g3⟩, by simp [intOf]; omega⟩
      ·have b3 : (xk == 3) = false := by simpa using h3
       go_wp2_with fail
       rw [unhide HWE]
       go_quiet ((go_at_call 192; exact Calls.quiet_of (unhide Hblob _ (below_drewN (Below.refl _ _) _))))
       have hb5 : Below WE.heap.size WE (WE.drewN nq) := below_drewN (Below.refl _ _) _
       obtain ⟨W5, hW5⟩ : ∃ W5, WE.drewN nq = W5 := ⟨_, rfl⟩
       rw [hW5] at hb5 ⊢
       clear hW5
       obtain ⟨hFE, hoE, hfE, hloc, hE, hAE⟩ := unhide HE
       have hF5 := hFE.below hb5
       have hE5 := (hb5.block _ hlE2).trans hE
       have hA5 := (hb5.block _ hlE).trans hAE
       have hf5 := hfE.trans (Fr.below hb5)
       have ho5 : OwnsIt W5 w.heap.size (.slice (some ⟨g, o, none⟩) items.length ci) items := own_fr hoE (Fr.below (S := fun _ => False) hb5) (fun _ _ hh => hh)
       have hs5 := hb5.size
       have hbo := blobS_ok (S := atP st) (d := dg)
       generalize hB : blobS (atP st) dg = B at *
       obtain ⟨be, bb⟩ := B
       simp only at hbo
       clear n0 n1 n2' n3 n4 e0 e1 e2 ef2 k0 k3 m0 m1 m4 hownE Hout Hblob HWE hFE hoE hfE hE hAE HE ad1 hb5
       by_cases hbe : be = 0
       ·subst hbe
        have hbb := hsz dg bb (hbo rfl).1
        have hbz := bs_size bb
        have n1 := cell_of_block (j := 1) hA5
        have n3 := cell_of_block (j := 3) hA5
        have e0 := cell_of_block (j := 0) hE5
        have e1 := cell_of_block (j := 1) hE5
        have e2 := cell_of_block (j := 2) hE5
        have ef2 := free_block (j := 2) hE5
        have k3 := cell_of_block (j := 3) hF5.f
        have kf := free_block (j := 3) hF5.f
        simp only [List.getElem?_toArray, List.getElem?_cons_zero, List.getElem?_cons_succ] at n1 n3 e0 e1 e2 k3
        have hl5 : fb < W5.heap.size := hF5.lt
        have hl5a : wr.heap.size < W5.heap.size := by omega
        have hl5b : wr.heap.size + 1 < W5.heap.size := by omega
        have hown5 := hF5.own
        have hbas5 := hF5.bas
        have hlt40 : out'.length + 1 ≤ 40 := by omega
        have Hf5 := hide hf5
        have H5 := hide (And.intro hF5 (And.intro ho5 (And.intro hf5 (And.intro hloc hE5))))
        clear hF5 hE5 hA5 hf5 ho5 hloc hbo
        by_cases hsx : (bb.length : Int) = xs
        ·by_cases h0 : xk = 0
         ·subst h0
          have hk4 : k + 1 ≤ 5 := by omega
          obtain ⟨f', rfl⟩ : ∃ f', f = f' + 1 := ⟨f - 1, by omega⟩
          have hne := isName_ne (unhide Hhx).2.2.2.2
          have hpre : pre (pre d ++ nm) = pre d ++ (nm ++ [47]) := pre_sub hne
          have hpl2 : (pre d ++ nm).length ≤ 13 * (k + 1) := by rw [List.length_append]; omega
          have hk1 : ((k + 1 : Nat) : Int) = (k : Int) + 1 := by omega
          have heq2 : fetItems (atP st) ents dep (belowF (atP st) ents dep (f' + 1) ((k : Int) + 1 + 1)) d ((k : Int) + 1) items out = (let q := belowF (atP st) ents dep (f' + 1) ((k : Int) + 1 + 1) bb (pre d ++ nm) (out' ++ [⟨bs (pre d ++ nm), 0, bs tg⟩]); if q.1 ≠ 0 then q else fetItems (atP st) ents dep (belowF (atP st) ents dep (f' + 1) ((k : Int) + 1 + 1)) d ((k : Int) + 1) (items.drop (j + 1)) q.2) := by
           rw [unhide Heq]; simp only [fetItems, if_neg hbud, bs_data, if_neg h3, hB]
           rw [if_neg (by simp), if_neg (by rintro (h | h); exact h hsx; exact h.1 rfl), if_neg (by simp)]
          have hrec : ∀ (W : World) (u : Value), FB W fb base u (out' ++ [⟨bs (pre d ++ nm), 0, bs tg⟩]) ents dep rb D1 D2 dbase room st → Calls Tryz.prog 193 #[.pointer (some ⟨fb, 0, none⟩), .string (bs bb), .string (bs (pre d ++ (nm ++ [47]))), .int .i64 ((k : Int) + 1 + 1)] W fun e w' => BEnd W fb base u ents dep rb D1 D2 dbase room st (belowF (atP st) ents dep (f' + 1) ((k : Int) + 1 + 1) bb (pre d ++ nm) (out' ++ [⟨bs (pre d ++ nm), 0, bs tg⟩])) e w' := by
           intro W u hW
           have := unhide Hih f' rfl (pre d ++ nm) bb u _ W hpl2 (by omega) hW
           rw [hpre, hk1] at this
           exact this
          have ad2 : ∀ w, (Op.stringOp .add (bs (pre d ++ nm)) ⟨#[47]⟩).run Tryz.prog w = .ok (.string (bs (pre d ++ (nm ++ [47])))) w := fun w => by
           have := add_ok (bs (pre d ++ nm)) ⟨#[47]⟩ (by rw [bs_size]; omega) (by decide) w
           rw [show (⟨#[47]⟩ : ByteArray) = bs [47] from rfl, bs_cat, List.append_assoc] at this
           exact this
          unfold BEnd at hrec
          generalize belowF (atP st) ents dep (f' + 1) ((k : Int) + 1 + 1) bb (pre d ++ nm) (out' ++ [⟨bs (pre d ++ nm), 0, bs tg⟩]) = q at *
          obtain ⟨qe, qo⟩ := q
          simp only at heq2 hrec
          have Heq2 := hide heq2
          have Hrec := hide hrec
          subst hsx
          clear heq2 hrec hbud Heq hB hpre hk1 Hih
          obtain ⟨i0, hi0, hz0, hz1, hz2⟩ := info_parts info_ent
          have hownA : ((W5.alloc (.cells (enCells ⟨bs (pre d ++ nm), 0, bs tg⟩).toArray 32)).drew).ownsRow base 32 3 (.slice a0 out'.length c0) out'.length (rowCells enCells out') := World.ownsRow.drew (World.ownsRow.alloc hown5 _)
          have hnew : ∀ q y, (enCells ⟨bs (pre d ++ nm), 0, bs tg⟩)[q]? = some y → ((W5.alloc (.cells (enCells ⟨bs (pre d ++ nm), 0, bs tg⟩).toArray 32)).drew).cell? ((⟨W5.heap.size, 0, none⟩ : Addr).add q) = some y := by
           intro q y hq
           rw [add_off0]
           exact (cell_of_block (heap_alloc_new W5 _)).trans (by simpa using hq)
          have hb0 : base ≤ ((W5.alloc (.cells (enCells ⟨bs (pre d ++ nm), 0, bs tg⟩).toArray 32)).drew).heap.size := by simp; omega
          have hone : ∀ (y : En), ∀ u ∈ enCells y, u.oneCell' = true := fun y u hu => enCells_one [y] u (by simpa [rowCells] using hu)
          simp only [enCells] at hownA hnew hb0
          go_upto_region 24 with fail
          clear n1 n3 ef2
          go_cut [13] (fun s wx => s = .pointer (some ⟨wr.heap.size + 1, 0, none⟩) ∧ ∃ u, FB wx fb base u (out' ++ [⟨bs (pre d ++ nm), 0, bs tg⟩]) ents dep rb D1 D2 dbase room st ∧ OwnsIt wx w.heap.size (.slice (some ⟨g, o, none⟩) items.length ci) items ∧ Fr (fun x => x = fb ∨ v.ownBlock = some x) W1 wx ∧ (u.ownBlock = v.ownBlock ∨ ∃ g, u.ownBlock = some g ∧ W1.heap.size ≤ g) ∧ wx.heap[wr.heap.size + 1]? = some (.cells #[.string (bs (pre d ++ nm)), .int .i64 0, .string (bs tg)] 32 (0, 0)))
          case first =>
           go_region_law ((refine step_app (enc := enCells) (bytes := 40) rfl (.tmp 140) (.tmp 142) 22 rfl i0 _ Tryz.underlying22 hi0 hz0 hz1 hz2 rfl (by decide) enCells_len hone base (.slice a0 out'.length c0) out' rfl hownA ⟨W5.heap.size, 0, none⟩ ⟨bs (pre d ++ nm), 0, bs tg⟩ rfl hnew (by unfold maxLen; omega) (by omega) hb0 ?_; intro v6 w6 ho6 hg6 hl6; obtain ⟨a6, c6, hv6⟩ := row_shape ho6; subst hv6; have hP := FB.push (unhide H5).1 hlt40 hg6 (by unfold OwnsE; rw [List.length_append]; exact ho6); have s3 := cell_of_block (j := 3) hP.1; have sf := free_block (j := 3) hP.1; have sl := (Array.getElem?_eq_some_iff.1 hP.1).1; simp only [List.getElem?_toArray, List.getElem?_cons_zero, List.getElem?_cons_succ] at s3; have HP := hide (And.intro hP.2 hl6); clear hP ho6 hg6 hl6))
           all_goals
            obtain ⟨⟨hF6, hf6⟩, hl6⟩ := unhide HP
            obtain ⟨hF5, ho5, hf5, hloc, hE5⟩ := unhide H5
            obtain ⟨g1, g2, g3⟩ := FB.next hF5 ho5 hf5 hloc hf6 (hl6.imp id (fun e => ⟨_, e, by simp⟩))
            have hE6 := (hf6.block (wr.heap.size + 1) hl5b (by rintro (e | e); omega; have := hog _ e; omega)).trans hE5
            have H6 := hide (And.intro hF6 (And.intro g1 (And.intro g2 (And.intro g3 hE6))))
            clear hF6 hf6 hl6 hF5 ho5 hf5 hloc g1 g2 g3 hE5 hE6 HP H5 s3 sf sl k3 kf e0 e1 e2 hown5 hownA hnew hb0
            go_wp2_with fail
            go_meet
            exact ⟨rfl, _, unhide H6⟩
          case rest =>
           rename World => W7
           obtain ⟨rfl, u, hF7, ho7, hf7, hloc7, hE7⟩ := hcut
           have e0 := cell_of_block (j := 0) hE7
           simp only [List.getElem?_toArray, List.getElem?_cons_zero] at e0
           have hl7 := (Array.getElem?_eq_some_iff.1 hE7).1
           have Hr7 := hide (unhide Hrec W7 u hF7)
           have H7 := hide (And.intro hF7 (And.intro ho7 (And.intro hf7 hloc7)))
           clear hF7 ho7 hf7 hloc7 hE7 Hrec H5 hownA hnew hb0 hown5 k3 kf
           go_wp2_with fail
           refine (unhide Hr7).mono ?_
           rintro e W8 ⟨rfl, hf8, hq8⟩
           obtain ⟨hF7, ho7, hf7, hloc7⟩ := unhide H7
           by_cases hqe : qe = 0
           ·subst hqe
            obtain ⟨v8, hF8, hl8⟩ := hq8 rfl
            obtain ⟨g1, g2, g3⟩ := FB.next hF7 ho7 hf7 hloc7 hf8 hl8
            have Heq3 := hide ((unhide Heq2).trans (if_neg (by simp)))
            have H8 := hide (And.intro hF8 (And.intro g1 (And.intro g2 g3)))
            clear hF7 ho7 hf7 hloc7 hf8 hq8 hF8 hl8 g1 g2 g3 Heq2 H7 Hr7 e0
            go_wp2_with fail
            obtain ⟨hF8, g1, g2, g3⟩ := unhide H8
            exact ⟨⟨j + 1, _, _, by omega, by go_num, hF8, g1, unhide Heq3, g2, g3⟩, by simp [intOf]; omega⟩
           ·have Hr := hide (show belowF (atP st) ents dep (f' + 1 + 1) ((k : Int) + 1) b d out = (qe, qo) by rw [unhide Hbel, unhide Heq2, if_pos hqe])
            have bq : (qe == 0) = false := by simpa using hqe
            have Hf8 := hide (fr_step hf7 hloc7 hf8)
            clear hF7 ho7 hf7 hloc7 hf8 hq8 Heq2 H7 Hr7 e0
            go_wp2_with fail
            go_ret
            exact ⟨ret_int (by rw [unhide Hr]), (Fr.below (unhide Hb1)).trans (unhide Hf8), fun h => by rw [unhide Hr] at h; exact absurd h hqe⟩
         ·by_cases h60 : 60 < bb.length
          ·have Hr := hide (show belowF (atP st) ents dep (f + 1) ((k : Int) + 1) b d out = (8, out') by rw [unhide Hbel, unhide Heq]; simp only [fetItems, if_neg hbud, bs_data, if_neg h3, hB]; rw [if_neg (by simp), if_pos (.inr ⟨h0, h60⟩)])
           have b0 : (xk == 0) = false := by simpa using h0
           have c60 : (60 : Int) < (bb.length : Int) := by omega
           subst hsx
           clear hbud H5 Heq hown5 hB
           go_wp2_with fail
           go_ret
           exact ⟨ret_int (by rw [unhide Hr]), (Fr.below (unhide Hb1)).trans (unhide Hf5), fun h => by rw [unhide Hr] at h; simp at h⟩
          ·have b0 : (xk == 0) = false := by simpa using h0
           have c60 : decide ((60 : Int) < (bb.length : Int)) = false := decide_eq_false (by omega)
           have heq2 : fetItems (atP st) ents dep (belowF (atP st) ents dep f ((k : Int) + 1 + 1)) d ((k : Int) + 1) items out = fetItems (atP st) ents dep (belowF (atP st) ents dep f ((k : Int) + 1 + 1)) d ((k : Int) + 1) (items.drop (j + 1)) (out' ++ [⟨bs (pre d ++ nm), xk, bs bb⟩]) := by
            rw [unhide Heq]; simp only [fetItems, if_neg hbud, bs_data, if_neg h3, hB]
            rw [if_neg (by simp), if_neg (by rintro (h | h); exact h hsx; exact h60 h.2), if_pos h0]
           have Heq2 := hide heq2
           subst hsx
           obtain ⟨hF5, ho5, hf5, hloc, hE5⟩ := unhide H5
           have hS6 : Fr (fun x => x = wr.heap.size + 1) W5 (W5.setCell ⟨wr.heap.size + 1, 2, none⟩ (.string (bs bb))) := Fr.set _ _ _ _ rfl
           have hE6 := heap_setCell_same W5 (wr.heap.size + 1) 2 _ _ (.string (bs bb)) hE5
           have hF6 := hF5.fr hS6 (by omega) (fun g hg => by have := hog g hg; omega) (fun x hx => by have := hdw x hx; omega)
           have ho6 : OwnsIt (W5.setCell ⟨wr.heap.size + 1, 2, none⟩ (.string (bs bb))) w.heap.size (.slice (some ⟨g, o, none⟩) items.length ci) items := own_fr ho5 hS6 (fun g' hg' e => own_cells ho5 hg' hE5 (by decide) e)
           have hf6 := fr_comp hf5 hS6 (fun x hx => .inr (by omega))
           obtain ⟨W6, hW6⟩ : ∃ W6, W5.setCell ⟨wr.heap.size + 1, 2, none⟩ (.string (bs bb)) = W6 := ⟨_, rfl⟩
           have hl6b : wr.heap.size + 1 < W6.heap.size := by
            have hz6 : W6.heap.size = W5.heap.size := by rw [← hW6]; simp
            omega
           rw [hW6] at hE6 hF6 ho6 hf6
           have HW6 := hide hW6
           clear hW6 hF5 ho5 hf5 hE5 hS6 heq2 hbud Heq hB hown5
           go_upto_region 23 with fail
           rw [unhide HW6]
           clear e0 e1 e2 ef2 k3 kf n1 n3
           have e0 := cell_of_block (j := 0) hE6
           have e1 := cell_of_block (j := 1) hE6
           have e2 := cell_of_block (j := 2) hE6
           have k3 := cell_of_block (j := 3) hF6.f
           have kf := free_block (j := 3) hF6.f
           simp at e0 e1 e2 k3
           have hl6 : fb < W6.heap.size := hF6.lt
           have hown6 := hF6.own
           have hbas6 := hF6.bas
           have H6' := hide (And.intro hF6 (And.intro ho6 (And.intro hf6 hloc)))
           clear hF6 ho6 hf6 hloc hE6 H5
           obtain ⟨i0, hi0, hz0, hz1, hz2⟩ := info_parts info_ent
           have hownA : ((W6.alloc (.cells (enCells ⟨bs (pre d ++ nm), xk, bs bb⟩).toArray 32)).drew).ownsRow base 32 3 (.slice a0 out'.length c0) out'.length (rowCells enCells out') := World.ownsRow.drew (World.ownsRow.alloc hown6 _)
           have hnew : ∀ q y, (enCells ⟨bs (pre d ++ nm), xk, bs bb⟩)[q]? = some y → ((W6.alloc (.cells (enCells ⟨bs (pre d ++ nm), xk, bs bb⟩).toArray 32)).drew).cell? ((⟨W6.heap.size, 0, none⟩ : Addr).add q) = some y := by
            intro q y hq
            rw [add_off0]
            exact (cell_of_block (heap_alloc_new W6 _)).trans (by simpa using hq)
           have hb0 : base ≤ ((W6.alloc (.cells (enCells ⟨bs (pre d ++ nm), xk, bs bb⟩).toArray 32)).drew).heap.size := by simp; omega
           have hone : ∀ (y : En), ∀ u ∈ enCells y, u.oneCell' = true := fun y u hu => enCells_one [y] u (by simpa [rowCells] using hu)
           simp only [enCells] at hownA hnew hb0
           go_region_law ((refine step_app (enc := enCells) (bytes := 40) rfl (.tmp 130) (.tmp 132) 22 rfl i0 _ Tryz.underlying22 hi0 hz0 hz1 hz2 rfl (by decide) enCells_len hone base (.slice a0 out'.length c0) out' rfl hownA ⟨W6.heap.size, 0, none⟩ ⟨bs (pre d ++ nm), xk, bs bb⟩ rfl hnew (by unfold maxLen; omega) (by omega) hb0 ?_; intro v6 w6 ho6 hg6 hl6; obtain ⟨a6, c6, hv6⟩ := row_shape ho6; subst hv6; have hP := FB.push (unhide H6').1 hlt40 hg6 (by unfold OwnsE; rw [List.length_append]; exact ho6); have s3 := cell_of_block (j := 3) hP.1; have sf := free_block (j := 3) hP.1; have sl := (Array.getElem?_eq_some_iff.1 hP.1).1; simp only [List.getElem?_toArray, List.getElem?_cons_zero, List.getElem?_cons_succ] at s3; have HP := hide (And.intro hP.2 hl6); clear hP ho6 hg6 hl6))
           all_goals
            obtain ⟨⟨hF7, hf7⟩, hl7⟩ := unhide HP
            obtain ⟨hF6, ho6, hf6, hloc⟩ := unhide H6'
            obtain ⟨g1, g2, g3⟩ := FB.next hF6 ho6 hf6 hloc hf7 (hl7.imp id (fun e => ⟨_, e, by simp⟩))
            have H6 := hide (And.intro hF7 (And.intro g1 (And.intro g2 g3)))
            clear hF7 hf7 hl7 hF6 ho6 hf6 hloc g1 g2 g3 HP H6' s3 sf sl k3 kf e0 e1 e2 hown6 hownA hnew hb0
            go_wp2_with fail
            obtain ⟨hF7, g1, g2, g3⟩ := unhide H6
            exact ⟨⟨j + 1, _, _, by omega, by go_num, hF7, g1, unhide Heq2, g2, g3⟩, by simp [intOf]; omega⟩
        ·have Hr := hide (show belowF (atP st) ents dep (f + 1) ((k : Int) + 1) b d out = (8, out') by rw [unhide Hbel, unhide Heq]; simp only [fetItems, if_neg hbud, bs_data, if_neg h3, hB]; rw [if_neg (by simp), if_pos (.inl hsx)])
         have bx : ((bb.length : Int) == xs) = false := by simpa using hsx
         have bx2 : ((bb.length : Int) != xs) = true := by simpa using hsx
         clear hbud H5 Heq hown5 hB
         go_wp2_with fail
         go_ret
         exact ⟨ret_int (by rw [unhide Hr]), (Fr.below (unhide Hb1)).trans (unhide Hf5), fun h => by rw [unhide Hr] at h; simp at h⟩
       ·have Hr := hide (show belowF (atP st) ents dep (f + 1) ((k : Int) + 1) b d out = (be, out') by rw [unhide Hbel, unhide Heq]; simp only [fetItems, if_neg hbud, bs_data, if_neg h3, hB]; rw [if_pos hbe])
        have bb0 : (be == 0) = false := by simpa using hbe
        have Hf5 := hide hf5
        clear hbud Heq hF5 hE5 hA5 ho5 hloc hf5 hbo hB
        go_wp2_with fail
        go_ret
        exact ⟨ret_int (by rw [unhide Hr]), (Fr.below (unhide Hb1)).trans (unhide Hf5), fun h => by rw [unhide Hr] at h; exact absurd h hbe⟩
   ·obtain rfl : j = items.length := by omega
    have Hr := hide (show belowF (atP st) ents dep (f + 1) ((k : Int) + 1) b d out = (0, out') by rw [unhide Hbel, heq, List.drop_length]; rfl)
    have Hall := hide (And.intro hFr (And.intro hfr hloc))
    clear heq hFr hor hfr hloc
    go_wp2_with fail
    go_ret
    obtain ⟨hFr, hfr, hloc⟩ := unhide Hall
    have hb1 := unhide Hb1
    exact ⟨ret_int (by rw [unhide Hr]), (Fr.below hb1).trans hfr, fun _ => ⟨v', by rw [unhide Hr]; exact hFr, hloc.imp id (fun ⟨g, h1, h2⟩ => ⟨g, h1, Nat.le_trans hb1.size h2⟩)⟩⟩
theorem below_all (fb base : Nat) (ents dep : Int) (rb : Nat) (D1 D2 : Value) (dbase : Nat) (room : Int) (st : List (List UInt8 × List UInt8)) (hst : st.length ≤ maxLen) (hsz : ∀ d b, atP st d = some b → b.length ≤ 1100000) : ∀ (f k : Nat), k + f = 5 → BelAt fb base ents dep rb D1 D2 dbase room st f k
 | 0, k, h => below_core fb base ents dep rb D1 D2 dbase room st hst hsz 0 k h (fun f' e => by omega)
 | f + 1, k, h => below_core fb base ents dep rb D1 D2 dbase room st hst hsz (f + 1) k h (fun f' e => by
  obtain rfl : f = f' := by omega
  exact below_all fb base ents dep rb D1 D2 dbase room st hst hsz f (k + 1) (by omega))
end Go.Proofs.YtjmacegibchplaaGreatDoor