import Derived.Test.YtjmacegibchplaaGreatDoorLawY
import Derived.Test.YtjmacegibchplaaGreatDoorLawS
import Derived.Deep.QuietTactic
import Derived.BigQuiet
namespace Go.Proofs.YtjmacegibchplaaGreatDoor
open Go.RowKit Go.Maps Go.WideMaps
set_option linter.unusedVariables false
theorem own_at {w : World} {base : Nat} {e : TypeId} {v : Value} {l : List Value} (h : w.ownsRow base e 1 v l.length l) (k : Nat) (hk : k < l.length) : ∃ g c, v = .slice (some ⟨g, 0, none⟩) l.length c ∧ w.cell? ⟨g, k, none⟩ = some l[k] := by
 rcases h.2 with ⟨rfl, hx⟩ | ⟨g, cap, cur, rfl, hb, hgg, q1, q2, q3, q4⟩
 ·omega
 ·refine ⟨g, cap, rfl, ?_⟩
  rw [cell_of_block hgg]
  have h1 : (List.take (l.length * 1) cur.toList)[k]? = l[k]? := by rw [q4]
  rw [List.getElem?_take_of_lt (by omega), List.getElem?_eq_getElem hk] at h1
  simpa using h1
theorem getD_at (l : List Value) (i : Nat) (h : i < l.length) : l.getD i (.slice none 0 0) = l[i] := by
 rw [List.getD_eq_getElem?_getD, List.getElem?_eq_getElem h]; rfl
theorem look_rows {w : World} {base : Nat} {e : TypeId} {v v3 : Value} {l l3 : List Value} (h : w.ownsRow base e 1 v l.length l) (h3 : w.ownsRow base e 1 v3 l3.length l3) (hl : l3.length = 3 * l.length) (k : Nat) (hk : k < l.length) :
  ∃ g c g3 c3, v = .slice (some ⟨g, 0, none⟩) l.length c ∧ v3 = .slice (some ⟨g3, 0, none⟩) l3.length c3 ∧ w.cell? ⟨g, k, none⟩ = some l[k] ∧ w.cell? ⟨g3, 3 * k, none⟩ = some (l3.getD (3 * k) (.slice none 0 0)) ∧ w.cell? ⟨g3, 3 * k + 1, none⟩ = some (l3.getD (3 * k + 1) (.slice none 0 0)) ∧ w.cell? ⟨g3, 3 * k + 2, none⟩ = some (l3.getD (3 * k + 2) (.slice none 0 0)) := by
 obtain ⟨g, c, e1, d⟩ := own_at h k hk
 obtain ⟨g3, c3, e3, d0⟩ := own_at h3 (3 * k) (by omega)
 obtain ⟨g3', c3', e3', d1⟩ := own_at h3 (3 * k + 1) (by omega)
 obtain ⟨g3'', c3'', e3'', d2⟩ := own_at h3 (3 * k + 2) (by omega)
 obtain ⟨rfl, rfl⟩ : g3 = g3' ∧ c3 = c3' := by rw [e3] at e3'; simpa using e3'
 obtain ⟨rfl, rfl⟩ : g3 = g3'' ∧ c3 = c3'' := by rw [e3] at e3''; simpa using e3''
 exact ⟨g, c, g3, c3, e1, e3, d, by rw [getD_at _ _ (by omega)]; exact d0, by rw [getD_at _ _ (by omega)]; exact d1, by rw [getD_at _ _ (by omega)]; exact d2⟩
structure Kt (w : World) (wb base : Nat) (came : Int) (kT wT kI wI kE wE ps tx tx3 it it3 en en3 : Value) (lT lT3 lI lI3 lE lE3 : List Value) (T : List (List UInt8)) (I : List P.It) (E : List En) (Mk : Nat → Prop) : Prop where
 ms : MS w wb base came kT wT kI wI kE wE ps tx tx3 it it3 en en3 lT lT3
 mi : MI w wb base came kT wT kI wI kE wE ps tx tx3 it it3 en en3 lI lI3
 me : ME w wb base came kT wT kI wI kE wE ps tx tx3 it it3 en en3 lE lE3
 kt : OwnsS w base kT T
 wt : OwnsS w base wT T
 ki : OwnsIt w base kI I
 wi : OwnsIt w base wI I
 ke : OwnsE w base kE E
 we : OwnsE w base wE E
 nt : ∀ g, kT.ownBlock = some g → wT.ownBlock ≠ some g
 ni : ∀ g, kI.ownBlock = some g → wI.ownBlock ≠ some g
 ne : ∀ g, kE.ownBlock = some g → wE.ownBlock ≠ some g
 lt : T.length ≤ 1200000
 li : I.length ≤ 1200000
 le : E.length ≤ 1200000
 tm : TM w lT lT3 Mk
 tmi : TMI w lI lI3 Mk
 tme : TME w lE lE3 Mk
 mt : ∀ x, Mk x → ¬ MSet wb tx tx3 x ∧ kT.ownBlock ≠ some x ∧ wT.ownBlock ≠ some x ∧ x < w.heap.size
 mi' : ∀ x, Mk x → ¬ MISet wb it it3 x ∧ kI.ownBlock ≠ some x ∧ wI.ownBlock ≠ some x
 me' : ∀ x, Mk x → ¬ MESet wb en en3 x ∧ kE.ownBlock ≠ some x ∧ wE.ownBlock ≠ some x
theorem Kt.below {w w' : World} {wb base : Nat} {came : Int} {kT wT kI wI kE wE ps tx tx3 it it3 en en3 : Value} {lT lT3 lI lI3 lE lE3 : List Value} {T : List (List UInt8)} {I : List P.It} {E : List En} {Mk : Nat → Prop}
  (h : Kt w wb base came kT wT kI wI kE wE ps tx tx3 it it3 en en3 lT lT3 lI lI3 lE lE3 T I E Mk) (hb : Below w.heap.size w w') : Kt w' wb base came kT wT kI wI kE wE ps tx tx3 it it3 en en3 lT lT3 lI lI3 lE lE3 T I E Mk :=
 ⟨h.ms.below hb (Nat.le_refl _), h.mi.below hb (Nat.le_refl _), h.me.below hb (Nat.le_refl _), OwnsS.below h.kt hb, OwnsS.below h.wt hb, OwnsIt.below h.ki hb, OwnsIt.below h.wi hb, OwnsE.below h.ke hb, OwnsE.below h.we hb, h.nt, h.ni, h.ne, h.lt, h.li, h.le, h.tm.below hb, h.tmi.below hb, h.tme.below hb, fun x hx => ⟨(h.mt x hx).1, (h.mt x hx).2.1, (h.mt x hx).2.2.1, Nat.lt_of_lt_of_le (h.mt x hx).2.2.2 hb.size⟩, h.mi', h.me'⟩
set_option maxRecDepth 100000 in
set_option maxHeartbeats 4000000 in
theorem looks_any {w : World} {wb base : Nat} {came : Int} {kT wT kI wI kE wE ps tx tx3 it it3 en en3 : Value} {lT lT3 lI lI3 lE lE3 : List Value} {T : List (List UInt8)} {I : List P.It} {E : List En} {Mk : Nat → Prop}
  (h : Kt w wb base came kT wT kI wI kE wE ps tx tx3 it it3 en en3 lT lT3 lI lI3 lE lE3 T I E Mk) (h1 : lT.length ≤ 5000000) (h2 : lI.length ≤ 5000000) (h3 : lE.length ≤ 5000000) :
  Calls Tryz.prog 50 #[.pointer (some ⟨wb, 0, none⟩)] w fun e w' => e = .returned (.bool true) ∧ Below w.heap.size w w' := by
 obtain ⟨akT, ckT, ekT⟩ := row_shape h.kt
 obtain ⟨awT, cwT, ewT⟩ := row_shape h.wt
 obtain ⟨akI, ckI, ekI⟩ := row_shape h.ki
 obtain ⟨awI, cwI, ewI⟩ := row_shape h.wi
 obtain ⟨akE, ckE, ekE⟩ := row_shape h.ke
 obtain ⟨awE, cwE, ewE⟩ := row_shape h.we
 subst ekT ewT ekI ewI ekE ewE
 have Hk := hide h
 have S1 := hide (fun W (hW : Below w.heap.size w W) => by
  obtain ⟨x1, y1, e1, t1, -⟩ := OwnsS.texts ((unhide Hk).below hW).kt
  obtain ⟨x2, y2, e2, t2, -⟩ := OwnsS.texts ((unhide Hk).below hW).wt
  obtain ⟨rfl, rfl⟩ : akT = x1 ∧ ckT = y1 := by simpa using e1
  obtain ⟨rfl, rfl⟩ : awT = x2 ∧ cwT = y2 := by simpa using e2
  exact sameTexts_same T akT awT ckT cwT W (by have := (unhide Hk).lt; unfold maxLen; omega) t1 t2)
 have S2 := hide (fun W (hW : Below w.heap.size w W) => by
  obtain ⟨x1, y1, e1, t1, -⟩ := OwnsIt.lies ((unhide Hk).below hW).ki
  obtain ⟨x2, y2, e2, t2, -⟩ := OwnsIt.lies ((unhide Hk).below hW).wi
  obtain ⟨rfl, rfl⟩ : akI = x1 ∧ ckI = y1 := by simpa using e1
  obtain ⟨rfl, rfl⟩ : awI = x2 ∧ cwI = y2 := by simpa using e2
  exact sameItems_same I akI awI ckI cwI W (by have := (unhide Hk).li; unfold maxLen; omega) t1 t2)
 have S3 := hide (fun W (hW : Below w.heap.size w W) => by
  obtain ⟨x1, y1, e1, t1, -⟩ := OwnsE.lies ((unhide Hk).below hW).ke
  obtain ⟨x2, y2, e2, t2, -⟩ := OwnsE.lies ((unhide Hk).below hW).we
  obtain ⟨rfl, rfl⟩ : akE = x1 ∧ ckE = y1 := by simpa using e1
  obtain ⟨rfl, rfl⟩ : awE = x2 ∧ cwE = y2 := by simpa using e2
  exact sameEntries_same E akE awE ckE cwE W (by have := (unhide Hk).le; unfold maxLen; omega) t1 t2)
 have m2 := cell_of_block (j := 2) h.ms.wa
 have m3 := cell_of_block (j := 3) h.ms.wa
 simp at m2 m3
 have hlt := h.ms.lt
 clear h
 go_enter Tryz.func50, Tryz.ntmps50
 go_wp2_with fail
 go_quiet ((go_at_call 41; exact Calls.quiet_of (unhide S1 _ (below_drewN (Below.refl _ _) _))))
 obtain ⟨w1, hw1⟩ : ∃ w1, w.drewN nq = w1 := ⟨_, rfl⟩
 rw [hw1]
 have hb1 : Below w.heap.size w w1 := by rw [← hw1]; exact below_drewN (Below.refl _ _) _
 clear hw1 m2 m3
 have k1 := (unhide Hk).below hb1
 have m4 := cell_of_block (j := 4) k1.ms.wa
 have m5 := cell_of_block (j := 5) k1.ms.wa
 simp at m4 m5
 have hlt1 := k1.ms.lt
 clear k1
 go_wp2_with fail
 go_quiet ((go_at_call 79; exact Calls.quiet_of (unhide S2 _ (below_drewN hb1 _))))
 obtain ⟨w2, hw2⟩ : ∃ w2, w1.drewN nq = w2 := ⟨_, rfl⟩
 rw [hw2]
 have hb2 : Below w.heap.size w w2 := by rw [← hw2]; exact below_drewN hb1 _
 clear hw2 m4 m5
 have k2 := (unhide Hk).below hb2
 have m6 := cell_of_block (j := 6) k2.ms.wa
 have m7 := cell_of_block (j := 7) k2.ms.wa
 simp at m6 m7
 have hlt2 := k2.ms.lt
 clear k2
 go_wp2_with fail
 go_quiet ((go_at_call 44; exact Calls.quiet_of (unhide S3 _ (below_drewN hb2 _))))
 obtain ⟨w3, hw3⟩ : ∃ w3, w2.drewN nq = w3 := ⟨_, rfl⟩
 rw [hw3]
 have hb3 : Below w.heap.size w w3 := by rw [← hw3]; exact below_drewN hb2 _
 clear hw3 m6 m7
 have k3 := (unhide Hk).below hb3
 have p1 := cell_of_block (j := 1) k3.ms.wa
 simp at p1
 have hlt3 := k3.ms.lt
 clear k3
 obtain ⟨at1, ct1, et1⟩ := row_shape (unhide Hk).ms.t
 obtain ⟨at3, ct3, et3⟩ := row_shape (unhide Hk).ms.t3
 obtain ⟨ai1, ci1, ei1⟩ := row_shape (unhide Hk).mi.t
 obtain ⟨ai3, ci3, ei3⟩ := row_shape (unhide Hk).mi.t3
 obtain ⟨ae1, ce1, ee1⟩ := row_shape (unhide Hk).me.t
 obtain ⟨ae3, ce3, ee3⟩ := row_shape (unhide Hk).me.t3
 subst et1 et3 ei1 ei3 ee1 ee3
 go_wp2_with fail
 go_loopw [6] (fun i wr => ∃ k : Nat, k ≤ lT.length ∧ i = .int .i64 k ∧ Below w.heap.size w wr) (fun i _ => lT.length - (intOf i).toNat)
 case atStart => exact ⟨0, by omega, rfl, hb3⟩
 case round =>
  obtain ⟨k, hk, rfl, hbr⟩ := hrel
  have kr := (unhide Hk).below hbr
  have c9 := cell_of_block (j := 9) kr.ms.wa
  simp at c9
  have hltr := kr.ms.lt
  by_cases hq : k < lT.length
  ·have q1 : (k : Int) < (lT.length : Int) := by omega
   have Hs := hide (strokes_any k wr (by omega))
   clear kr
   go_wp2_with fail
   refine (unhide Hs).mono ?_
   rintro e W1 ⟨rfl, hbs⟩
   have hbw := hbr.trans (hbs.mono hbr.size)
   have kw := (unhide Hk).below hbw
   have hl3 := kw.tm.len
   obtain ⟨n, hn, ⟨a0, c0, e0, t0⟩, ⟨a1, c1, e1, t1⟩, ⟨a2, c2, e2, t2⟩, ⟨a3, c3, e3, t3⟩⟩ := kw.tm.full k hq
   obtain ⟨g, cg, g3, cg3, f1, f2, d, d0, d1, d2⟩ := look_rows kw.ms.t kw.ms.t3 kw.tm.len k hq
   rw [e0] at d
   rw [e1] at d0
   rw [e2] at d1
   rw [e3] at d2
   obtain ⟨rfl, rfl⟩ : at1 = some ⟨g, 0, none⟩ ∧ ct1 = cg := by simpa using f1
   obtain ⟨rfl, rfl⟩ : at3 = some ⟨g3, 0, none⟩ ∧ ct3 = cg3 := by simpa using f2
   have d9 := cell_of_block (j := 9) kw.ms.wa
   have d10 := cell_of_block (j := 10) kw.ms.wa
   simp at d9 d10
   have hltw := kw.ms.lt
   have hgl := block_lt d
   have hg3l := block_lt d0
   obtain ⟨k0, hk0⟩ : ∃ k0, k0 = 3 * k := ⟨_, rfl⟩
   obtain ⟨k1, hk1⟩ : ∃ k1, k1 = 3 * k + 1 := ⟨_, rfl⟩
   obtain ⟨k2, hk2⟩ : ∃ k2, k2 = 3 * k + 2 := ⟨_, rfl⟩
   rw [← hk0] at d0
   rw [← hk1] at d1
   rw [← hk2] at d2
   have w0 : IntKind.i64.wrap (3 * (k : Int)) = (k0 : Int) := by rw [IntKind.wrap_i64]; omega
   have w1' : IntKind.i64.wrap ((k0 : Int) + 1) = (k1 : Int) := by rw [IntKind.wrap_i64]; omega
   have w2' : IntKind.i64.wrap ((k0 : Int) + 2) = (k2 : Int) := by rw [IntKind.wrap_i64]; omega
   have b0 : (k0 : Int) < (lT3.length : Int) := by omega
   have b1 : (k1 : Int) < (lT3.length : Int) := by omega
   have b2 : (k2 : Int) < (lT3.length : Int) := by omega
   have F0 := hide (fullTexts_any n (strP k) a0 c0 W1 (by unfold maxLen; omega) t0)
   have F1 := hide (fullTexts_any (n + 1) (strP k) a1 c1 W1 (by unfold maxLen; omega) t1)
   have F2 := hide (fullTexts_any (n + 2) (strP k) a2 c2 W1 (by unfold maxLen; omega) t2)
   have F3 := hide (fullTexts_any (n + 3) (strP k) a3 c3 W1 (by unfold maxLen; omega) t3)
   have Hnum := hide (And.intro hk0 (And.intro hk1 hk2))
   clear kw e0 e1 e2 e3 t0 t1 t2 t3 f1 f2 hk0 hk1 hk2 hl3 Hs c9
   go_wp2_with fail
   refine (unhide F0).mono ?_
   rintro e w' ⟨rfl, hw'⟩
   rw [hw']
   clear hw' w'
   go_wp2_with fail
   refine (unhide F1).mono ?_
   rintro e w' ⟨rfl, hw'⟩
   rw [hw']
   clear hw' w'
   go_wp2_with fail
   refine (unhide F2).mono ?_
   rintro e w' ⟨rfl, hw'⟩
   rw [hw']
   clear hw' w'
   go_wp2_with fail
   refine (unhide F3).mono ?_
   rintro e w' ⟨rfl, hw'⟩
   rw [hw']
   clear hw' w'
   go_wp2_with fail
   exact ⟨⟨k + 1, by omega, by go_num, hbw⟩, by simp [intOf]; omega⟩
  ·obtain rfl : k = lT.length := by omega
   clear kr
   have hbr0 := hbr
   clear hbr
   go_wp2_with fail
   go_loopw [12] (fun i wr => ∃ k : Nat, k ≤ lI.length ∧ i = .int .i64 k ∧ Below w.heap.size w wr) (fun i _ => lI.length - (intOf i).toNat)
   case atStart => exact ⟨0, by omega, rfl, hbr0⟩
   case round =>
    obtain ⟨k, hk, rfl, hbr⟩ := hrel
    have kr := (unhide Hk).below hbr
    have c9 := cell_of_block (j := 11) kr.mi.wa
    simp at c9
    have hltr := kr.mi.lt
    by_cases hq : k < lI.length
    ·have q1 : (k : Int) < (lI.length : Int) := by omega
     have hbw := hbr
     clear kr
     have kw := (unhide Hk).below hbw
     have hl3 := kw.tmi.len
     obtain ⟨n, hn, u0, u1, u2, u3⟩ := kw.tmi.full k hq
     obtain ⟨a0, c0, e0, t0⟩ := u0.lies
     obtain ⟨a1, c1, e1, t1⟩ := u1.lies
     obtain ⟨a2, c2, e2, t2⟩ := u2.lies
     obtain ⟨a3, c3, e3, t3⟩ := u3.lies
     obtain ⟨g, cg, g3, cg3, f1, f2, d, d0, d1, d2⟩ := look_rows kw.mi.t kw.mi.t3 kw.tmi.len k hq
     rw [e0] at d
     rw [e1] at d0
     rw [e2] at d1
     rw [e3] at d2
     obtain ⟨rfl, rfl⟩ : ai1 = some ⟨g, 0, none⟩ ∧ ci1 = cg := by simpa using f1
     obtain ⟨rfl, rfl⟩ : ai3 = some ⟨g3, 0, none⟩ ∧ ci3 = cg3 := by simpa using f2
     have d9 := cell_of_block (j := 11) kw.mi.wa
     have d10 := cell_of_block (j := 12) kw.mi.wa
     simp at d9 d10
     have hltw := kw.mi.lt
     have hgl := block_lt d
     have hg3l := block_lt d0
     obtain ⟨k0, hk0⟩ : ∃ k0, k0 = 3 * k := ⟨_, rfl⟩
     obtain ⟨k1, hk1⟩ : ∃ k1, k1 = 3 * k + 1 := ⟨_, rfl⟩
     obtain ⟨k2, hk2⟩ : ∃ k2, k2 = 3 * k + 2 := ⟨_, rfl⟩
     rw [← hk0] at d0
     rw [← hk1] at d1
     rw [← hk2] at d2
     have wm : IntKind.i64.wrap (-1 - (k : Int)) = -1 - (k : Int) := by rw [IntKind.wrap_i64]; omega
     have w0 : IntKind.i64.wrap (3 * (k : Int)) = (k0 : Int) := by rw [IntKind.wrap_i64]; omega
     have w1' : IntKind.i64.wrap ((k0 : Int) + 1) = (k1 : Int) := by rw [IntKind.wrap_i64]; omega
     have w2' : IntKind.i64.wrap ((k0 : Int) + 2) = (k2 : Int) := by rw [IntKind.wrap_i64]; omega
     have b0 : (k0 : Int) < (lI3.length : Int) := by omega
     have b1 : (k1 : Int) < (lI3.length : Int) := by omega
     have b2 : (k2 : Int) < (lI3.length : Int) := by omega
     have F0 := hide (fullItems_any n (-1 - (k : Int)) a0 c0 wr (by unfold maxLen; omega) t0)
     have F1 := hide (fullItems_any (n + 1) (-1 - (k : Int)) a1 c1 wr (by unfold maxLen; omega) t1)
     have F2 := hide (fullItems_any (n + 2) (-1 - (k : Int)) a2 c2 wr (by unfold maxLen; omega) t2)
     have F3 := hide (fullItems_any (n + 3) (-1 - (k : Int)) a3 c3 wr (by unfold maxLen; omega) t3)
     have Hnum := hide (And.intro hk0 (And.intro hk1 hk2))
     clear kw e0 e1 e2 e3 t0 t1 t2 t3 f1 f2 hk0 hk1 hk2 hl3 c9
     go_wp2_with fail
     refine (unhide F0).mono ?_
     rintro e w' ⟨rfl, hw'⟩
     rw [hw']
     clear hw' w'
     go_wp2_with fail
     refine (unhide F1).mono ?_
     rintro e w' ⟨rfl, hw'⟩
     rw [hw']
     clear hw' w'
     go_wp2_with fail
     refine (unhide F2).mono ?_
     rintro e w' ⟨rfl, hw'⟩
     rw [hw']
     clear hw' w'
     go_wp2_with fail
     refine (unhide F3).mono ?_
     rintro e w' ⟨rfl, hw'⟩
     rw [hw']
     clear hw' w'
     go_wp2_with fail
     exact ⟨⟨k + 1, by omega, by go_num, hbw⟩, by simp [intOf]; omega⟩
    ·obtain rfl : k = lI.length := by omega
     clear kr
     have hbr1 := hbr
     clear hbr
     go_wp2_with fail
     go_loopw [18] (fun i wr => ∃ k : Nat, k ≤ lE.length ∧ i = .int .i64 k ∧ Below w.heap.size w wr) (fun i _ => lE.length - (intOf i).toNat)
     case atStart => exact ⟨0, by omega, rfl, hbr1⟩
     case round =>
      obtain ⟨k, hk, rfl, hbr⟩ := hrel
      have kr := (unhide Hk).below hbr
      have c9 := cell_of_block (j := 13) kr.me.wa
      simp at c9
      have hltr := kr.me.lt
      by_cases hq : k < lE.length
      ·have q1 : (k : Int) < (lE.length : Int) := by omega
       have hbw := hbr
       clear kr
       have kw := (unhide Hk).below hbw
       have hl3 := kw.tme.len
       obtain ⟨n, hn, u0, u1, u2, u3⟩ := kw.tme.full k hq
       obtain ⟨a0, c0, e0, t0⟩ := u0.lies
       obtain ⟨a1, c1, e1, t1⟩ := u1.lies
       obtain ⟨a2, c2, e2, t2⟩ := u2.lies
       obtain ⟨a3, c3, e3, t3⟩ := u3.lies
       obtain ⟨g, cg, g3, cg3, f1, f2, d, d0, d1, d2⟩ := look_rows kw.me.t kw.me.t3 kw.tme.len k hq
       rw [e0] at d
       rw [e1] at d0
       rw [e2] at d1
       rw [e3] at d2
       obtain ⟨rfl, rfl⟩ : ae1 = some ⟨g, 0, none⟩ ∧ ce1 = cg := by simpa using f1
       obtain ⟨rfl, rfl⟩ : ae3 = some ⟨g3, 0, none⟩ ∧ ce3 = cg3 := by simpa using f2
       have d9 := cell_of_block (j := 13) kw.me.wa
       have d10 := cell_of_block (j := 14) kw.me.wa
       simp at d9 d10
       have hltw := kw.me.lt
       have hgl := block_lt d
       have hg3l := block_lt d0
       obtain ⟨k0, hk0⟩ : ∃ k0, k0 = 3 * k := ⟨_, rfl⟩
       obtain ⟨k1, hk1⟩ : ∃ k1, k1 = 3 * k + 1 := ⟨_, rfl⟩
       obtain ⟨k2, hk2⟩ : ∃ k2, k2 = 3 * k + 2 := ⟨_, rfl⟩
       rw [← hk0] at d0
       rw [← hk1] at d1
       rw [← hk2] at d2
       have wm : IntKind.i64.wrap (-1 - (k : Int)) = -1 - (k : Int) := by rw [IntKind.wrap_i64]; omega
       have w0 : IntKind.i64.wrap (3 * (k : Int)) = (k0 : Int) := by rw [IntKind.wrap_i64]; omega
       have w1' : IntKind.i64.wrap ((k0 : Int) + 1) = (k1 : Int) := by rw [IntKind.wrap_i64]; omega
       have w2' : IntKind.i64.wrap ((k0 : Int) + 2) = (k2 : Int) := by rw [IntKind.wrap_i64]; omega
       have b0 : (k0 : Int) < (lE3.length : Int) := by omega
       have b1 : (k1 : Int) < (lE3.length : Int) := by omega
       have b2 : (k2 : Int) < (lE3.length : Int) := by omega
       have F0 := hide (fullEntries_any n (-1 - (k : Int)) a0 c0 wr (by unfold maxLen; omega) t0)
       have F1 := hide (fullEntries_any (n + 1) (-1 - (k : Int)) a1 c1 wr (by unfold maxLen; omega) t1)
       have F2 := hide (fullEntries_any (n + 2) (-1 - (k : Int)) a2 c2 wr (by unfold maxLen; omega) t2)
       have F3 := hide (fullEntries_any (n + 3) (-1 - (k : Int)) a3 c3 wr (by unfold maxLen; omega) t3)
       have Hnum := hide (And.intro hk0 (And.intro hk1 hk2))
       clear kw e0 e1 e2 e3 t0 t1 t2 t3 f1 f2 hk0 hk1 hk2 hl3 c9
       go_wp2_with fail
       refine (unhide F0).mono ?_
       rintro e w' ⟨rfl, hw'⟩
       rw [hw']
       clear hw' w'
       go_wp2_with fail
       refine (unhide F1).mono ?_
       rintro e w' ⟨rfl, hw'⟩
       rw [hw']
       clear hw' w'
       go_wp2_with fail
       refine (unhide F2).mono ?_
       rintro e w' ⟨rfl, hw'⟩
       rw [hw']
       clear hw' w'
       go_wp2_with fail
       refine (unhide F3).mono ?_
       rintro e w' ⟨rfl, hw'⟩
       rw [hw']
       clear hw' w'
       go_wp2_with fail
       exact ⟨⟨k + 1, by omega, by go_num, hbw⟩, by simp [intOf]; omega⟩
      ·obtain rfl : k = lE.length := by omega
       clear kr
       go_wp2_with fail
       go_ret
       exact ⟨rfl, hbr⟩
def KS (wb : Nat) (kT wT kI wI kE wE tx tx3 it it3 en en3 : Value) (Mk : Nat → Prop) (x : Nat) : Prop :=
 MSet wb tx tx3 x ∨ MISet wb it it3 x ∨ MESet wb en en3 x ∨ kT.ownBlock = some x ∨ wT.ownBlock = some x ∨ kI.ownBlock = some x ∨ wI.ownBlock = some x ∨ kE.ownBlock = some x ∨ wE.ownBlock = some x ∨ Mk x
theorem TM.mono {w : World} {l l3 : List Value} {A B : Nat → Prop} (h : TM w l l3 A) (hm : ∀ x, A x → B x) : TM w l l3 B := ⟨h.len, h.full, fun u hu x hx => hm x (h.blk u hu x hx)⟩
theorem TMI.mono {w : World} {l l3 : List Value} {A B : Nat → Prop} (h : TMI w l l3 A) (hm : ∀ x, A x → B x) : TMI w l l3 B := ⟨h.len, h.full, fun u hu x hx => hm x (h.blk u hu x hx)⟩
theorem TME.mono {w : World} {l l3 : List Value} {A B : Nat → Prop} (h : TME w l l3 A) (hm : ∀ x, A x → B x) : TME w l l3 B := ⟨h.len, h.full, fun u hu x hx => hm x (h.blk u hu x hx)⟩
section
variable {w w' : World} {wb base : Nat} {came : Int} {kT wT kI wI kE wE ps tx tx3 it it3 en en3 : Value} {lT lT3 lI lI3 lE lE3 : List Value} {T : List (List UInt8)} {I : List P.It} {E : List En} {Mk : Nat → Prop}
theorem Kt.setLt (h : Kt w wb base came kT wT kI wI kE wE ps tx tx3 it it3 en en3 lT lT3 lI lI3 lE lE3 T I E Mk) (x : Nat) (hx : KS wb kT wT kI wI kE wE tx tx3 it it3 en en3 Mk x) : x < w.heap.size := by
 rcases hx with hx | hx | hx | hx | hx | hx | hx | hx | hx | hx
 ·exact h.ms.setLt x hx
 ·exact h.mi.setLt x hx
 ·exact h.me.setLt x hx
 ·exact own_lt h.kt hx
 ·exact own_lt h.wt hx
 ·exact own_lt h.ki hx
 ·exact own_lt h.wi hx
 ·exact own_lt h.ke hx
 ·exact own_lt h.we hx
 ·exact (h.mt x hx).2.2.2
theorem Kt.fr {S : Nat → Prop} (h : Kt w wb base came kT wT kI wI kE wE ps tx tx3 it it3 en en3 lT lT3 lI lI3 lE lE3 T I E Mk) (hf : Fr S w w') (hn : ∀ x, KS wb kT wT kI wI kE wE tx tx3 it it3 en en3 Mk x → ¬ S x) : Kt w' wb base came kT wT kI wI kE wE ps tx tx3 it it3 en en3 lT lT3 lI lI3 lE lE3 T I E Mk where
 ms := h.ms.fr hf (fun x hx => hn x (.inl hx))
 mi := h.mi.fr hf (fun x hx => hn x (.inr (.inl hx)))
 me := h.me.fr hf (fun x hx => hn x (.inr (.inr (.inl hx))))
 kt := ownsRow_same h.kt (fun g e => hf.block g (own_lt h.kt e) (hn g (.inr (.inr (.inr (.inl e))))))
 wt := ownsRow_same h.wt (fun g e => hf.block g (own_lt h.wt e) (hn g (.inr (.inr (.inr (.inr (.inl e)))))))
 ki := ownsRow_same h.ki (fun g e => hf.block g (own_lt h.ki e) (hn g (.inr (.inr (.inr (.inr (.inr (.inl e))))))))
 wi := ownsRow_same h.wi (fun g e => hf.block g (own_lt h.wi e) (hn g (.inr (.inr (.inr (.inr (.inr (.inr (.inl e)))))))))
 ke := ownsRow_same h.ke (fun g e => hf.block g (own_lt h.ke e) (hn g (.inr (.inr (.inr (.inr (.inr (.inr (.inr (.inl e))))))))))
 we := ownsRow_same h.we (fun g e => hf.block g (own_lt h.we e) (hn g (.inr (.inr (.inr (.inr (.inr (.inr (.inr (.inr (.inl e)))))))))))
 nt := h.nt
 ni := h.ni
 ne := h.ne
 lt := h.lt
 li := h.li
 le := h.le
 tm := h.tm.fr hf (fun x hx => hn x (.inr (.inr (.inr (.inr (.inr (.inr (.inr (.inr (.inr hx))))))))))
 tmi := h.tmi.fr hf (fun x hx => hn x (.inr (.inr (.inr (.inr (.inr (.inr (.inr (.inr (.inr hx))))))))))
 tme := h.tme.fr hf (fun x hx => hn x (.inr (.inr (.inr (.inr (.inr (.inr (.inr (.inr (.inr hx))))))))))
 mt := fun x hx => ⟨(h.mt x hx).1, (h.mt x hx).2.1, (h.mt x hx).2.2.1, Nat.lt_of_lt_of_le (h.mt x hx).2.2.2 hf.size⟩
 mi' := h.mi'
 me' := h.me'
theorem Kt.offT (h : Kt w wb base came kT wT kI wI kE wE ps tx tx3 it it3 en en3 lT lT3 lI lI3 lE lE3 T I E Mk) {u : Value} {lu : List (List UInt8)} (ho : OwnsS w base u lu) (x : Nat) (hx : u.ownBlock = some x) :
  (¬ MISet wb it it3 x ∧ kI.ownBlock ≠ some x ∧ wI.ownBlock ≠ some x) ∧ (¬ MESet wb en en3 x ∧ kE.ownBlock ≠ some x ∧ wE.ownBlock ≠ some x) := by
 refine ⟨⟨?_, fun e => rows_ne ho h.ki (by decide) hx e, fun e => rows_ne ho h.wi (by decide) hx e⟩, ?_, fun e => rows_ne ho h.ke (by decide) hx e, fun e => rows_ne ho h.we (by decide) hx e⟩
 ·rintro (e | e | e)
  ·exact row_neS ho h.ms.wa (by decide) (by rw [hx, e])
  ·exact rows_ne ho h.mi.t (by decide) hx e
  ·exact rows_ne ho h.mi.t3 (by decide) hx e
 ·rintro (e | e | e)
  ·exact row_neS ho h.ms.wa (by decide) (by rw [hx, e])
  ·exact rows_ne ho h.me.t (by decide) hx e
  ·exact rows_ne ho h.me.t3 (by decide) hx e
theorem Kt.new (h : Kt w wb base came kT wT kI wI kE wE ps tx tx3 it it3 en en3 lT lT3 lI lI3 lE lE3 T I E Mk) (x : Nat) (hx : w.heap.size ≤ x) :
  (¬ MSet wb tx tx3 x ∧ kT.ownBlock ≠ some x ∧ wT.ownBlock ≠ some x) ∧ (¬ MISet wb it it3 x ∧ kI.ownBlock ≠ some x ∧ wI.ownBlock ≠ some x) ∧ (¬ MESet wb en en3 x ∧ kE.ownBlock ≠ some x ∧ wE.ownBlock ≠ some x) :=
 ⟨⟨fun e => by have := h.ms.setLt x e; omega, fun e => by have := own_lt h.kt e; omega, fun e => by have := own_lt h.wt e; omega⟩, ⟨fun e => by have := h.mi.setLt x e; omega, fun e => by have := own_lt h.ki e; omega, fun e => by have := own_lt h.wi e; omega⟩, fun e => by have := h.me.setLt x e; omega, fun e => by have := own_lt h.ke e; omega, fun e => by have := own_lt h.we e; omega⟩
theorem Kt.rowT {S : Nat → Prop} {e : TypeId} {s n : Nat} {xs : List Value} {u v : Value} {lv : List (List UInt8)} (h : Kt w wb base came kT wT kI wI kE wE ps tx tx3 it it3 en en3 lT lT3 lI lI3 lE lE3 T I E Mk) (hv : OwnsS w base v lv) (ho : w.ownsRow base e s u n xs)
  (hf : Fr (fun x => MSet wb tx tx3 x ∨ kT.ownBlock = some x ∨ v.ownBlock = some x) w w') (h1 : e ≠ 23) (h2 : e ≠ 9) (h3 : e ≠ 90) : w'.ownsRow base e s u n xs :=
 ownsRow_same ho (fun g eg => hf.block g (own_lt ho eg) (by
  rintro ((e2 | e2 | e2) | e2 | e2)
  ·exact row_neS ho h.ms.wa h3 (by rw [eg, e2])
  ·exact rows_ne ho h.ms.t h1 eg e2
  ·exact rows_ne ho h.ms.t3 h1 eg e2
  ·exact rows_ne ho h.kt h2 eg e2
  ·exact rows_ne ho hv h2 eg e2))
theorem Kt.takeT {v : Value} {lv : List (List UInt8)} (h : Kt w wb base came kT wT kI wI kE wE ps tx tx3 it it3 en en3 lT lT3 lI lI3 lE lE3 T I E Mk) (hv : OwnsS w base v lv) (hvn : ∀ x, v.ownBlock = some x → ¬ KS wb kT wT kI wI kE wE tx tx3 it it3 en en3 Mk x) (hlv : lv.length ≤ 1200000) (hl : lT.length ≤ 4000000) (hbase : base ≤ w.heap.size) (hc0 : 0 ≤ came) (hc1 : came ≤ 1000000000000) :
  Calls Tryz.prog 77 #[.pointer (some ⟨wb, 0, none⟩), v] w fun e w' => e = .returned (.tuple #[]) ∧ ∃ kT' wT' tx' tx3' lT' lT3' T', ∃ Mk' : Nat → Prop, Kt w' wb base (came + 1) kT' wT' kI wI kE wE ps tx' tx3' it it3 en en3 lT' lT3' lI lI3 lE lE3 T' I E Mk' ∧ (∀ x, KS wb kT' wT' kI wI kE wE tx' tx3' it it3 en en3 Mk' x → KS wb kT wT kI wI kE wE tx tx3 it it3 en en3 Mk x ∨ v.ownBlock = some x ∨ w.heap.size ≤ x) ∧ lT'.length ≤ lT.length + 2 ∧ Fr (fun x => MSet wb tx tx3 x ∨ kT.ownBlock = some x ∨ v.ownBlock = some x) w w' := by
 have hmv : ∀ x, Mk x → v.ownBlock ≠ some x := fun x hx e => hvn x e (.inr (.inr (.inr (.inr (.inr (.inr (.inr (.inr (.inr hx)))))))))
 refine (takeTexts_any v lv T w h.ms h.kt h.wt hv (fun g e => ⟨h.nt g e, fun e2 => hvn g e2 (.inr (.inr (.inr (.inl e))))⟩) h.tm (fun x hx => ⟨(h.mt x hx).1, (h.mt x hx).2.1, hmv x hx, (h.mt x hx).2.2.2⟩) h.lt hlv hl hbase hc0 hc1).mono ?_
 rintro e w' ⟨rfl, kT', wT', tx', tx3', lT', lT3', T', Mk', M, ⟨o1, o2, o3⟩, hne, tm, hmk, hset, hkw, hlen, hf⟩
 have hsz := hf.size
 have offS : ∀ x, Mk x → ¬ (MSet wb tx tx3 x ∨ kT.ownBlock = some x ∨ v.ownBlock = some x) := fun x hx hs => by
  rcases hs with hs | hs | hs
  ·exact (h.mt x hx).1 hs
  ·exact (h.mt x hx).2.1 hs
  ·exact hmv x hx hs
 have oth : ∀ x, Mk' x → (¬ MISet wb it it3 x ∧ kI.ownBlock ≠ some x ∧ wI.ownBlock ≠ some x) ∧ (¬ MESet wb en en3 x ∧ kE.ownBlock ≠ some x ∧ wE.ownBlock ≠ some x) := fun x hx => by
  rcases (hmk x hx).1 with h1 | h1 | h1 | h1
  ·exact ⟨h.mi' x h1, h.me' x h1⟩
  ·exact h.offT h.kt x h1
  ·exact h.offT hv x h1
  ·exact (h.new x h1).2
 have mt' : ∀ x, Mk x → ¬ MSet wb tx' tx3' x ∧ kT'.ownBlock ≠ some x ∧ wT'.ownBlock ≠ some x ∧ x < w'.heap.size := fun x hx => by
  have hxl := (h.mt x hx).2.2.2
  refine ⟨fun e => ?_, fun e => ?_, fun e => ?_, by omega⟩
  ·rcases hset x e with e | e
   ·exact (h.mt x hx).1 e
   ·omega
  ·rcases hkw x (.inl e) with e | e
   ·exact hmv x hx e
   ·omega
  ·rcases hkw x (.inr e) with e | e
   ·exact hmv x hx e
   ·omega
 refine ⟨rfl, kT', wT', tx', tx3', lT', lT3', T', fun x => Mk x ∨ Mk' x, ?_, ?_, hlen, hf⟩
 ·exact {
   ms := M
   mi := ⟨M.wa, h.rowT (S := fun _ => False) hv h.mi.t hf (by decide) (by decide) (by decide), h.rowT (S := fun _ => False) hv h.mi.t3 hf (by decide) (by decide) (by decide), h.mi.ne⟩
   me := ⟨M.wa, h.rowT (S := fun _ => False) hv h.me.t hf (by decide) (by decide) (by decide), h.rowT (S := fun _ => False) hv h.me.t3 hf (by decide) (by decide) (by decide), h.me.ne⟩
   kt := o1
   wt := o2
   ki := h.rowT (S := fun _ => False) hv h.ki hf (by decide) (by decide) (by decide)
   wi := h.rowT (S := fun _ => False) hv h.wi hf (by decide) (by decide) (by decide)
   ke := h.rowT (S := fun _ => False) hv h.ke hf (by decide) (by decide) (by decide)
   we := h.rowT (S := fun _ => False) hv h.we hf (by decide) (by decide) (by decide)
   nt := hne
   ni := h.ni
   ne := h.ne
   lt := o3
   li := h.li
   le := h.le
   tm := tm.mono (fun x hx => .inr hx)
   tmi := (h.tmi.fr hf offS).mono (fun x hx => .inl hx)
   tme := (h.tme.fr hf offS).mono (fun x hx => .inl hx)
   mt := fun x hx => hx.elim (mt' x) (fun hx => (hmk x hx).2)
   mi' := fun x hx => hx.elim (h.mi' x) (fun hx => (oth x hx).1)
   me' := fun x hx => hx.elim (h.me' x) (fun hx => (oth x hx).2) }
 ·rintro x (hx | hx | hx | hx | hx | hx | hx | hx | hx | hx | hx)
  ·exact (hset x hx).elim (fun e => .inl (.inl e)) (fun e => .inr (.inr e))
  ·exact .inl (.inr (.inl hx))
  ·exact .inl (.inr (.inr (.inl hx)))
  ·exact .inr (hkw x (.inl hx))
  ·exact .inr (hkw x (.inr hx))
  ·exact .inl (.inr (.inr (.inr (.inr (.inr (.inl hx))))))
  ·exact .inl (.inr (.inr (.inr (.inr (.inr (.inr (.inl hx)))))))
  ·exact .inl (.inr (.inr (.inr (.inr (.inr (.inr (.inr (.inl hx))))))))
  ·exact .inl (.inr (.inr (.inr (.inr (.inr (.inr (.inr (.inr (.inl hx)))))))))
  ·exact .inl (.inr (.inr (.inr (.inr (.inr (.inr (.inr (.inr (.inr hx)))))))))
  ·rcases (hmk x hx).1 with h1 | h1 | h1 | h1
   ·exact .inl (.inr (.inr (.inr (.inr (.inr (.inr (.inr (.inr (.inr h1)))))))))
   ·exact .inl (.inr (.inr (.inr (.inl h1))))
   ·exact .inr (.inl h1)
   ·exact .inr (.inr h1)
end
section
variable {w w' : World} {wb base : Nat} {came : Int} {kT wT kI wI kE wE ps tx tx3 it it3 en en3 : Value} {lT lT3 lI lI3 lE lE3 : List Value} {T : List (List UInt8)} {I : List P.It} {E : List En} {Mk : Nat → Prop}
theorem Kt.offI (h : Kt w wb base came kT wT kI wI kE wE ps tx tx3 it it3 en en3 lT lT3 lI lI3 lE lE3 T I E Mk) {u : Value} {lu : List P.It} (ho : OwnsIt w base u lu) (x : Nat) (hx : u.ownBlock = some x) :
  (¬ MSet wb tx tx3 x ∧ kT.ownBlock ≠ some x ∧ wT.ownBlock ≠ some x) ∧ (¬ MESet wb en en3 x ∧ kE.ownBlock ≠ some x ∧ wE.ownBlock ≠ some x) := by
 refine ⟨⟨?_, fun e => rows_ne ho h.kt (by decide) hx e, fun e => rows_ne ho h.wt (by decide) hx e⟩, ?_, fun e => rows_ne ho h.ke (by decide) hx e, fun e => rows_ne ho h.we (by decide) hx e⟩
 ·rintro (e | e | e)
  ·exact row_neS ho h.ms.wa (by decide) (by rw [hx, e])
  ·exact rows_ne ho h.ms.t (by decide) hx e
  ·exact rows_ne ho h.ms.t3 (by decide) hx e
 ·rintro (e | e | e)
  ·exact row_neS ho h.ms.wa (by decide) (by rw [hx, e])
  ·exact rows_ne ho h.me.t (by decide) hx e
  ·exact rows_ne ho h.me.t3 (by decide) hx e
theorem Kt.rowI {e : TypeId} {s n : Nat} {xs : List Value} {u v : Value} {lv : List P.It} (h : Kt w wb base came kT wT kI wI kE wE ps tx tx3 it it3 en en3 lT lT3 lI lI3 lE lE3 T I E Mk) (hv : OwnsIt w base v lv) (ho : w.ownsRow base e s u n xs)
  (hf : Fr (fun x => MISet wb it it3 x ∨ kI.ownBlock = some x ∨ v.ownBlock = some x) w w') (h1 : e ≠ 43) (h2 : e ≠ 47) (h3 : e ≠ 90) : w'.ownsRow base e s u n xs :=
 ownsRow_same ho (fun g eg => hf.block g (own_lt ho eg) (by
  rintro ((e2 | e2 | e2) | e2 | e2)
  ·exact row_neS ho h.ms.wa h3 (by rw [eg, e2])
  ·exact rows_ne ho h.mi.t h1 eg e2
  ·exact rows_ne ho h.mi.t3 h1 eg e2
  ·exact rows_ne ho h.ki h2 eg e2
  ·exact rows_ne ho hv h2 eg e2))
theorem Kt.takeI {v : Value} {lv : List P.It} (h : Kt w wb base came kT wT kI wI kE wE ps tx tx3 it it3 en en3 lT lT3 lI lI3 lE lE3 T I E Mk) (hv : OwnsIt w base v lv) (hvn : ∀ x, v.ownBlock = some x → ¬ KS wb kT wT kI wI kE wE tx tx3 it it3 en en3 Mk x) (hlv : lv.length ≤ 1200000) (hl : lI.length ≤ 4000000) (hbase : base ≤ w.heap.size) (hc0 : 0 ≤ came) (hc1 : came ≤ 1000000000000) :
  Calls Tryz.prog 76 #[.pointer (some ⟨wb, 0, none⟩), v] w fun e w' => e = .returned (.tuple #[]) ∧ ∃ kI' wI' it' it3' lI' lI3' I', ∃ Mk' : Nat → Prop, Kt w' wb base (came + 1) kT wT kI' wI' kE wE ps tx tx3 it' it3' en en3 lT lT3 lI' lI3' lE lE3 T I' E Mk' ∧ (∀ x, KS wb kT wT kI' wI' kE wE tx tx3 it' it3' en en3 Mk' x → KS wb kT wT kI wI kE wE tx tx3 it it3 en en3 Mk x ∨ v.ownBlock = some x ∨ w.heap.size ≤ x) ∧ lI'.length ≤ lI.length + 2 ∧ Fr (fun x => MISet wb it it3 x ∨ kI.ownBlock = some x ∨ v.ownBlock = some x) w w' := by
 have hmv : ∀ x, Mk x → v.ownBlock ≠ some x := fun x hx e => hvn x e (.inr (.inr (.inr (.inr (.inr (.inr (.inr (.inr (.inr hx)))))))))
 refine (takeItems_any v lv I w h.mi h.ki h.wi hv (fun g e => ⟨h.ni g e, fun e2 => hvn g e2 (.inr (.inr (.inr (.inr (.inr (.inl e))))))⟩) h.tmi (fun x hx => ⟨(h.mi' x hx).1, (h.mi' x hx).2.1, hmv x hx, (h.mt x hx).2.2.2⟩) h.li hlv hl hbase hc0 hc1).mono ?_
 rintro e w' ⟨rfl, kI', wI', it', it3', lI', lI3', I', Mk', M, ⟨o1, o2, o3⟩, hne, tm, hmk, hset, hkw, hlen, hf⟩
 have hsz := hf.size
 have offS : ∀ x, Mk x → ¬ (MISet wb it it3 x ∨ kI.ownBlock = some x ∨ v.ownBlock = some x) := fun x hx hs => by
  rcases hs with hs | hs | hs
  ·exact (h.mi' x hx).1 hs
  ·exact (h.mi' x hx).2.1 hs
  ·exact hmv x hx hs
 have oth : ∀ x, Mk' x → (¬ MSet wb tx tx3 x ∧ kT.ownBlock ≠ some x ∧ wT.ownBlock ≠ some x) ∧ (¬ MESet wb en en3 x ∧ kE.ownBlock ≠ some x ∧ wE.ownBlock ≠ some x) := fun x hx => by
  rcases (hmk x hx).1 with h1 | h1 | h1 | h1
  ·exact ⟨⟨(h.mt x h1).1, (h.mt x h1).2.1, (h.mt x h1).2.2.1⟩, h.me' x h1⟩
  ·exact h.offI h.ki x h1
  ·exact h.offI hv x h1
  ·exact ⟨(h.new x h1).1, (h.new x h1).2.2⟩
 have mt' : ∀ x, Mk x → ¬ MISet wb it' it3' x ∧ kI'.ownBlock ≠ some x ∧ wI'.ownBlock ≠ some x ∧ x < w'.heap.size := fun x hx => by
  have hxl := (h.mt x hx).2.2.2
  refine ⟨fun e => ?_, fun e => ?_, fun e => ?_, by omega⟩
  ·rcases hset x e with e | e
   ·exact (h.mi' x hx).1 e
   ·omega
  ·rcases hkw x (.inl e) with e | e
   ·exact hmv x hx e
   ·omega
  ·rcases hkw x (.inr e) with e | e
   ·exact hmv x hx e
   ·omega
 refine ⟨rfl, kI', wI', it', it3', lI', lI3', I', fun x => Mk x ∨ Mk' x, ?_, ?_, hlen, hf⟩
 ·exact {
   ms := ⟨M.wa, h.rowI hv h.ms.t hf (by decide) (by decide) (by decide), h.rowI hv h.ms.t3 hf (by decide) (by decide) (by decide), h.ms.ne⟩
   mi := M
   me := ⟨M.wa, h.rowI hv h.me.t hf (by decide) (by decide) (by decide), h.rowI hv h.me.t3 hf (by decide) (by decide) (by decide), h.me.ne⟩
   kt := h.rowI hv h.kt hf (by decide) (by decide) (by decide)
   wt := h.rowI hv h.wt hf (by decide) (by decide) (by decide)
   ki := o1
   wi := o2
   ke := h.rowI hv h.ke hf (by decide) (by decide) (by decide)
   we := h.rowI hv h.we hf (by decide) (by decide) (by decide)
   nt := h.nt
   ni := hne
   ne := h.ne
   lt := h.lt
   li := o3
   le := h.le
   tm := (h.tm.fr hf offS).mono (fun x hx => .inl hx)
   tmi := tm.mono (fun x hx => .inr hx)
   tme := (h.tme.fr hf offS).mono (fun x hx => .inl hx)
   mt := fun x hx => hx.elim (fun hx => ⟨(h.mt x hx).1, (h.mt x hx).2.1, (h.mt x hx).2.2.1, by have := (h.mt x hx).2.2.2; omega⟩) (fun hx => ⟨(oth x hx).1.1, (oth x hx).1.2.1, (oth x hx).1.2.2, (hmk x hx).2.2.2.2⟩)
   mi' := fun x hx => hx.elim (fun hx => ⟨(mt' x hx).1, (mt' x hx).2.1, (mt' x hx).2.2.1⟩) (fun hx => ⟨(hmk x hx).2.1, (hmk x hx).2.2.1, (hmk x hx).2.2.2.1⟩)
   me' := fun x hx => hx.elim (h.me' x) (fun hx => (oth x hx).2) }
 ·rintro x (hx | hx | hx | hx | hx | hx | hx | hx | hx | hx | hx)
  ·exact .inl (.inl hx)
  ·exact (hset x hx).elim (fun e => .inl (.inr (.inl e))) (fun e => .inr (.inr e))
  ·exact .inl (.inr (.inr (.inl hx)))
  ·exact .inl (.inr (.inr (.inr (.inl hx))))
  ·exact .inl (.inr (.inr (.inr (.inr (.inl hx)))))
  ·exact .inr (hkw x (.inl hx))
  ·exact .inr (hkw x (.inr hx))
  ·exact .inl (.inr (.inr (.inr (.inr (.inr (.inr (.inr (.inl hx))))))))
  ·exact .inl (.inr (.inr (.inr (.inr (.inr (.inr (.inr (.inr (.inl hx)))))))))
  ·exact .inl (.inr (.inr (.inr (.inr (.inr (.inr (.inr (.inr (.inr hx)))))))))
  ·rcases (hmk x hx).1 with h1 | h1 | h1 | h1
   ·exact .inl (.inr (.inr (.inr (.inr (.inr (.inr (.inr (.inr (.inr h1)))))))))
   ·exact .inl (.inr (.inr (.inr (.inr (.inr (.inl h1))))))
   ·exact .inr (.inl h1)
   ·exact .inr (.inr h1)
theorem Kt.offE (h : Kt w wb base came kT wT kI wI kE wE ps tx tx3 it it3 en en3 lT lT3 lI lI3 lE lE3 T I E Mk) {u : Value} {lu : List En} (ho : OwnsE w base u lu) (x : Nat) (hx : u.ownBlock = some x) :
  (¬ MSet wb tx tx3 x ∧ kT.ownBlock ≠ some x ∧ wT.ownBlock ≠ some x) ∧ (¬ MISet wb it it3 x ∧ kI.ownBlock ≠ some x ∧ wI.ownBlock ≠ some x) := by
 refine ⟨⟨?_, fun e => rows_ne ho h.kt (by decide) hx e, fun e => rows_ne ho h.wt (by decide) hx e⟩, ?_, fun e => rows_ne ho h.ki (by decide) hx e, fun e => rows_ne ho h.wi (by decide) hx e⟩
 ·rintro (e | e | e)
  ·exact row_neS ho h.ms.wa (by decide) (by rw [hx, e])
  ·exact rows_ne ho h.ms.t (by decide) hx e
  ·exact rows_ne ho h.ms.t3 (by decide) hx e
 ·rintro (e | e | e)
  ·exact row_neS ho h.ms.wa (by decide) (by rw [hx, e])
  ·exact rows_ne ho h.mi.t (by decide) hx e
  ·exact rows_ne ho h.mi.t3 (by decide) hx e
theorem Kt.rowE {e : TypeId} {s n : Nat} {xs : List Value} {u v : Value} {lv : List En} (h : Kt w wb base came kT wT kI wI kE wE ps tx tx3 it it3 en en3 lT lT3 lI lI3 lE lE3 T I E Mk) (hv : OwnsE w base v lv) (ho : w.ownsRow base e s u n xs)
  (hf : Fr (fun x => MESet wb en en3 x ∨ kE.ownBlock = some x ∨ v.ownBlock = some x) w w') (h1 : e ≠ 22) (h2 : e ≠ 32) (h3 : e ≠ 90) : w'.ownsRow base e s u n xs :=
 ownsRow_same ho (fun g eg => hf.block g (own_lt ho eg) (by
  rintro ((e2 | e2 | e2) | e2 | e2)
  ·exact row_neS ho h.ms.wa h3 (by rw [eg, e2])
  ·exact rows_ne ho h.me.t h1 eg e2
  ·exact rows_ne ho h.me.t3 h1 eg e2
  ·exact rows_ne ho h.ke h2 eg e2
  ·exact rows_ne ho hv h2 eg e2))
theorem Kt.takeE {v : Value} {lv : List En} (h : Kt w wb base came kT wT kI wI kE wE ps tx tx3 it it3 en en3 lT lT3 lI lI3 lE lE3 T I E Mk) (hv : OwnsE w base v lv) (hvn : ∀ x, v.ownBlock = some x → ¬ KS wb kT wT kI wI kE wE tx tx3 it it3 en en3 Mk x) (hlv : lv.length ≤ 1200000) (hl : lE.length ≤ 4000000) (hbase : base ≤ w.heap.size) (hc0 : 0 ≤ came) (hc1 : came ≤ 1000000000000) :
  Calls Tryz.prog 124 #[.pointer (some ⟨wb, 0, none⟩), v] w fun e w' => e = .returned (.tuple #[]) ∧ ∃ kE' wE' en' en3' lE' lE3' E', ∃ Mk' : Nat → Prop, Kt w' wb base (came + 1) kT wT kI wI kE' wE' ps tx tx3 it it3 en' en3' lT lT3 lI lI3 lE' lE3' T I E' Mk' ∧ (∀ x, KS wb kT wT kI wI kE' wE' tx tx3 it it3 en' en3' Mk' x → KS wb kT wT kI wI kE wE tx tx3 it it3 en en3 Mk x ∨ v.ownBlock = some x ∨ w.heap.size ≤ x) ∧ lE'.length ≤ lE.length + 2 ∧ Fr (fun x => MESet wb en en3 x ∨ kE.ownBlock = some x ∨ v.ownBlock = some x) w w' := by
 have hmv : ∀ x, Mk x → v.ownBlock ≠ some x := fun x hx e => hvn x e (.inr (.inr (.inr (.inr (.inr (.inr (.inr (.inr (.inr hx)))))))))
 refine (takeEntries_any v lv E w h.me h.ke h.we hv (fun g e => ⟨h.ne g e, fun e2 => hvn g e2 (.inr (.inr (.inr (.inr (.inr (.inr (.inr (.inl e))))))))⟩) h.tme (fun x hx => ⟨(h.me' x hx).1, (h.me' x hx).2.1, hmv x hx, (h.mt x hx).2.2.2⟩) h.le hlv hl hbase hc0 hc1).mono ?_
 rintro e w' ⟨rfl, kE', wE', en', en3', lE', lE3', E', Mk', M, ⟨o1, o2, o3⟩, hne, tm, hmk, hset, hkw, hlen, hf⟩
 have hsz := hf.size
 have offS : ∀ x, Mk x → ¬ (MESet wb en en3 x ∨ kE.ownBlock = some x ∨ v.ownBlock = some x) := fun x hx hs => by
  rcases hs with hs | hs | hs
  ·exact (h.me' x hx).1 hs
  ·exact (h.me' x hx).2.1 hs
  ·exact hmv x hx hs
 have oth : ∀ x, Mk' x → (¬ MSet wb tx tx3 x ∧ kT.ownBlock ≠ some x ∧ wT.ownBlock ≠ some x) ∧ (¬ MISet wb it it3 x ∧ kI.ownBlock ≠ some x ∧ wI.ownBlock ≠ some x) := fun x hx => by
  rcases (hmk x hx).1 with h1 | h1 | h1 | h1
  ·exact ⟨⟨(h.mt x h1).1, (h.mt x h1).2.1, (h.mt x h1).2.2.1⟩, h.mi' x h1⟩
  ·exact h.offE h.ke x h1
  ·exact h.offE hv x h1
  ·exact ⟨(h.new x h1).1, (h.new x h1).2.1⟩
 have mt' : ∀ x, Mk x → ¬ MESet wb en' en3' x ∧ kE'.ownBlock ≠ some x ∧ wE'.ownBlock ≠ some x ∧ x < w'.heap.size := fun x hx => by
  have hxl := (h.mt x hx).2.2.2
  refine ⟨fun e => ?_, fun e => ?_, fun e => ?_, by omega⟩
  ·rcases hset x e with e | e
   ·exact (h.me' x hx).1 e
   ·omega
  ·rcases hkw x (.inl e) with e | e
   ·exact hmv x hx e
   ·omega
  ·rcases hkw x (.inr e) with e | e
   ·exact hmv x hx e
   ·omega
 refine ⟨rfl, kE', wE', en', en3', lE', lE3', E', fun x => Mk x ∨ Mk' x, ?_, ?_, hlen, hf⟩
 ·exact {
   ms := ⟨M.wa, h.rowE hv h.ms.t hf (by decide) (by decide) (by decide), h.rowE hv h.ms.t3 hf (by decide) (by decide) (by decide), h.ms.ne⟩
   mi := ⟨M.wa, h.rowE hv h.mi.t hf (by decide) (by decide) (by decide), h.rowE hv h.mi.t3 hf (by decide) (by decide) (by decide), h.mi.ne⟩
   me := M
   kt := h.rowE hv h.kt hf (by decide) (by decide) (by decide)
   wt := h.rowE hv h.wt hf (by decide) (by decide) (by decide)
   ki := h.rowE hv h.ki hf (by decide) (by decide) (by decide)
   wi := h.rowE hv h.wi hf (by decide) (by decide) (by decide)
   ke := o1
   we := o2
   nt := h.nt
   ni := h.ni
   ne := hne
   lt := h.lt
   li := h.li
   le := o3
   tm := (h.tm.fr hf offS).mono (fun x hx => .inl hx)
   tmi := (h.tmi.fr hf offS).mono (fun x hx => .inl hx)
   tme := tm.mono (fun x hx => .inr hx)
   mt := fun x hx => hx.elim (fun hx => ⟨(h.mt x hx).1, (h.mt x hx).2.1, (h.mt x hx).2.2.1, by have := (h.mt x hx).2.2.2; omega⟩) (fun hx => ⟨(oth x hx).1.1, (oth x hx).1.2.1, (oth x hx).1.2.2, (hmk x hx).2.2.2.2⟩)
   mi' := fun x hx => hx.elim (h.mi' x) (fun hx => (oth x hx).2)
   me' := fun x hx => hx.elim (fun hx => ⟨(mt' x hx).1, (mt' x hx).2.1, (mt' x hx).2.2.1⟩) (fun hx => ⟨(hmk x hx).2.1, (hmk x hx).2.2.1, (hmk x hx).2.2.2.1⟩) }
 ·rintro x (hx | hx | hx | hx | hx | hx | hx | hx | hx | hx | hx)
  ·exact .inl (.inl hx)
  ·exact .inl (.inr (.inl hx))
  ·exact (hset x hx).elim (fun e => .inl (.inr (.inr (.inl e)))) (fun e => .inr (.inr e))
  ·exact .inl (.inr (.inr (.inr (.inl hx))))
  ·exact .inl (.inr (.inr (.inr (.inr (.inl hx)))))
  ·exact .inl (.inr (.inr (.inr (.inr (.inr (.inl hx))))))
  ·exact .inl (.inr (.inr (.inr (.inr (.inr (.inr (.inl hx)))))))
  ·exact .inr (hkw x (.inl hx))
  ·exact .inr (hkw x (.inr hx))
  ·exact .inl (.inr (.inr (.inr (.inr (.inr (.inr (.inr (.inr (.inr hx)))))))))
  ·rcases (hmk x hx).1 with h1 | h1 | h1 | h1
   ·exact .inl (.inr (.inr (.inr (.inr (.inr (.inr (.inr (.inr (.inr h1)))))))))
   ·exact .inl (.inr (.inr (.inr (.inr (.inr (.inr (.inr (.inl h1))))))))
   ·exact .inr (.inl h1)
   ·exact .inr (.inr h1)
end
end Go.Proofs.YtjmacegibchplaaGreatDoor