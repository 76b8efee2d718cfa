/-
  What a script keeps, and its look at it (cellarlaw.World's looks).
-/
import Derived.Test.YtjmacegibchplaaGreatDoorLawY
import Derived.Test.YtjmacegibchplaaGreatDoorLawS
import Derived.Deep.QuietTactic
import Derived.BigQuiet
namespace Go.Proofs.YtjmacegibchplaaGreatDoor
open Go.RowKit Go.Maps Go.WideMaps
set_option linter.unusedVariables false
theorem own_at {w : World} {base : Nat} {e : TypeId} {v : Value} {l : List Value} (h : w.ownsRow base e 1 v l.length l) (k : Nat) (hk : k < l.length) : ∃ g c, v = .slice (some ⟨g, 0, none⟩) l.length c ∧ w.cell? ⟨g, k, none⟩ = some l[k] := by
  rcases h.2 with ⟨rfl, hx⟩ | ⟨g, cap, cur, rfl, hb, hgg, q1, q2, q3, q4⟩
  · omega
  · refine ⟨g, cap, rfl, ?_⟩
    rw [cell_of_block hgg]
    have h1 : (List.take (l.length * 1) cur.toList)[k]? = l[k]? := by rw [q4]
    rw [List.getElem?_take_of_lt (by omega), List.getElem?_eq_getElem hk] at h1
    simpa using h1
theorem getD_at (l : List Value) (i : Nat) (h : i < l.length) : l.getD i (.slice none 0 0) = l[i] := by
  rw [List.getD_eq_getElem?_getD, List.getElem?_eq_getElem h]; rfl
theorem look_rows {w : World} {base : Nat} {e : TypeId} {v v3 : Value} {l l3 : List Value} (h : w.ownsRow base e 1 v l.length l) (h3 : w.ownsRow base e 1 v3 l3.length l3) (hl : l3.length = 3 * l.length) (k : Nat) (hk : k < l.length) :
    ∃ g c g3 c3, v = .slice (some ⟨g, 0, none⟩) l.length c ∧ v3 = .slice (some ⟨g3, 0, none⟩) l3.length c3 ∧ w.cell? ⟨g, k, none⟩ = some l[k] ∧ w.cell? ⟨g3, 3 * k, none⟩ = some (l3.getD (3 * k) (.slice none 0 0)) ∧ w.cell? ⟨g3, 3 * k + 1, none⟩ = some (l3.getD (3 * k + 1) (.slice none 0 0)) ∧ w.cell? ⟨g3, 3 * k + 2, none⟩ = some (l3.getD (3 * k + 2) (.slice none 0 0)) := by
  obtain ⟨g, c, e1, d⟩ := own_at h k hk
  obtain ⟨g3, c3, e3, d0⟩ := own_at h3 (3 * k) (by omega)
  obtain ⟨g3', c3', e3', d1⟩ := own_at h3 (3 * k + 1) (by omega)
  obtain ⟨g3'', c3'', e3'', d2⟩ := own_at h3 (3 * k + 2) (by omega)
  obtain ⟨rfl, rfl⟩ : g3 = g3' ∧ c3 = c3' := by rw [e3] at e3'; simpa using e3'
  obtain ⟨rfl, rfl⟩ : g3 = g3'' ∧ c3 = c3'' := by rw [e3] at e3''; simpa using e3''
  exact ⟨g, c, g3, c3, e1, e3, d, by rw [getD_at _ _ (by omega)]; exact d0, by rw [getD_at _ _ (by omega)]; exact d1, by rw [getD_at _ _ (by omega)]; exact d2⟩
structure Kt (w : World) (wb base : Nat) (came : Int) (kT wT kI wI kE wE ps tx tx3 it it3 en en3 : Value) (lT lT3 lI lI3 lE lE3 : List Value) (T : List (List UInt8)) (I : List P.It) (E : List En) (Mk : Nat → Prop) : Prop where
  ms : MS w wb base came kT wT kI wI kE wE ps tx tx3 it it3 en en3 lT lT3
  mi : MI w wb base came kT wT kI wI kE wE ps tx tx3 it it3 en en3 lI lI3
  me : ME w wb base came kT wT kI wI kE wE ps tx tx3 it it3 en en3 lE lE3
  kt : OwnsS w base kT T
  wt : OwnsS w base wT T
  ki : OwnsIt w base kI I
  wi : OwnsIt w base wI I
  ke : OwnsE w base kE E
  we : OwnsE w base wE E
  nt : ∀ g, kT.ownBlock = some g → wT.ownBlock ≠ some g
  ni : ∀ g, kI.ownBlock = some g → wI.ownBlock ≠ some g
  ne : ∀ g, kE.ownBlock = some g → wE.ownBlock ≠ some g
  lt : T.length ≤ 1200000
  li : I.length ≤ 1200000
  le : E.length ≤ 1200000
  tm : TM w lT lT3 Mk
  tmi : TMI w lI lI3 Mk
  tme : TME w lE lE3 Mk
  mt : ∀ x, Mk x → ¬ MSet wb tx tx3 x ∧ kT.ownBlock ≠ some x ∧ wT.ownBlock ≠ some x ∧ x < w.heap.size
  mi' : ∀ x, Mk x → ¬ MISet wb it it3 x ∧ kI.ownBlock ≠ some x ∧ wI.ownBlock ≠ some x
  me' : ∀ x, Mk x → ¬ MESet wb en en3 x ∧ kE.ownBlock ≠ some x ∧ wE.ownBlock ≠ some x
theorem Kt.below {w w' : World} {wb base : Nat} {came : Int} {kT wT kI wI kE wE ps tx tx3 it it3 en en3 : Value} {lT lT3 lI lI3 lE lE3 : List Value} {T : List (List UInt8)} {I : List P.It} {E : List En} {Mk : Nat → Prop}
    (h : Kt w wb base came kT wT kI wI kE wE ps tx tx3 it it3 en en3 lT lT3 lI lI3 lE lE3 T I E Mk) (hb : Below w.heap.size w w') : Kt w' wb base came kT wT kI wI kE wE ps tx tx3 it it3 en en3 lT lT3 lI lI3 lE lE3 T I E Mk :=
  ⟨h.ms.below hb (Nat.le_refl _), h.mi.below hb (Nat.le_refl _), h.me.below hb (Nat.le_refl _), OwnsS.below h.kt hb, OwnsS.below h.wt hb, OwnsIt.below h.ki hb, OwnsIt.below h.wi hb, OwnsE.below h.ke hb, OwnsE.below h.we hb, h.nt, h.ni, h.ne, h.lt, h.li, h.le, h.tm.below hb, h.tmi.below hb, h.tme.below hb, fun x hx => ⟨(h.mt x hx).1, (h.mt x hx).2.1, (h.mt x hx).2.2.1, Nat.lt_of_lt_of_le (h.mt x hx).2.2.2 hb.size⟩, h.mi', h.me'⟩
set_option maxRecDepth 100000 in
set_option maxHeartbeats 4000000 in
theorem looks_any {w : World} {wb base : Nat} {came : Int} {kT wT kI wI kE wE ps tx tx3 it it3 en en3 : Value} {lT lT3 lI lI3 lE lE3 : List Value} {T : List (List UInt8)} {I : List P.It} {E : List En} {Mk : Nat → Prop}
    (h : Kt w wb base came kT wT kI wI kE wE ps tx tx3 it it3 en en3 lT lT3 lI lI3 lE lE3 T I E Mk) (h1 : lT.length ≤ 5000000) (h2 : lI.length ≤ 5000000) (h3 : lE.length ≤ 5000000) :
    Calls Tryz.prog 50 #[.pointer (some ⟨wb, 0, none⟩)] w fun e w' => e = .returned (.bool true) ∧ Below w.heap.size w w' := by
  obtain ⟨akT, ckT, ekT⟩ := row_shape h.kt
  obtain ⟨awT, cwT, ewT⟩ := row_shape h.wt
  obtain ⟨akI, ckI, ekI⟩ := row_shape h.ki
  obtain ⟨awI, cwI, ewI⟩ := row_shape h.wi
  obtain ⟨akE, ckE, ekE⟩ := row_shape h.ke
  obtain ⟨awE, cwE, ewE⟩ := row_shape h.we
  subst ekT ewT ekI ewI ekE ewE
  have Hk := hide h
  have S1 := hide (fun W (hW : Below w.heap.size w W) => by
    obtain ⟨x1, y1, e1, t1, -⟩ := OwnsS.texts ((unhide Hk).below hW).kt
    obtain ⟨x2, y2, e2, t2, -⟩ := OwnsS.texts ((unhide Hk).below hW).wt
    obtain ⟨rfl, rfl⟩ : akT = x1 ∧ ckT = y1 := by simpa using e1
    obtain ⟨rfl, rfl⟩ : awT = x2 ∧ cwT = y2 := by simpa using e2
    exact sameTexts_same T akT awT ckT cwT W (by have := (unhide Hk).lt; unfold maxLen; omega) t1 t2)
  have S2 := hide (fun W (hW : Below w.heap.size w W) => by
    obtain ⟨x1, y1, e1, t1, -⟩ := OwnsIt.lies ((unhide Hk).below hW).ki
    obtain ⟨x2, y2, e2, t2, -⟩ := OwnsIt.lies ((unhide Hk).below hW).wi
    obtain ⟨rfl, rfl⟩ : akI = x1 ∧ ckI = y1 := by simpa using e1
    obtain ⟨rfl, rfl⟩ : awI = x2 ∧ cwI = y2 := by simpa using e2
    exact sameItems_same I akI awI ckI cwI W (by have := (unhide Hk).li; unfold maxLen; omega) t1 t2)
  have S3 := hide (fun W (hW : Below w.heap.size w W) => by
    obtain ⟨x1, y1, e1, t1, -⟩ := OwnsE.lies ((unhide Hk).below hW).ke
    obtain ⟨x2, y2, e2, t2, -⟩ := OwnsE.lies ((unhide Hk).below hW).we
    obtain ⟨rfl, rfl⟩ : akE = x1 ∧ ckE = y1 := by simpa using e1
    obtain ⟨rfl, rfl⟩ : awE = x2 ∧ cwE = y2 := by simpa using e2
    exact sameEntries_same E akE awE ckE cwE W (by have := (unhide Hk).le; unfold maxLen; omega) t1 t2)
  have m2 := cell_of_block (j := 2) h.ms.wa
  have m3 := cell_of_block (j := 3) h.ms.wa
  simp at m2 m3
  have hlt := h.ms.lt
  clear h
  go_enter Tryz.func50, Tryz.ntmps50
  go_wp2_with fail
  go_quiet ((go_at_call 41; exact Calls.quiet_of (unhide S1 _ (below_drewN (Below.refl _ _) _))))
  obtain ⟨w1, hw1⟩ : ∃ w1, w.drewN nq = w1 := ⟨_, rfl⟩
  rw [hw1]
  have hb1 : Below w.heap.size w w1 := by rw [← hw1]; exact below_drewN (Below.refl _ _) _
  clear hw1 m2 m3
  have k1 := (unhide Hk).below hb1
  have m4 := cell_of_block (j := 4) k1.ms.wa
  have m5 := cell_of_block (j := 5) k1.ms.wa
  simp at m4 m5
  have hlt1 := k1.ms.lt
  clear k1
  go_wp2_with fail
  go_quiet ((go_at_call 79; exact Calls.quiet_of (unhide S2 _ (below_drewN hb1 _))))
  obtain ⟨w2, hw2⟩ : ∃ w2, w1.drewN nq = w2 := ⟨_, rfl⟩
  rw [hw2]
  have hb2 : Below w.heap.size w w2 := by rw [← hw2]; exact below_drewN hb1 _
  clear hw2 m4 m5
  have k2 := (unhide Hk).below hb2
  have m6 := cell_of_block (j := 6) k2.ms.wa
  have m7 := cell_of_block (j := 7) k2.ms.wa
  simp at m6 m7
  have hlt2 := k2.ms.lt
  clear k2
  go_wp2_with fail
  go_quiet ((go_at_call 44; exact Calls.quiet_of (unhide S3 _ (below_drewN hb2 _))))
  obtain ⟨w3, hw3⟩ : ∃ w3, w2.drewN nq = w3 := ⟨_, rfl⟩
  rw [hw3]
  have hb3 : Below w.heap.size w w3 := by rw [← hw3]; exact below_drewN hb2 _
  clear hw3 m6 m7
  have k3 := (unhide Hk).below hb3
  have p1 := cell_of_block (j := 1) k3.ms.wa
  simp at p1
  have hlt3 := k3.ms.lt
  clear k3
  obtain ⟨at1, ct1, et1⟩ := row_shape (unhide Hk).ms.t
  obtain ⟨at3, ct3, et3⟩ := row_shape (unhide Hk).ms.t3
  obtain ⟨ai1, ci1, ei1⟩ := row_shape (unhide Hk).mi.t
  obtain ⟨ai3, ci3, ei3⟩ := row_shape (unhide Hk).mi.t3
  obtain ⟨ae1, ce1, ee1⟩ := row_shape (unhide Hk).me.t
  obtain ⟨ae3, ce3, ee3⟩ := row_shape (unhide Hk).me.t3
  subst et1 et3 ei1 ei3 ee1 ee3
  go_wp2_with fail
  go_loopw [6] (fun i wr => ∃ k : Nat, k ≤ lT.length ∧ i = .int .i64 k ∧ Below w.heap.size w wr) (fun i _ => lT.length - (intOf i).toNat)
  case atStart => exact ⟨0, by omega, rfl, hb3⟩
  case round =>
    obtain ⟨k, hk, rfl, hbr⟩ := hrel
    have kr := (unhide Hk).below hbr
    have c9 := cell_of_block (j := 9) kr.ms.wa
    simp at c9
    have hltr := kr.ms.lt
    by_cases hq : k < lT.length
    · have q1 : (k : Int) < (lT.length : Int) := by omega
      have Hs := hide (strokes_any k wr (by omega))
      clear kr
      go_wp2_with fail
      refine (unhide Hs).mono ?_
      rintro e W1 ⟨rfl, hbs⟩
      have hbw := hbr.trans (hbs.mono hbr.size)
      have kw := (unhide Hk).below hbw
      have hl3 := kw.tm.len
      obtain ⟨n, hn, ⟨a0, c0, e0, t0⟩, ⟨a1, c1, e1, t1⟩, ⟨a2, c2, e2, t2⟩, ⟨a3, c3, e3, t3⟩⟩ := kw.tm.full k hq
      obtain ⟨g, cg, g3, cg3, f1, f2, d, d0, d1, d2⟩ := look_rows kw.ms.t kw.ms.t3 kw.tm.len k hq
      rw [e0] at d
      rw [e1] at d0
      rw [e2] at d1
      rw [e3] at d2
      obtain ⟨rfl, rfl⟩ : at1 = some ⟨g, 0, none⟩ ∧ ct1 = cg := by simpa using f1
      obtain ⟨rfl, rfl⟩ : at3 = some ⟨g3, 0, none⟩ ∧ ct3 = cg3 := by simpa using f2
      have d9 := cell_of_block (j := 9) kw.ms.wa
      have d10 := cell_of_block (j := 10) kw.ms.wa
      simp at d9 d10
      have hltw := kw.ms.lt
      have hgl := block_lt d
      have hg3l := block_lt d0
      obtain ⟨k0, hk0⟩ : ∃ k0, k0 = 3 * k := ⟨_, rfl⟩
      obtain ⟨k1, hk1⟩ : ∃ k1, k1 = 3 * k + 1 := ⟨_, rfl⟩
      obtain ⟨k2, hk2⟩ : ∃ k2, k2 = 3 * k + 2 := ⟨_, rfl⟩
      rw [← hk0] at d0
      rw [← hk1] at d1
      rw [← hk2] at d2
      have w0 : IntKind.i64.wrap (3 * (k : Int)) = (k0 : Int) := by rw [IntKind.wrap_i64]; omega
      have w1' : IntKind.i64.wrap ((k0 : Int) + 1) = (k1 : Int) := by rw [IntKind.wrap_i64]; omega
      have w2' : IntKind.i64.wrap ((k0 : Int) + 2) = (k2 : Int) := by rw [IntKind.wrap_i64]; omega
      have b0 : (k0 : Int) < (lT3.length : Int) := by omega
      have b1 : (k1 : Int) < (lT3.length : Int) := by omega
      have b2 : (k2 : Int) < (lT3.length : Int) := by omega
      have F0 := hide (fullTexts_any n (strP k) a0 c0 W1 (by unfold maxLen; omega) t0)
      have F1 := hide (fullTexts_any (n + 1) (strP k) a1 c1 W1 (by unfold maxLen; omega) t1)
      have F2 := hide (fullTexts_any (n + 2) (strP k) a2 c2 W1 (by unfold maxLen; omega) t2)
      have F3 := hide (fullTexts_any (n + 3) (strP k) a3 c3 W1 (by unfold maxLen; omega) t3)
      have Hnum := hide (And.intro hk0 (And.intro hk1 hk2))
      clear kw e0 e1 e2 e3 t0 t1 t2 t3 f1 f2 hk0 hk1 hk2 hl3 Hs c9
      go_wp2_with fail
      refine (unhide F0).mono ?_
      rintro e w' ⟨rfl, hw'⟩
      rw [hw']
      clear hw' w'
      go_wp2_with fail
      refine (unhide F1).mono ?_
      rintro e w' ⟨rfl, hw'⟩
      rw [hw']
      clear hw' w'
      go_wp2_with fail
      refine (unhide F2).mono ?_
      rintro e w' ⟨rfl, hw'⟩
      rw [hw']
      clear hw' w'
      go_wp2_with fail
      refine (unhide F3).mono ?_
      rintro e w' ⟨rfl, hw'⟩
      rw [hw']
      clear hw' w'
      go_wp2_with fail
      exact ⟨⟨k + 1, by omega, by go_num, hbw⟩, by simp [intOf]; omega⟩
    · obtain rfl : k = lT.length := by omega
      clear kr
      have hbr0 := hbr
      clear hbr
      go_wp2_with fail
      go_loopw [12] (fun i wr => ∃ k : Nat, k ≤ lI.length ∧ i = .int .i64 k ∧ Below w.heap.size w wr) (fun i _ => lI.length - (intOf i).toNat)
      case atStart => exact ⟨0, by omega, rfl, hbr0⟩
      case round =>
        obtain ⟨k, hk, rfl, hbr⟩ := hrel
        have kr := (unhide Hk).below hbr
        have c9 := cell_of_block (j := 11) kr.mi.wa
        simp at c9
        have hltr := kr.mi.lt
        by_cases hq : k < lI.length
        · have q1 : (k : Int) < (lI.length : Int) := by omega
          have hbw := hbr
          clear kr
          have kw := (unhide Hk).below hbw
          have hl3 := kw.tmi.len
          obtain ⟨n, hn, u0, u1, u2, u3⟩ := kw.tmi.full k hq
          obtain ⟨a0, c0, e0, t0⟩ := u0.lies
          obtain ⟨a1, c1, e1, t1⟩ := u1.lies
          obtain ⟨a2, c2, e2, t2⟩ := u2.lies
          obtain ⟨a3, c3, e3, t3⟩ := u3.lies
          obtain ⟨g, cg, g3, cg3, f1, f2, d, d0, d1, d2⟩ := look_rows kw.mi.t kw.mi.t3 kw.tmi.len k hq
          rw [e0] at d
          rw [e1] at d0
          rw [e2] at d1
          rw [e3] at d2
          obtain ⟨rfl, rfl⟩ : ai1 = some ⟨g, 0, none⟩ ∧ ci1 = cg := by simpa using f1
          obtain ⟨rfl, rfl⟩ : ai3 = some ⟨g3, 0, none⟩ ∧ ci3 = cg3 := by simpa using f2
          have d9 := cell_of_block (j := 11) kw.mi.wa
          have d10 := cell_of_block (j := 12) kw.mi.wa
          simp at d9 d10
          have hltw := kw.mi.lt
          have hgl := block_lt d
          have hg3l := block_lt d0
          obtain ⟨k0, hk0⟩ : ∃ k0, k0 = 3 * k := ⟨_, rfl⟩
          obtain ⟨k1, hk1⟩ : ∃ k1, k1 = 3 * k + 1 := ⟨_, rfl⟩
          obtain ⟨k2, hk2⟩ : ∃ k2, k2 = 3 * k + 2 := ⟨_, rfl⟩
          rw [← hk0] at d0
          rw [← hk1] at d1
          rw [← hk2] at d2
          have wm : IntKind.i64.wrap (-1 - (k : Int)) = -1 - (k : Int) := by rw [IntKind.wrap_i64]; omega
          have w0 : IntKind.i64.wrap (3 * (k : Int)) = (k0 : Int) := by rw [IntKind.wrap_i64]; omega
          have w1' : IntKind.i64.wrap ((k0 : Int) + 1) = (k1 : Int) := by rw [IntKind.wrap_i64]; omega
          have w2' : IntKind.i64.wrap ((k0 : Int) + 2) = (k2 : Int) := by rw [IntKind.wrap_i64]; omega
          have b0 : (k0 : Int) < (lI3.length : Int) := by omega
          have b1 : (k1 : Int) < (lI3.length : Int) := by omega
          have b2 : (k2 : Int) < (lI3.length : Int) := by omega
          have F0 := hide (fullItems_any n (-1 - (k : Int)) a0 c0 wr (by unfold maxLen; omega) t0)
          have F1 := hide (fullItems_any (n + 1) (-1 - (k : Int)) a1 c1 wr (by unfold maxLen; omega) t1)
          have F2 := hide (fullItems_any (n + 2) (-1 - (k : Int)) a2 c2 wr (by unfold maxLen; omega) t2)
          have F3 := hide (fullItems_any (n + 3) (-1 - (k : Int)) a3 c3 wr (by unfold maxLen; omega) t3)
          have Hnum := hide (And.intro hk0 (And.intro hk1 hk2))
          clear kw e0 e1 e2 e3 t0 t1 t2 t3 f1 f2 hk0 hk1 hk2 hl3 c9
          go_wp2_with fail
          refine (unhide F0).mono ?_
          rintro e w' ⟨rfl, hw'⟩
          rw [hw']
          clear hw' w'
          go_wp2_with fail
          refine (unhide F1).mono ?_
          rintro e w' ⟨rfl, hw'⟩
          rw [hw']
          clear hw' w'
          go_wp2_with fail
          refine (unhide F2).mono ?_
          rintro e w' ⟨rfl, hw'⟩
          rw [hw']
          clear hw' w'
          go_wp2_with fail
          refine (unhide F3).mono ?_
          rintro e w' ⟨rfl, hw'⟩
          rw [hw']
          clear hw' w'
          go_wp2_with fail
          exact ⟨⟨k + 1, by omega, by go_num, hbw⟩, by simp [intOf]; omega⟩
        · obtain rfl : k = lI.length := by omega
          clear kr
          have hbr1 := hbr
          clear hbr
          go_wp2_with fail
          go_loopw [18] (fun i wr => ∃ k : Nat, k ≤ lE.length ∧ i = .int .i64 k ∧ Below w.heap.size w wr) (fun i _ => lE.length - (intOf i).toNat)
          case atStart => exact ⟨0, by omega, rfl, hbr1⟩
          case round =>
            obtain ⟨k, hk, rfl, hbr⟩ := hrel
            have kr := (unhide Hk).below hbr
            have c9 := cell_of_block (j := 13) kr.me.wa
            simp at c9
            have hltr := kr.me.lt
            by_cases hq : k < lE.length
            · have q1 : (k : Int) < (lE.length : Int) := by omega
              have hbw := hbr
              clear kr
              have kw := (unhide Hk).below hbw
              have hl3 := kw.tme.len
              obtain ⟨n, hn, u0, u1, u2, u3⟩ := kw.tme.full k hq
              obtain ⟨a0, c0, e0, t0⟩ := u0.lies
              obtain ⟨a1, c1, e1, t1⟩ := u1.lies
              obtain ⟨a2, c2, e2, t2⟩ := u2.lies
              obtain ⟨a3, c3, e3, t3⟩ := u3.lies
              obtain ⟨g, cg, g3, cg3, f1, f2, d, d0, d1, d2⟩ := look_rows kw.me.t kw.me.t3 kw.tme.len k hq
              rw [e0] at d
              rw [e1] at d0
              rw [e2] at d1
              rw [e3] at d2
              obtain ⟨rfl, rfl⟩ : ae1 = some ⟨g, 0, none⟩ ∧ ce1 = cg := by simpa using f1
              obtain ⟨rfl, rfl⟩ : ae3 = some ⟨g3, 0, none⟩ ∧ ce3 = cg3 := by simpa using f2
              have d9 := cell_of_block (j := 13) kw.me.wa
              have d10 := cell_of_block (j := 14) kw.me.wa
              simp at d9 d10
              have hltw := kw.me.lt
              have hgl := block_lt d
              have hg3l := block_lt d0
              obtain ⟨k0, hk0⟩ : ∃ k0, k0 = 3 * k := ⟨_, rfl⟩
              obtain ⟨k1, hk1⟩ : ∃ k1, k1 = 3 * k + 1 := ⟨_, rfl⟩
              obtain ⟨k2, hk2⟩ : ∃ k2, k2 = 3 * k + 2 := ⟨_, rfl⟩
              rw [← hk0] at d0
              rw [← hk1] at d1
              rw [← hk2] at d2
              have wm : IntKind.i64.wrap (-1 - (k : Int)) = -1 - (k : Int) := by rw [IntKind.wrap_i64]; omega
              have w0 : IntKind.i64.wrap (3 * (k : Int)) = (k0 : Int) := by rw [IntKind.wrap_i64]; omega
              have w1' : IntKind.i64.wrap ((k0 : Int) + 1) = (k1 : Int) := by rw [IntKind.wrap_i64]; omega
              have w2' : IntKind.i64.wrap ((k0 : Int) + 2) = (k2 : Int) := by rw [IntKind.wrap_i64]; omega
              have b0 : (k0 : Int) < (lE3.length : Int) := by omega
              have b1 : (k1 : Int) < (lE3.length : Int) := by omega
              have b2 : (k2 : Int) < (lE3.length : Int) := by omega
              have F0 := hide (fullEntries_any n (-1 - (k : Int)) a0 c0 wr (by unfold maxLen; omega) t0)
              have F1 := hide (fullEntries_any (n + 1) (-1 - (k : Int)) a1 c1 wr (by unfold maxLen; omega) t1)
              have F2 := hide (fullEntries_any (n + 2) (-1 - (k : Int)) a2 c2 wr (by unfold maxLen; omega) t2)
              have F3 := hide (fullEntries_any (n + 3) (-1 - (k : Int)) a3 c3 wr (by unfold maxLen; omega) t3)
              have Hnum := hide (And.intro hk0 (And.intro hk1 hk2))
              clear kw e0 e1 e2 e3 t0 t1 t2 t3 f1 f2 hk0 hk1 hk2 hl3 c9
              go_wp2_with fail
              refine (unhide F0).mono ?_
              rintro e w' ⟨rfl, hw'⟩
              rw [hw']
              clear hw' w'
              go_wp2_with fail
              refine (unhide F1).mono ?_
              rintro e w' ⟨rfl, hw'⟩
              rw [hw']
              clear hw' w'
              go_wp2_with fail
              refine (unhide F2).mono ?_
              rintro e w' ⟨rfl, hw'⟩
              rw [hw']
              clear hw' w'
              go_wp2_with fail
              refine (unhide F3).mono ?_
              rintro e w' ⟨rfl, hw'⟩
              rw [hw']
              clear hw' w'
              go_wp2_with fail
              exact ⟨⟨k + 1, by omega, by go_num, hbw⟩, by simp [intOf]; omega⟩
            · obtain rfl : k = lE.length := by omega
              clear kr
              go_wp2_with fail
              go_ret
              exact ⟨rfl, hbr⟩
end Go.Proofs.YtjmacegibchplaaGreatDoor
