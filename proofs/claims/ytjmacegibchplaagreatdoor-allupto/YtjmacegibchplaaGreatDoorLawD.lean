import Derived.Test.YtjmacegibchplaaGreatDoorLbB
import Derived.Test.YtjmacegibchplaaGreatDoorLawC
import Derived.Test.YtjmacegibchplaaGreatDoorLcC
namespace Go.Proofs.YtjmacegibchplaaGreatDoor
open Go.RowKit Go.Maps Go.WideMaps
set_option linter.unusedVariables false
def Kp (w : World) (wb base : Nat) (ps : Value) (B : Nat → Prop) (N : Nat) : Prop :=
 ∃ (came : Int) (kT wT kI wI kE wE tx tx3 it it3 en en3 : Value) (lT lT3 lI lI3 lE lE3 : List Value) (T : List (List UInt8)) (I : List P.It) (E : List En) (Mk : Nat → Prop), Kt w wb base came kT wT kI wI kE wE ps tx tx3 it it3 en en3 lT lT3 lI lI3 lE lE3 T I E Mk ∧
  (∀ x, KS wb kT wT kI wI kE wE tx tx3 it it3 en en3 Mk x → B x) ∧ (∀ x, B x → x < w.heap.size) ∧ (lT.length ≤ N ∧ lI.length ≤ N ∧ lE.length ≤ N ∧ 0 ≤ came ∧ came ≤ N)
section
variable {w w' : World} {wb base N : Nat} {ps : Value} {B : Nat → Prop}
theorem Kp.fr {S : Nat → Prop} (h : Kp w wb base ps B N) (hf : Fr S w w') (hn : ∀ x, B x → ¬ S x) : Kp w' wb base ps B N := by
 obtain ⟨came, kT, wT, kI, wI, kE, wE, tx, tx3, it, it3, en, en3, lT, lT3, lI, lI3, lE, lE3, T, I, E, Mk, hk, hB, hlt, hl⟩ := h
 exact ⟨came, kT, wT, kI, wI, kE, wE, tx, tx3, it, it3, en, en3, lT, lT3, lI, lI3, lE, lE3, T, I, E, Mk, hk.fr hf (fun x hx => hn x (hB x hx)), hB, fun x hx => Nat.lt_of_lt_of_le (hlt x hx) hf.size, hl⟩
theorem Kp.below (h : Kp w wb base ps B N) (hb : Below w.heap.size w w') : Kp w' wb base ps B N := h.fr (S := fun _ => False) (Fr.below hb) (fun _ _ h => h)
theorem Kp.mono {M : Nat} (h : Kp w wb base ps B N) (hm : N ≤ M) : Kp w wb base ps B M := by
 obtain ⟨came, kT, wT, kI, wI, kE, wE, tx, tx3, it, it3, en, en3, lT, lT3, lI, lI3, lE, lE3, T, I, E, Mk, hk, hB, hlt, h1, h2, h3, h4, h5⟩ := h
 exact ⟨came, kT, wT, kI, wI, kE, wE, tx, tx3, it, it3, en, en3, lT, lT3, lI, lI3, lE, lE3, T, I, E, Mk, hk, hB, hlt, by omega, by omega, by omega, h4, by omega⟩
theorem Kp.setLt (h : Kp w wb base ps B N) (x : Nat) (hx : B x) : x < w.heap.size := by
 obtain ⟨came, kT, wT, kI, wI, kE, wE, tx, tx3, it, it3, en, en3, lT, lT3, lI, lI3, lE, lE3, T, I, E, Mk, hk, hB, hlt, hl⟩ := h
 exact hlt x hx
theorem Kp.wa (h : Kp w wb base ps B N) : B wb ∧ ∃ cur, w.heap[wb]? = some (.cells cur 90 (0, 0)) ∧ w.cell? ⟨wb, 8, none⟩ = some ps := by
 obtain ⟨came, kT, wT, kI, wI, kE, wE, tx, tx3, it, it3, en, en3, lT, lT3, lI, lI3, lE, lE3, T, I, E, Mk, hk, hB, hlt, hl⟩ := h
 have h8 := cell_of_block (j := 8) hk.ms.wa
 simp at h8
 exact ⟨hB wb (.inl (.inl rfl)), _, hk.ms.wa, h8⟩
theorem Kp.put8 (h : Kp w wb base ps B N) (ps' : Value) : Kp (w.setCell ⟨wb, 8, none⟩ ps') wb base ps' B N := by
 obtain ⟨came, kT, wT, kI, wI, kE, wE, tx, tx3, it, it3, en, en3, lT, lT3, lI, lI3, lE, lE3, T, I, E, Mk, h, hB, hlt, hl⟩ := h
 have hf : Fr (fun x => x = wb) w (w.setCell ⟨wb, 8, none⟩ ps') := Fr.set w wb 8 ps' rfl
 have wa' : WorldAt (w.setCell ⟨wb, 8, none⟩ ps') wb came kT wT kI wI kE wE ps' tx tx3 it it3 en en3 := heap_setCell_same w wb 8 _ _ ps' h.ms.wa
 have row : ∀ {e : TypeId} {s n : Nat} {u : Value} {xs : List Value}, w.ownsRow base e s u n xs → e ≠ 90 → (w.setCell ⟨wb, 8, none⟩ ps').ownsRow base e s u n xs := fun ho hne => ownsRow_same ho (fun g eg => hf.block g (own_lt ho eg) (fun e2 => row_neS ho h.ms.wa hne (by rw [eg, e2])))
 have hmk : ∀ x, Mk x → ¬ x = wb := fun x hx e => (h.mt x hx).1 (.inl e)
 refine ⟨came, kT, wT, kI, wI, kE, wE, tx, tx3, it, it3, en, en3, lT, lT3, lI, lI3, lE, lE3, T, I, E, Mk, ?_, hB, fun x hx => Nat.lt_of_lt_of_le (hlt x hx) hf.size, hl⟩
 exact {
  ms := ⟨wa', row h.ms.t (by decide), row h.ms.t3 (by decide), h.ms.ne⟩
  mi := ⟨wa', row h.mi.t (by decide), row h.mi.t3 (by decide), h.mi.ne⟩
  me := ⟨wa', row h.me.t (by decide), row h.me.t3 (by decide), h.me.ne⟩
  kt := row h.kt (by decide)
  wt := row h.wt (by decide)
  ki := row h.ki (by decide)
  wi := row h.wi (by decide)
  ke := row h.ke (by decide)
  we := row h.we (by decide)
  nt := h.nt
  ni := h.ni
  ne := h.ne
  lt := h.lt
  li := h.li
  le := h.le
  tm := h.tm.fr hf hmk
  tmi := h.tmi.fr hf hmk
  tme := h.tme.fr hf hmk
  mt := fun x hx => ⟨(h.mt x hx).1, (h.mt x hx).2.1, (h.mt x hx).2.2.1, Nat.lt_of_lt_of_le (h.mt x hx).2.2.2 hf.size⟩
  mi' := h.mi'
  me' := h.me' }
theorem Kp.looks (h : Kp w wb base ps B N) (hN : N ≤ 4000000) :
  Calls Tryz.prog 50 #[.pointer (some ⟨wb, 0, none⟩)] w fun e w' => e = .returned (.bool true) ∧ Below w.heap.size w w' := by
 obtain ⟨came, kT, wT, kI, wI, kE, wE, tx, tx3, it, it3, en, en3, lT, lT3, lI, lI3, lE, lE3, T, I, E, Mk, hk, hB, hlt, h1, h2, h3, h4, h5⟩ := h
 exact looks_any hk (by omega) (by omega) (by omega)
theorem Kp.takeT {v : Value} {lv : List (List UInt8)} (h : Kp w wb base ps B N) (hv : OwnsS w base v lv) (hvn : ∀ x, v.ownBlock = some x → ¬ B x) (hlv : lv.length ≤ 1200000) (hN : N ≤ 4000000) (hbase : base ≤ w.heap.size) :
  Calls Tryz.prog 77 #[.pointer (some ⟨wb, 0, none⟩), v] w fun e w' => e = .returned (.tuple #[]) ∧ Kp w' wb base ps (fun x => (B x ∨ v.ownBlock = some x ∨ w.heap.size ≤ x) ∧ x < w'.heap.size) (N + 2) ∧ Fr (fun x => B x ∨ v.ownBlock = some x) w w' := by
 obtain ⟨came, kT, wT, kI, wI, kE, wE, tx, tx3, it, it3, en, en3, lT, lT3, lI, lI3, lE, lE3, T, I, E, Mk, hk, hB, hlt, h1, h2, h3, h4, h5⟩ := h
 refine (hk.takeT hv (fun x hx hs => hvn x hx (hB x hs)) hlv (by omega) hbase h4 (by omega)).mono ?_
 rintro e w' ⟨rfl, kT', wT', tx', tx3', lT', lT3', T', Mk', hk', hs, hl, hf⟩
 refine ⟨rfl, ⟨came + 1, kT', wT', kI, wI, kE, wE, tx', tx3', it, it3, en, en3, lT', lT3', lI, lI3, lE, lE3, T', I, E, Mk', hk', fun x hx => ⟨(hs x hx).imp (hB x) id, hk'.setLt x hx⟩, fun x hx => hx.2, by omega, by omega, by omega, by omega, by omega⟩, hf.mono ?_⟩
 rintro x (hx | hx | hx)
 ·exact .inl (hB x (.inl hx))
 ·exact .inl (hB x (.inr (.inr (.inr (.inl hx)))))
 ·exact .inr hx
theorem Kp.takeI {v : Value} {lv : List P.It} (h : Kp w wb base ps B N) (hv : OwnsIt w base v lv) (hvn : ∀ x, v.ownBlock = some x → ¬ B x) (hlv : lv.length ≤ 1200000) (hN : N ≤ 4000000) (hbase : base ≤ w.heap.size) :
  Calls Tryz.prog 76 #[.pointer (some ⟨wb, 0, none⟩), v] w fun e w' => e = .returned (.tuple #[]) ∧ Kp w' wb base ps (fun x => (B x ∨ v.ownBlock = some x ∨ w.heap.size ≤ x) ∧ x < w'.heap.size) (N + 2) ∧ Fr (fun x => B x ∨ v.ownBlock = some x) w w' := by
 obtain ⟨came, kT, wT, kI, wI, kE, wE, tx, tx3, it, it3, en, en3, lT, lT3, lI, lI3, lE, lE3, T, I, E, Mk, hk, hB, hlt, h1, h2, h3, h4, h5⟩ := h
 refine (hk.takeI hv (fun x hx hs => hvn x hx (hB x hs)) hlv (by omega) hbase h4 (by omega)).mono ?_
 rintro e w' ⟨rfl, kI', wI', it', it3', lI', lI3', I', Mk', hk', hs, hl, hf⟩
 refine ⟨rfl, ⟨came + 1, kT, wT, kI', wI', kE, wE, tx, tx3, it', it3', en, en3, lT, lT3, lI', lI3', lE, lE3, T, I', E, Mk', hk', fun x hx => ⟨(hs x hx).imp (hB x) id, hk'.setLt x hx⟩, fun x hx => hx.2, by omega, by omega, by omega, by omega, by omega⟩, hf.mono ?_⟩
 rintro x (hx | hx | hx)
 ·exact .inl (hB x (.inr (.inl hx)))
 ·exact .inl (hB x (.inr (.inr (.inr (.inr (.inr (.inl hx)))))))
 ·exact .inr hx
theorem Kp.takeE {v : Value} {lv : List En} (h : Kp w wb base ps B N) (hv : OwnsE w base v lv) (hvn : ∀ x, v.ownBlock = some x → ¬ B x) (hlv : lv.length ≤ 1200000) (hN : N ≤ 4000000) (hbase : base ≤ w.heap.size) :
  Calls Tryz.prog 124 #[.pointer (some ⟨wb, 0, none⟩), v] w fun e w' => e = .returned (.tuple #[]) ∧ Kp w' wb base ps (fun x => (B x ∨ v.ownBlock = some x ∨ w.heap.size ≤ x) ∧ x < w'.heap.size) (N + 2) ∧ Fr (fun x => B x ∨ v.ownBlock = some x) w w' := by
 obtain ⟨came, kT, wT, kI, wI, kE, wE, tx, tx3, it, it3, en, en3, lT, lT3, lI, lI3, lE, lE3, T, I, E, Mk, hk, hB, hlt, h1, h2, h3, h4, h5⟩ := h
 refine (hk.takeE hv (fun x hx hs => hvn x hx (hB x hs)) hlv (by omega) hbase h4 (by omega)).mono ?_
 rintro e w' ⟨rfl, kE', wE', en', en3', lE', lE3', E', Mk', hk', hs, hl, hf⟩
 refine ⟨rfl, ⟨came + 1, kT, wT, kI, wI, kE', wE', tx, tx3, it, it3, en', en3', lT, lT3, lI, lI3, lE', lE3', T, I, E', Mk', hk', fun x hx => ⟨(hs x hx).imp (hB x) id, hk'.setLt x hx⟩, fun x hx => hx.2, by omega, by omega, by omega, by omega, by omega⟩, hf.mono ?_⟩
 rintro x (hx | hx | hx)
 ·exact .inl (hB x (.inr (.inr (.inl hx))))
 ·exact .inl (hB x (.inr (.inr (.inr (.inr (.inr (.inr (.inr (.inl hx)))))))))
 ·exact .inr hx
end
theorem Kp.zero (w : World) (base : Nat) (hb : base ≤ w.heap.size) : Kp (w.alloc (.cells #[.int .i64 0, .bool false, .slice none 0 0, .slice none 0 0, .slice none 0 0, .slice none 0 0, .slice none 0 0, .slice none 0 0, .slice none 0 0, .slice none 0 0, .slice none 0 0, .slice none 0 0, .slice none 0 0, .slice none 0 0, .slice none 0 0] 90)) w.heap.size base (.slice none 0 0) (fun x => x = w.heap.size) 0 := by
 have hw := heap_alloc_new w (.cells #[.int .i64 0, .bool false, .slice none 0 0, .slice none 0 0, .slice none 0 0, .slice none 0 0, .slice none 0 0, .slice none 0 0, .slice none 0 0, .slice none 0 0, .slice none 0 0, .slice none 0 0, .slice none 0 0, .slice none 0 0, .slice none 0 0] 90)
 have hz : ∀ g, (Value.slice none 0 0).ownBlock ≠ some g := fun g e => by simp [Value.ownBlock] at e
 refine ⟨0, .slice none 0 0, .slice none 0 0, .slice none 0 0, .slice none 0 0, .slice none 0 0, .slice none 0 0, .slice none 0 0, .slice none 0 0, .slice none 0 0, .slice none 0 0, .slice none 0 0, .slice none 0 0, [], [], [], [], [], [], [], [], [], fun _ => False, ?_, ?_, ?_, by simp⟩
 ·exact {
   ms := ⟨hw, World.ownsRow_nil _ _ _ _, World.ownsRow_nil _ _ _ _, fun g e => (hz g e).elim⟩
   mi := ⟨hw, World.ownsRow_nil _ _ _ _, World.ownsRow_nil _ _ _ _, fun g e => (hz g e).elim⟩
   me := ⟨hw, World.ownsRow_nil _ _ _ _, World.ownsRow_nil _ _ _ _, fun g e => (hz g e).elim⟩
   kt := World.ownsRow_nil _ _ _ _
   wt := World.ownsRow_nil _ _ _ _
   ki := World.ownsRow_nil _ _ _ _
   wi := World.ownsRow_nil _ _ _ _
   ke := World.ownsRow_nil _ _ _ _
   we := World.ownsRow_nil _ _ _ _
   nt := fun g e => (hz g e).elim
   ni := fun g e => (hz g e).elim
   ne := fun g e => (hz g e).elim
   lt := by simp
   li := by simp
   le := by simp
   tm := ⟨rfl, fun k hk => by simp at hk, fun u hu => by simp at hu⟩
   tmi := ⟨rfl, fun k hk => by simp at hk, fun u hu => by simp at hu⟩
   tme := ⟨rfl, fun k hk => by simp at hk, fun u hu => by simp at hu⟩
   mt := fun x hx => hx.elim
   mi' := fun x hx => hx.elim
   me' := fun x hx => hx.elim }
 ·rintro x ((e | e | e) | (e | e | e) | (e | e | e) | e | e | e | e | e | e | e)
  all_goals first | exact e | exact (hz x e).elim | exact e.elim
 ·rintro x rfl
  simp
set_option maxHeartbeats 2000000 in
theorem pairMissing_nil (pp sb pb um n rb : Nat) (v1 v2 : Value) (base : Nat) (room : Int) (st : List (List UInt8 × List UInt8)) (w : World) (h : Pair w pp sb pb um n rb v1 v2 base room st) (hst : st.length ≤ maxLen) :
  Calls Tryz.prog 120 #[.pointer (some ⟨pp, 0, none⟩), .slice none 0 0] w fun e w' => ∃ v, e = .returned (.tuple #[v, .bool true]) ∧ OwnsS w' w.heap.size v [] ∧ Below w.heap.size w w' := by
 have k0 := cell_of_block (j := 0) h.p
 have k1 := cell_of_block (j := 1) h.p
 simp at k0 k1
 have Hh := hide h
 have hpl := h.lt pp (.inl rfl)
 clear h
 go_enter Tryz.func120, Tryz.ntmps120
 go_wp2_with fail
 refine (textsOf_nil w).mono ?_
 rintro e w' ⟨rfl, hw'⟩
 rw [hw']
 clear hw' w'
 go_wp2_with fail
 refine (cMissing_any st sb pb um n room [] none 0 w (unhide Hh).c (by decide) (.inl rfl) (by simp)).mono ?_
 rintro e W2 ⟨v, rfl, ho2, hb2⟩
 have hm : missTo st [] ([] : List (List UInt8)).length = [] := rfl
 rw [hm] at ho2
 obtain ⟨a2, c2, rfl, ht2, -, -⟩ := OwnsS.texts ho2
 have Hy := hide (And.intro ho2 (And.intro ht2 hb2))
 clear ho2 ht2 hb2 hm
 go_wp2_with fail
 refine (stillTexts_nil W2).mono ?_
 rintro e W3 ⟨rfl, n3, hW3⟩
 obtain ⟨ho2, ht2, hb2⟩ := unhide Hy
 have hb3 : Below W2.heap.size W2 W3 := by rw [hW3]; exact below_drewN (Below.refl _ _) n3
 have hbw3 := hb2.trans (hb3.mono hb2.size)
 have k1' : W3.cell? ⟨pp, 1, none⟩ = some (.pointer (some ⟨rb, 0, none⟩)) := (hbw3.cell (p := ⟨pp, 1, none⟩) hpl).trans k1
 have ho3 := OwnsS.below ho2 hb3
 have ht3 := ht2.below hb3 (Nat.le_refl _)
 have hr3 := ((unhide Hh).d.r).below hbw3 (Nat.le_refl _)
 have Hz := hide (And.intro ho3 (And.intro ht3 hbw3))
 have Hr := hide (refMissing_any st rb room [] none 0 W3 hst hr3 (by decide) (.inl rfl))
 clear ho2 ht2 hb2 hb3 hbw3 ho3 ht3 hr3 hW3 Hy k0 k1
 go_wp2_with fail
 go_loopw [9] (fun i wr => i = .int .i64 0 ∧ W3 = wr) (fun _ _ => 0)
 case atStart => exact ⟨rfl, rfl⟩
 case round =>
  obtain ⟨rfl, rfl⟩ := hrel
  go_wp2_with fail
  refine (unhide Hr).mono ?_
  rintro e W4 ⟨v4, rfl, ho4, hb4⟩
  have hm : missTo st [] ([] : List (List UInt8)).length = [] := rfl
  rw [hm] at ho4
  obtain ⟨a4, c4, rfl, ht4, -, -⟩ := OwnsS.texts ho4
  obtain ⟨ho3, ht3, hbw3⟩ := unhide Hz
  have hbw4 := hbw3.trans (hb4.mono hbw3.size)
  have ho3' := OwnsS.below ho3 hb4
  have Hs := hide (sameTexts_same [] a2 a4 c2 c4 W4 (by decide) (.inl rfl) (.inl rfl))
  have Hq := hide (And.intro ho3' hbw4)
  clear ho4 ht4 ho3 ht3 hbw3 hb4 hbw4 ho3' hm Hr
  go_wp2_with fail
  refine (unhide Hs).mono ?_
  rintro e W5 ⟨rfl, n5, hW5⟩
  have hb5 : Below W4.heap.size W4 W5 := by rw [hW5]; exact below_drewN (Below.refl _ _) n5
  have ho5 := OwnsS.below (unhide Hq).1 hb5
  have hbw5 := (unhide Hq).2.trans (hb5.mono (unhide Hq).2.size)
  clear hW5 hb5 Hq Hs Hz
  go_wp2_with fail
  go_ret2
  exact ⟨_, rfl, ho5, hbw5⟩
set_option maxRecDepth 100000 in
set_option maxHeartbeats 2000000 in
theorem pairMissing_some (l : List (List UInt8)) (ad : Addr) (c : Nat) (pp sb pb um n rb : Nat) (v1 v2 : Value) (base : Nat) (room : Int) (st : List (List UInt8 × List UInt8)) (w : World) (h : Pair w pp sb pb um n rb v1 v2 base room st) (hst : st.length ≤ maxLen)
  (hl : l.length ≤ 1100000) (hi : TextsAt w (some ad) l) (hx : ∀ x ∈ l, x.length ≤ 10000000) :
  Calls Tryz.prog 120 #[.pointer (some ⟨pp, 0, none⟩), .slice (some ad) l.length c] w fun e w' => ∃ v, e = .returned (.tuple #[v, .bool true]) ∧ OwnsS w' w.heap.size v (missTo st l l.length) ∧ Below w.heap.size w w' := by
 have k0 := cell_of_block (j := 0) h.p
 have k1 := cell_of_block (j := 1) h.p
 simp at k0 k1
 have hpl := h.lt pp (.inl rfl)
 have Hh := hide (And.intro h (And.intro hi hx))
 have Hto := hide (textsOf_some l ad c w (by omega) hi)
 clear h hi hx
 go_enter Tryz.func120, Tryz.ntmps120
 go_wp2_with fail
 refine (unhide Hto).mono ?_
 rintro e W1 ⟨rfl, htx, hb1, hfz⟩
 have htl : TxAt W1 w.heap.size 0 l := fun i hi => by
  have := htx i (by rw [tmarked_len l 8 (by omega)]; omega)
  rw [tmarked_lo l i hi] at this
  exact this
 have k0' : W1.cell? ⟨pp, 0, none⟩ = some (.pointer (some ⟨sb, 0, none⟩)) := (hb1.cell (p := ⟨pp, 0, none⟩) hpl).trans k0
 have Hmi := hide (cMissing_any st sb pb um n room l (some ⟨w.heap.size, 0, none⟩) (l.length + 8) W1 ((unhide Hh).1.c.below hb1 (Nat.le_refl _)) hl (.inr ⟨_, _, rfl, htl⟩) (unhide Hh).2.2)
 have hg1 : w.heap.size < W1.heap.size := by
  have := htx 0 (by rw [tmarked_len l 8 (by omega)]; omega)
  exact block_lt this
 have Hw1 := hide (And.intro htx (And.intro hb1 (And.intro hfz htl)))
 clear htx hb1 hfz htl k0 Hto
 go_wp2_with fail
 refine (unhide Hmi).mono ?_
 rintro e W2 ⟨v, rfl, ho2, hb2⟩
 obtain ⟨htx, hb1, hfz, htl⟩ := unhide Hw1
 have hbw2 := hb1.trans (hb2.mono hb1.size)
 have htx2 : TxAt W2 w.heap.size 0 (tmarked l 8) := fun i hi => (hb2.cell (p := ⟨w.heap.size, 0 + i, none⟩) hg1).trans (htx i hi)
 have hfz2 : ∀ j, W2.frozen? ⟨w.heap.size, j, none⟩ = false := fun j => ((bcell hb2).2 w.heap.size j hg1).trans (hfz j)
 have hi2 := (unhide Hh).2.1.below hbw2 (Nat.le_refl _)
 have Hst := hide (stillTexts_some l w.heap.size (some ad) c W2 (by omega) htx2 hi2)
 have hL := missTo_len st l l.length
 obtain ⟨a2, c2, rfl, ht2, -, -⟩ := OwnsS.texts ho2
 generalize hLg : missTo st l l.length = L at *
 have Hw2 := hide (And.intro ho2 (And.intro htx2 (And.intro hfz2 (And.intro hbw2 hb2.size))))
 clear ho2 htx2 hfz2 hbw2 hb2 htx hb1 hfz htl hi2 ht2 Hmi k0'
 go_wp2_with fail
 refine (unhide Hst).mono ?_
 rintro e W3 ⟨rfl, n3, hW3⟩
 obtain ⟨ho2, htx2, hfz2, hbw2, hsz2⟩ := unhide Hw2
 have hb3 : Below W2.heap.size W2 W3 := by rw [hW3]; exact below_drewN (Below.refl _ _) n3
 have hbw3 := hbw2.trans (hb3.mono hbw2.size)
 have ho3 := OwnsS.below ho2 hb3
 have hg2 : w.heap.size < W2.heap.size := by omega
 have hcl3 : ∀ j, j < l.length → ∃ s, W3.cell? ⟨w.heap.size, j, none⟩ = some (.string s) := fun j hj => by
  have := htx2 j (by rw [tmarked_len l 8 (by omega)]; omega)
  rw [Nat.zero_add] at this
  exact ⟨_, (hb3.cell (p := ⟨w.heap.size, j, none⟩) hg2).trans this⟩
 have hfz3 : ∀ j, W3.frozen? ⟨w.heap.size, j, none⟩ = false := fun j => ((bcell hb3).2 w.heap.size j hg2).trans (hfz2 j)
 have Hs3 := hide (And.intro hbw3 (And.intro ho3 (And.intro hcl3 hfz3)))
 clear hb3 hbw3 ho3 hcl3 hfz3 ho2 htx2 hfz2 hbw2 hW3 Hw2 Hw1 Hst
 go_wp2_with fail
 go_loopw [9] (fun i wr => ∃ k : Nat, k ≤ l.length ∧ i = .int .i64 k ∧ Below w.heap.size w wr ∧ OwnsS wr W1.heap.size (.slice a2 L.length c2) L ∧ (∀ j, j < l.length → ∃ s, wr.cell? ⟨w.heap.size, j, none⟩ = some (.string s)) ∧ (∀ j, wr.frozen? ⟨w.heap.size, j, none⟩ = false)) (fun i _ => l.length - (intOf i).toNat)
 case atStart => exact ⟨0, by omega, rfl, (unhide Hs3).1, (unhide Hs3).2.1, (unhide Hs3).2.2.1, (unhide Hs3).2.2.2⟩
 case round =>
  obtain ⟨k, hk, rfl, hbel, hoL, hcl, hfz⟩ := hrel
  clear Hs3
  by_cases hlt : k < l.length
  ·have q1 : (k : Int) < (l.length : Int) := by omega
   obtain ⟨s, hcs⟩ := hcl k hlt
   have hf := hfz k
   have hbl := block_lt hcs
   have Hz := hide (And.intro hbel (And.intro hoL (And.intro hcl hfz)))
   clear hbel hoL hcl hfz
   go_wp2_with fail
   obtain ⟨hbel, hoL, hcl, hfz⟩ := unhide Hz
   refine ⟨⟨k + 1, by omega, by go_num, hbel.setCell (by first | exact Nat.le_refl _ | simp) _, ?_, ?_, fun j => (World.frozen?_setCell _ _ _ _).trans (hfz j)⟩, by simp [intOf]; omega⟩
   ·refine ownsRow_same hoL (fun g e => (grown_setCell wr w.heap.size k _).block g (own_lt hoL e) (fun e2 => ?_))
    have h1 := (World.ownsRow.lt hoL g e).1
    have h2 : g = w.heap.size := by simpa using e2
    omega
   ·intro j hj
    by_cases hjk : j = k
    ·subst hjk
     exact ⟨_, World.cell?_setCell_same _ _ _ hcs⟩
    ·obtain ⟨s', hs'⟩ := hcl j hj
     exact ⟨s', (World.cell?_setCell_other wr ⟨w.heap.size, k, none⟩ ⟨w.heap.size, j, none⟩ _ (by simp)).trans hs'⟩
  ·obtain rfl : k = l.length := by omega
   have k1' : wr.cell? ⟨pp, 1, none⟩ = some (.pointer (some ⟨rb, 0, none⟩)) := (hbel.cell (p := ⟨pp, 1, none⟩) hpl).trans k1
   have Hr := hide (refMissing_any st rb room l (some ad) c wr hst (((unhide Hh).1.d.r).below hbel (Nat.le_refl _)) hl ((unhide Hh).2.1.below hbel (Nat.le_refl _)))
   rw [hLg] at Hr
   have Hz := hide (And.intro hbel hoL)
   clear hbel hoL hcl hfz k1
   go_wp2_with fail
   refine (unhide Hr).mono ?_
   rintro e W4 ⟨v4, rfl, ho4, hb4⟩
   obtain ⟨a4, c4, rfl, ht4, -, -⟩ := OwnsS.texts ho4
   obtain ⟨hbel, hoL⟩ := unhide Hz
   have hbw4 := hbel.trans (hb4.mono hbel.size)
   have ho4' := OwnsS.below hoL hb4
   obtain ⟨a2', c2', e2', ht2', -, -⟩ := OwnsS.texts ho4'
   obtain ⟨rfl, rfl⟩ : a2 = a2' ∧ c2 = c2' := by simpa using e2'
   have Hs := hide (sameTexts_same L a2 a4 c2 c4 W4 (by unfold maxLen; omega) ht2' ht4)
   have Hq := hide (And.intro ho4' hbw4)
   clear ho4 ht4 hbel hoL hb4 hbw4 ho4' ht2' Hr Hz e2'
   go_wp2_with fail
   refine (unhide Hs).mono ?_
   rintro e W5 ⟨rfl, n5, hW5⟩
   have hb5 : Below W4.heap.size W4 W5 := by rw [hW5]; exact below_drewN (Below.refl _ _) n5
   have ho5 := OwnsS.weak (OwnsS.below (unhide Hq).1 hb5) (Nat.le_of_lt hg1)
   have hbw5 := (unhide Hq).2.trans (hb5.mono (unhide Hq).2.size)
   clear hW5 hb5 Hq Hs
   go_wp2_with fail
   go_ret2
   refine ⟨_, rfl, ?_, hbw5⟩
   rw [hLg]
   exact ho5
end Go.Proofs.YtjmacegibchplaaGreatDoor