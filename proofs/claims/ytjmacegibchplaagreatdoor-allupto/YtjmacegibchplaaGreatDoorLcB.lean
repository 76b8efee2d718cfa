import Derived.Test.YtjmacegibchplaaGreatDoorLcA
namespace Go.Proofs.YtjmacegibchplaaGreatDoor
open Go.RowKit Go.Maps Go.WideMaps
set_option linter.unusedVariables false
def SentAt (w : World) (sp : Nat) (s : Nat × Nat × Nat) : Prop := w.heap[sp]? = some (.cells #[.int .i64 (s.1 : Int), .int .i64 (s.2.1 : Int), .int .i64 (s.2.2 : Int)] 52 (0, 0))
theorem SentAt.lt {w : World} {sp : Nat} {s : Nat × Nat × Nat} (h : SentAt w sp s) : sp < w.heap.size := (Array.getElem?_eq_some_iff.1 h).1
theorem SentAt.fr {S : Nat → Prop} {w w' : World} {sp : Nat} {s : Nat × Nat × Nat} (h : SentAt w sp s) (hf : Fr S w w') (hn : ¬ S sp) : SentAt w' sp s := (hf.block sp h.lt hn).trans h
def TEnd (rb : Nat) (v1 v2 : Value) (base : Nat) (room : Int) (sp : Nat) (st' : List (List UInt8 × List UInt8)) (s' : Nat × Nat × Nat) (w w' : World) : Prop :=
 SentAt w' sp s' ∧ ∃ u1 u2, DS w' rb u1 u2 base room st' ∧ Fr (fun x => DSet rb v1 v2 x ∨ x = sp) w w' ∧ ∀ x, DSet rb u1 u2 x → DSet rb v1 v2 x ∨ w.heap.size ≤ x
theorem puts_len (room : Int) : ∀ (l : List (List UInt8)) (st : List (List UInt8 × List UInt8)), (putsP room st l).2.length ≤ st.length + l.length
 | [], st => by simp [putsP]
 | b :: r, st => by
  have h1 := putLen room st b
  have h2 := puts_len room r (putP room st b).2
  simp only [putsP]
  split
  ·simp only [List.length_cons]; omega
  ·simp only [List.length_cons]; omega
theorem puts_sum {M : Nat} {room : Int} (hr : room ≤ (M : Int)) : ∀ (l : List (List UInt8)) (st : List (List UInt8 × List UInt8)), sumP st ≤ M → sumP (putsP room st l).2 ≤ M
 | [], st, h => by simpa [putsP] using h
 | b :: r, st, h => by
  have h1 := put_sum h hr b
  simp only [putsP]
  split
  ·exact h1
  ·exact puts_sum hr r _ h1
set_option maxRecDepth 100000 in
set_option maxHeartbeats 4000000 in
theorem refTried_any (l : List (List UInt8)) (ab : Option Addr) (cb : Nat) (batch : Int) (T : Nat) (L : List Int) (a : Option Addr) (c : Nat) (st : List (List UInt8 × List UInt8)) (rb : Nat) (v1 v2 : Value) (base : Nat) (room : Int) (sp : Nat) (s : Nat × Nat × Nat) (w : World) (M : Nat)
  (h : DS w rb v1 v2 base room st) (hbase : base ≤ w.heap.size) (hs : SentAt w sp s) (hsp : ¬ DSet rb v1 v2 sp) (ht : TextsAt w ab l) (hne : ∀ b o q, ab = some ⟨b, o, q⟩ → ¬ DSet rb v1 v2 b ∧ b ≠ sp ∧ b < w.heap.size)
  (hi : IntsAt w a L) (hin : ∀ b o, a = some ⟨b, o, none⟩ → L ≠ [] → ¬ DSet rb v1 v2 b ∧ b ≠ sp) (hL : L.length ≤ maxLen) (hx : ∀ x ∈ l, x.length ≤ 10000000) (hl : l.length ≤ 100) (hby : bytesP l ≤ 1000000000) (hT : T ≤ 9)
  (hsb : s.1 ≤ 1000000000 ∧ s.2.1 ≤ 1000000000 ∧ s.2.2 ≤ 1000000000) (hlen : st.length ≤ 900000000) (hsum : sumP st ≤ M) (hM : M ≤ 1000000000000) (hr : room ≤ (M : Int)) :
  Calls Tryz.prog 191 #[.pointer (some ⟨rb, 0, none⟩), .slice ab l.length cb, planV (T : Int) batch a L.length c, .pointer (some ⟨sp, 0, none⟩)] w fun e w' =>
   e = .returned (.int .i64 (tryP room L l T st s).1) ∧ TEnd rb v1 v2 base room sp (tryP room L l T st s).2.1 (tryP room L l T st s).2.2 w w' := by
 have hb1 : Below w.heap.size w (w.alloc (.cells #[.int .i64 (T : Int), .int .i64 batch, .slice a L.length c] 57)) := (Below.refl _ _).alloc (Nat.le_refl _) _
 have hpl := heap_alloc_new w (.cells #[.int .i64 (T : Int), .int .i64 batch, .slice a L.length c] 57)
 have hsz1 : (w.alloc (.cells #[.int .i64 (T : Int), .int .i64 batch, .slice a L.length c] 57)).heap.size = w.heap.size + 1 := by simp
 obtain ⟨W1, hW1⟩ : ∃ W1, w.alloc (.cells #[.int .i64 (T : Int), .int .i64 batch, .slice a L.length c] 57) = W1 := ⟨_, rfl⟩
 rw [hW1] at hb1 hpl hsz1
 have h1 : DS W1 rb v1 v2 base room st := DSt.below h hb1 (Nat.le_refl _)
 have hs1 : SentAt W1 sp s := (hb1.block sp hs.lt).trans hs
 have ht1 := ht.below hb1 (Nat.le_refl _)
 have hi1 := hi.below hb1 (Nat.le_refl _)
 have npl : ¬ (DSet rb v1 v2 w.heap.size ∨ w.heap.size = sp) := by
  rintro (hd | hd)
  ·have := h.setLt _ hd; omega
  ·have := hs.lt; omega
 have hspw := hs.lt
 have hputs : ∀ (W : World) (u1 u2 : Value) (sk : List (List UInt8 × List UInt8)) (s' : Nat × Nat × Nat), SentAt W sp s' → DS W rb u1 u2 base room sk → Fr (fun x => DSet rb v1 v2 x ∨ x = sp) W1 W → (∀ x, DSet rb u1 u2 x → DSet rb v1 v2 x ∨ W1.heap.size ≤ x) → sk.length ≤ 900010000 → sumP sk ≤ M →
   Calls Tryz.prog 218 #[.pointer (some ⟨rb, 0, none⟩), .slice ab l.length cb] W fun e w' => e = .returned (.int .i64 (putsP room sk l).1) ∧ SentAt w' sp s' ∧ ∃ u1' u2', DS w' rb u1' u2' base room (putsP room sk l).2 ∧ Fr (fun x => DSet rb v1 v2 x ∨ x = sp) W1 w' ∧ ∀ x, DSet rb u1' u2' x → DSet rb v1 v2 x ∨ W1.heap.size ≤ x := by
  intro W u1 u2 sk s' hse hd hf hsub hsl hss
  refine (refPuts_any l ab cb sk rb u1 u2 base room W M hd (by have := hf.size; omega) (ht1.fr hf (fun b o q e => by have := hne b o q e; rintro (hh | hh); exact this.1 hh; exact this.2.1 hh)) ?_ hx (by omega) hss hM hr).mono ?_
  ·intro b o q e hh
   rcases hsub b hh with h2 | h2
   ·exact (hne b o q e).1 h2
   ·have := (hne b o q e).2.2; omega
  ·rintro e w' ⟨rfl, -, -, y1, y2, d, f, t⟩
   refine ⟨rfl, hse.fr f (fun hh => ?_), y1, y2, d, fr_comp hf f (fun x hx => (hsub x hx).imp .inl id), fun x hx => ?_⟩
   ·rcases hsub sp hh with h2 | h2
    ·exact hsp h2
    ·omega
   ·rcases t x hx with h2 | h2
    ·exact hsub x h2
    ·exact .inr (Nat.le_trans hf.size h2)
 have hback : ∀ (W : World) (u1 u2 : Value) (st' : List (List UInt8 × List UInt8)) (s' : Nat × Nat × Nat), SentAt W sp s' → DS W rb u1 u2 base room st' → Fr (fun x => DSet rb v1 v2 x ∨ x = sp) W1 W → (∀ x, DSet rb u1 u2 x → DSet rb v1 v2 x ∨ W1.heap.size ≤ x) → TEnd rb v1 v2 base room sp st' s' w W := fun W u1 u2 st' s' hs' hd' hf' hx' =>
  ⟨hs', u1, u2, hd', (Fr.below hb1).trans hf', fun x hx2 => by rcases hx' x hx2 with h2 | h2; exact .inl h2; exact .inr (by omega)⟩
 have Hputs := hide hputs
 have Hback := hide hback
 have HW1 := hide hW1
 have Hst := hide (And.intro h1 (And.intro hs1 hi1))
 have hrbl := h1.lt
 clear hputs hback hW1 h h1 hs hs1 hi hi1 ht hb1
 unfold planV
 go_enter Tryz.func191, Tryz.ntmps191
 go_wp2_with fail
 rw [unhide HW1]
 go_loopw [9, 10] (fun bv i wr => ∃ k : Nat, k ≤ l.length ∧ i = .int .i64 k ∧ bv = .int .i64 ((bytesP (l.take k) : Nat) : Int) ∧ W1 = wr) (fun _ i _ => l.length - (intOf i).toNat)
 case atStart => exact ⟨0, by omega, rfl, by simp [bytesP], rfl⟩
 case round =>
  obtain ⟨k, hk, rfl, rfl, rfl⟩ := hrel
  by_cases hlt : k < l.length
  ·obtain ⟨b, o, rfl, hct⟩ : ∃ b o, ab = some ⟨b, o, none⟩ ∧ ∀ i (h : i < l.length), W1.cell? ⟨b, o + i, none⟩ = some (strVal l[i]) := by
    rcases ht1 with h | h
    ·subst h; simp at hlt
    ·exact h
   have ck := hct k hlt
   unfold strVal at ck
   have q1 : (k : Int) < (l.length : Int) := by omega
   have hbz := bs_size l[k]
   have hbk := hide (bytes_succ l k hlt)
   have hbt := bytes_take l (k + 1)
   have hbk' := bytes_succ l k hlt
   clear hct ht1
   generalize l[k] = x at *
   generalize hQ : bytesP (l.take k) = bq at *
   generalize hR : bytesP (l.take (k + 1)) = br at *
   go_wp2_with fail
   exact ⟨⟨k + 1, by omega, by go_num, by rw [hR, unhide hbk]; first | rfl | go_num, by first | rfl | trivial⟩, by simp [intOf]; omega⟩
  ·obtain rfl : k = l.length := by omega
   rw [List.take_length]
   clear ht1
   have Hst' := hide (And.intro (unhide Hst).1 (And.intro (unhide Hst).2.1 (unhide Hst).2.2))
   clear Hst
   go_wp2_with fail
   go_loopw [11] (fun i wr => ∃ (k : Nat) (sk : List (List UInt8 × List UInt8)) (sn : Nat × Nat × Nat) (u1 u2 : Value), k ≤ T ∧ i = .int .i64 k ∧ SentAt wr sp sn ∧ DS wr rb u1 u2 base room sk ∧ Fr (fun x => DSet rb v1 v2 x ∨ x = sp) W1 wr ∧ (∀ x, DSet rb u1 u2 x → DSet rb v1 v2 x ∨ W1.heap.size ≤ x) ∧ tryP room L l T st s = tryP room L l (T - k) sk sn ∧
    (sn.1 ≤ 1000000000 + k ∧ sn.2.1 ≤ 1000000000 + 100 * k ∧ sn.2.2 ≤ 1000000000 + 1000000000 * k) ∧ sk.length ≤ st.length + 200 * k ∧ sumP sk ≤ M) (fun i _ => T - (intOf i).toNat)
   case atStart => exact ⟨0, st, s, v1, v2, by omega, rfl, (unhide Hst').2.1, (unhide Hst').1, fr_refl _ _, fun x hx => .inl hx, rfl, by omega, by omega, hsum⟩
   case round =>
    obtain ⟨k, sk, ⟨s1, s2, s3⟩, u1, u2, hk, rfl, hsn, hd, hfr, hsub, heq, hsnb, hskl, hsks⟩ := hrel
    simp only at hsnb
    obtain ⟨hn1, hn2, hn3⟩ := hsnb
    have hplr := (hfr.block _ (by omega) npl).trans hpl
    have hsn0 : wr.heap[sp]? = some (.cells #[.int .i64 (s1 : Int), .int .i64 (s2 : Int), .int .i64 (s3 : Int)] 52 (0, 0)) := hsn
    have c0 := cell_of_block (j := 0) hsn0
    have c1 := cell_of_block (j := 1) hsn0
    have c2 := cell_of_block (j := 2) hsn0
    have f0 := free_block (j := 0) hsn0
    have f1 := free_block (j := 1) hsn0
    have f2 := free_block (j := 2) hsn0
    have p0 := cell_of_block (j := 0) hplr
    have p2 := cell_of_block (j := 2) hplr
    simp only [List.getElem?_toArray, List.getElem?_cons_zero, List.getElem?_cons_succ] at c0 c1 c2 p0 p2
    have hspl := hsn.lt
    have hnbl := (Array.getElem?_eq_some_iff.1 hplr).1
    have hnsp : w.heap.size ≠ sp := fun e => npl (.inr e)
    have hir := (unhide Hst').2.2.fr hfr (fun b o e hl0 => by have := hin b o e hl0; rintro (hh | hh); exact this.1 hh; exact this.2 hh)
    by_cases hlt : k < T
    ·have q1 : (k : Int) < (T : Int) := by omega
     obtain ⟨m, hm⟩ : ∃ m, T - k = m + 1 := ⟨T - k - 1, by omega⟩
     have hm' : T - (k + 1) = m := by omega
     rw [hm] at heq
     simp only [tryP] at heq
     have Hall := hide (And.intro hsn0 (And.intro hd (And.intro hfr hsub)))
     have Heq := hide heq
     -- what the counting leaves
     have hz : ∀ W : World, W.heap = wr.heap → Below wr.heap.size wr W → ∀ Wz, ((W.setCell ⟨sp, 0, none⟩ (.int .i64 ((s1 : Int) + 1))).setCell ⟨sp, 1, none⟩ (.int .i64 ((s2 : Int) + (l.length : Int)))).setCell ⟨sp, 2, none⟩ (.int .i64 ((s3 : Int) + ((bytesP l : Nat) : Int))) = Wz →
       SentAt Wz sp (s1 + 1, s2 + l.length, s3 + bytesP l) ∧ DS Wz rb u1 u2 base room sk ∧ Fr (fun x => DSet rb v1 v2 x ∨ x = sp) W1 Wz ∧ Fr (fun x => x = sp) wr Wz := by
      intro W hWh hWb Wz hWz
      have hf1 : Fr (fun x => x = sp) wr Wz := by
       rw [← hWz]
       exact (((Fr.below hWb).trans (Fr.set (S := fun x => x = sp) _ _ _ _ rfl)).trans (Fr.set (S := fun x => x = sp) _ _ _ _ rfl)).trans (Fr.set (S := fun x => x = sp) _ _ _ _ rfl)
      refine ⟨?_, ?_, (unhide Hall).2.2.1.trans (hf1.mono (fun x hx => .inr hx)), hf1⟩
      ·have g0 : W.heap[sp]? = some (.cells #[.int .i64 (s1 : Int), .int .i64 (s2 : Int), .int .i64 (s3 : Int)] 52 (0, 0)) := by rw [hWh]; exact (unhide Hall).1
       have g1 := heap_setCell_same W sp 0 _ _ (.int .i64 ((s1 : Int) + 1)) g0
       have g2 := heap_setCell_same _ sp 1 _ _ (.int .i64 ((s2 : Int) + (l.length : Int))) g1
       have g3 := heap_setCell_same _ sp 2 _ _ (.int .i64 ((s3 : Int) + ((bytesP l : Nat) : Int))) g2
       rw [hWz] at g3
       exact g3
      ·refine DSt.fr (unhide Hall).2.1 hf1 (fun x hx hxs => ?_)
       rcases (unhide Hall).2.2.2 x hx with h2 | h2
       ·rw [hxs] at h2; exact hsp h2
       ·rw [hxs] at h2; omega
     have hp2 : ∀ W : World, W.heap = wr.heap → Below wr.heap.size wr W → ∀ Wz, ((W.setCell ⟨sp, 0, none⟩ (.int .i64 ((s1 : Int) + 1))).setCell ⟨sp, 1, none⟩ (.int .i64 ((s2 : Int) + (l.length : Int)))).setCell ⟨sp, 2, none⟩ (.int .i64 ((s3 : Int) + ((bytesP l : Nat) : Int))) = Wz →
       Calls Tryz.prog 218 #[.pointer (some ⟨rb, 0, none⟩), .slice ab l.length cb] Wz fun e w' => e = .returned (.int .i64 (putsP room sk l).1) ∧ SentAt w' sp (s1 + 1, s2 + l.length, s3 + bytesP l) ∧ ∃ u1' u2', DS w' rb u1' u2' base room (putsP room sk l).2 ∧ Fr (fun x => DSet rb v1 v2 x ∨ x = sp) W1 w' ∧ ∀ x, DSet rb u1' u2' x → DSet rb v1 v2 x ∨ W1.heap.size ≤ x := by
      intro W hWh hWb Wz hWz
      obtain ⟨g1, g2, g3, g4⟩ := hz W hWh hWb Wz hWz
      exact unhide Hputs Wz u1 u2 sk _ g1 g2 g3 (unhide Hall).2.2.2 (by omega) hsks
     have hpl1 := puts_len room l sk
     have hps1 := puts_sum hr l sk hsks
     have Hz := hide hz
     have Hp2 := hide hp2
     clear hp2
     clear hsn hsn0 hd hfr hsub heq hz Hst' hplr
     by_cases hsl : s1 < L.length
     ·obtain ⟨b, o, rfl, hci⟩ : ∃ b o, a = some ⟨b, o, none⟩ ∧ ∀ i (h : i < L.length), wr.cell? ⟨b, o + i, none⟩ = some (.int .i64 L[i]) := by
       rcases hir with h | h
       ·subst h; simp at hsl
       ·exact h
      have ck := hci s1 hsl
      have q2 : (s1 : Int) < (L.length : Int) := by omega
      have hgd : L.getD s1 0 = L[s1] := by rw [List.getD_eq_getElem?_getD, List.getElem?_eq_getElem hsl]; rfl
      rw [hgd] at Heq
      generalize L[s1] = f at *
      have hbk := block_lt ck
      clear hci hir hgd
      by_cases e1 : f = 1
      ·subst e1
       have Hr := hide (show tryP room L l T st s = tryP room L l (T - (k + 1)) sk (s1 + 1, s2 + l.length, s3 + bytesP l) by rw [unhide Heq, hm', if_pos rfl])
       clear Heq Hp2
       go_wp2_with fail
       go_quiet (fail)
       go_wp2_with fail
       go_quiet (fail)
       go_wp2_with fail
       refine ⟨⟨k + 1, sk, (s1 + 1, s2 + l.length, s3 + bytesP l), u1, u2, by omega, by go_num, (unhide Hz _ (by rfl) (by exact below_drewN (Below.refl _ _) _) _ rfl).1, (unhide Hz _ (by rfl) (by exact below_drewN (Below.refl _ _) _) _ rfl).2.1, (unhide Hz _ (by rfl) (by exact below_drewN (Below.refl _ _) _) _ rfl).2.2.1, (unhide Hall).2.2.2, unhide Hr, by simp only; omega, by omega, hsks⟩, by simp [intOf]; omega⟩
      ·have b1 : (f == 1) = false := by simpa using e1
       have Heq' := hide ((unhide Heq).trans (if_neg e1))
       clear Heq Hz
       go_wp2_with fail
       go_quiet (fail)
       go_wp2_with fail
       go_quiet (fail)
       go_wp2_with fail
       refine (unhide Hp2 _ (by rfl) (by exact below_drewN (Below.refl _ _) _) _ rfl).mono ?_
       rintro e w2 ⟨rfl, hs2, y1, y2, d2, f2', t2⟩
       clear Hp2 Hall c0 c1 c2 f0 f1 f2 p0 p2 ck
       by_cases e3 : f = 3
       ·subst e3
        have Hr := hide (show tryP room L l T st s = ((putsP room (putsP room sk l).2 l).1, (putsP room (putsP room sk l).2 l).2, (s1 + 1, s2 + l.length, s3 + bytesP l)) by rw [unhide Heq']; simp)
        have H3 := hide (unhide Hputs w2 y1 y2 _ _ hs2 d2 f2' t2 (by omega) hps1)
        clear Heq' hs2 d2 f2' t2
        generalize putsP room (putsP room sk l).2 l = q3 at *
        go_wp2_with fail
        refine (unhide H3).mono ?_
        rintro e w3 ⟨rfl, hs3, z1, z2, d3, f3, t3⟩
        have Hend := hide (unhide Hback w3 z1 z2 _ _ hs3 d3 f3 t3)
        clear H3 hs3 d3 f3 t3
        go_wp2_with fail
        go_ret
        exact ⟨ret_int (by rw [unhide Hr]), by rw [unhide Hr]; exact unhide Hend⟩
       ·have b3 : (f == 3) = false := by simpa using e3
        by_cases e2 : f = 2
        ·subst e2
         have Hr := hide (show tryP room L l T st s = tryP room L l (T - (k + 1)) (putsP room sk l).2 (s1 + 1, s2 + l.length, s3 + bytesP l) by rw [unhide Heq', hm']; simp)
         have Hst2 := hide (And.intro hs2 (And.intro d2 (And.intro f2' t2)))
         clear Heq' hs2 d2 f2' t2
         generalize putsP room sk l = q2' at *
         go_wp2_with fail
         exact ⟨⟨k + 1, q2'.2, (s1 + 1, s2 + l.length, s3 + bytesP l), y1, y2, by omega, by go_num, (unhide Hst2).1, (unhide Hst2).2.1, (unhide Hst2).2.2.1, (unhide Hst2).2.2.2, unhide Hr, by simp only; omega, by omega, hps1⟩, by simp [intOf]; omega⟩
        ·have b2 : (f == 2) = false := by simpa using e2
         have Hr := hide (show tryP room L l T st s = ((putsP room sk l).1, (putsP room sk l).2, (s1 + 1, s2 + l.length, s3 + bytesP l)) by rw [unhide Heq']; simp [e3, e2])
         have Hend := hide (unhide Hback w2 y1 y2 _ _ hs2 d2 f2' t2)
         clear Heq' hs2 d2 f2' t2
         generalize putsP room sk l = q2' at *
         go_wp2_with fail
         go_ret
         exact ⟨ret_int (by rw [unhide Hr]), by rw [unhide Hr]; exact unhide Hend⟩
     ·have g2 : decide ((s1 : Int) < (L.length : Int)) = false := decide_eq_false (by omega)
      have hgd : L.getD s1 0 = 0 := by rw [List.getD_eq_getElem?_getD, List.getElem?_eq_none (by omega)]; rfl
      rw [hgd] at Heq
      have Hr := hide (show tryP room L l T st s = ((putsP room sk l).1, (putsP room sk l).2, (s1 + 1, s2 + l.length, s3 + bytesP l)) by rw [unhide Heq]; simp)
      clear hir hgd Heq Hz
      go_wp2_with fail
      go_quiet (fail)
      go_wp2_with fail
      refine (unhide Hp2 _ (by rfl) (by exact below_drewN (Below.refl _ _) _) _ rfl).mono ?_
      rintro e w2 ⟨rfl, hs2, y1, y2, d2, f2', t2⟩
      have Hend := hide (unhide Hback w2 y1 y2 _ _ hs2 d2 f2' t2)
      clear Hp2 Hall c0 c1 c2 f0 f1 f2 p0 p2 hs2 d2 f2' t2
      generalize putsP room sk l = q2' at *
      go_wp2_with fail
      go_ret
      exact ⟨ret_int (by rw [unhide Hr]), by rw [unhide Hr]; exact unhide Hend⟩
    ·obtain rfl : k = T := by omega
     have Hend := hide (unhide Hback wr u1 u2 sk (s1, s2, s3) hsn hd hfr hsub)
     have Hr := hide (show tryP room L l k st s = (10, sk, (s1, s2, s3)) by rw [heq, Nat.sub_self]; rfl)
     clear hsn hd hfr hsub heq hplr hsn0 hir Hst'
     go_wp2_with fail
     go_ret
     exact ⟨ret_int (by rw [unhide Hr]), by rw [unhide Hr]; exact unhide Hend⟩
end Go.Proofs.YtjmacegibchplaaGreatDoor