import Derived.Test.YtjmacegibchplaaGreatDoorLawS
namespace Go.Proofs.YtjmacegibchplaaGreatDoor
open Go.RowKit Go.Maps Go.WideMaps
set_option linter.unusedVariables false
theorem OwnsS.put {w : World} {base g k : Nat} {v : Value} {l : List (List UInt8)} (h : OwnsS w base v l) (hg : v.ownBlock = some g) (m : List UInt8) : OwnsS (w.setCell ⟨g, k, none⟩ (strVal m)) base v (l.set k m) := by
 have := row_set (i := k) (v' := strVal m) h hg
 unfold OwnsS
 rw [List.length_set, List.map_set]
 exact this
def mkTo (m : List UInt8) (ls : List (List UInt8)) (k : Nat) : List (List UInt8) := List.replicate k m ++ ls.drop k
theorem mkTo_len (m : List UInt8) (ls : List (List UInt8)) (k : Nat) (h : k ≤ ls.length) : (mkTo m ls k).length = ls.length := by simp [mkTo]; omega
theorem mkTo_set (m : List UInt8) (ls : List (List UInt8)) (k : Nat) (h : k < ls.length) : (mkTo m ls k).set k m = mkTo m ls (k + 1) := by
 unfold mkTo
 rw [List.set_append_right _ _ (by simp), List.length_replicate, Nat.sub_self, List.drop_eq_getElem_cons h, List.set_cons_zero, List.replicate_succ']
 simp
theorem mkTo_all (m : List UInt8) (ls : List (List UInt8)) : mkTo m ls ls.length = List.replicate ls.length m := by simp [mkTo]
theorem FullS.fr {S : Nat → Prop} {w w' : World} {v : Value} {n : Nat} {m : List UInt8} (h : FullS w v n m) (hf : Fr S w w') (hn : ∀ x, v.ownBlock = some x → ¬ S x) : FullS w' v n m := by
 obtain ⟨a, c, rfl, h⟩ := h
 exact ⟨a, c, rfl, h.fr hf (fun b o q e => hn b (by rw [e]; rfl))⟩
set_option maxRecDepth 100000 in
set_option maxHeartbeats 4000000 in
theorem markTexts_any {wb base : Nat} {came : Int} {kT wT kI wI kE wE ps tx tx3 it it3 en en3 : Value} {l l3 : List Value} (v : Value) (ls : List (List UInt8)) (w : World) (h : MS w wb base came kT wT kI wI kE wE ps tx tx3 it it3 en en3 l l3) (ho : OwnsS w base v ls)
  (hl : l.length ≤ 5000000) (hl3 : l3.length ≤ 15000000) (hn : ls.length ≤ 1200000) (hbase : base ≤ w.heap.size) :
  Calls Tryz.prog 115 #[.pointer (some ⟨wb, 0, none⟩), v] w fun e w' => e = .returned (.tuple #[]) ∧ ∃ v1 v2 v3 tx' tx3', MS w' wb base came kT wT kI wI kE wE ps tx' tx3' it it3 en en3 (l ++ [v]) (l3 ++ [v1, v2, v3]) ∧
   (FullS w' v ls.length (strP l.length) ∧ FullS w' v1 (ls.length + 1) (strP l.length) ∧ FullS w' v2 (ls.length + 2) (strP l.length) ∧ FullS w' v3 (ls.length + 3) (strP l.length)) ∧ Fr (fun x => MSet wb tx tx3 x ∨ v.ownBlock = some x) w w' ∧ (∀ x, MSet wb tx' tx3' x → MSet wb tx tx3 x ∨ w.heap.size ≤ x) ∧
   (∀ x, v1.ownBlock = some x ∨ v2.ownBlock = some x ∨ v3.ownBlock = some x → v.ownBlock = some x ∨ w.heap.size ≤ x) ∧
   (∀ x, v.ownBlock = some x ∨ v1.ownBlock = some x ∨ v2.ownBlock = some x ∨ v3.ownBlock = some x → ¬ MSet wb tx' tx3' x ∧ x < w'.heap.size) := by
 obtain ⟨at', ct, etx⟩ := row_shape h.t
 subst etx
 obtain ⟨at3, ct3, etx3⟩ := row_shape h.t3
 subst etx3
 have k9 := cell_of_block (j := 9) h.wa
 simp at k9
 have Hs := hide (strokes_any l.length w (by omega))
 have hml := strP_len l.length
 generalize strP l.length = m at *
 obtain ⟨av, cv, ev⟩ := row_shape ho
 have Hh := hide (And.intro h ho)
 clear h ho
 subst ev
 go_enter Tryz.func115, Tryz.ntmps115
 go_wp2_with fail
 refine (unhide Hs).mono ?_
 rintro e W1 ⟨rfl, hb1⟩
 obtain ⟨h, ho⟩ := unhide Hh
 have h1 := h.below hb1 (Nat.le_refl _)
 have ho1 := OwnsS.below ho hb1
 have Hw1 := hide (And.intro h1 (And.intro ho1 hb1))
 have hbs1 := hb1.size
 clear h ho h1 ho1 hb1 Hs k9
 go_wp2_with fail
 go_loopw [5] (fun i wr => ∃ k : Nat, k ≤ ls.length ∧ i = .int .i64 k ∧ OwnsS wr base (.slice av ls.length cv) (mkTo m ls k) ∧ Fr (fun x => (Value.slice av ls.length cv).ownBlock = some x) W1 wr) (fun i _ => ls.length - (intOf i).toNat)
 case atStart => exact ⟨0, by omega, rfl, (unhide Hw1).2.1, Fr.below (Below.refl _ _)⟩
 case round =>
  obtain ⟨k, hk, rfl, hoL, hfr⟩ := hrel
  by_cases hlt : k < ls.length
  ·have q1 : (k : Int) < (ls.length : Int) := by omega
   obtain ⟨g, cap, cur, e1, hgb, hgg, hcur⟩ := row_at hoL k (by rw [List.length_map, mkTo_len m ls k hk]; exact hlt)
   rw [mkTo_len m ls k hk] at e1
   obtain ⟨rfl, rfl⟩ : av = some ⟨g, 0, none⟩ ∧ cv = cap := by simpa using e1
   have hc := cell_of_block (j := k) hgg
   rw [hcur, List.getElem_map] at hc
   unfold strVal at hc
   have hfz := free_block (j := k) hgg
   have hgl := (Array.getElem?_eq_some_iff.1 hgg).1
   have hnew := OwnsS.put (k := k) hoL hgb m
   rw [mkTo_set m ls k hlt] at hnew
   have hf2 := hfr.trans (Fr.set (S := fun x => (Value.slice (some ⟨g, 0, none⟩) ls.length cv).ownBlock = some x) wr g k (strVal m) hgb)
   have Hz := hide (And.intro hnew hf2)
   unfold strVal at Hz
   clear hnew hf2 hoL hfr hcur hgg e1 hgb
   generalize (mkTo m ls k)[k]'_ = yy at *
   go_wp2_with fail
   exact ⟨⟨k + 1, by omega, by go_num, (unhide Hz).1, (unhide Hz).2⟩, by simp [intOf]; omega⟩
  ·obtain rfl : k = ls.length := by omega
   rw [mkTo_all] at hoL
   obtain ⟨h1, ho1, hb1⟩ := unhide Hw1
   have hVm : ∀ x, (Value.slice av ls.length cv).ownBlock = some x → ¬ MSet wb (.slice at' l.length ct) (.slice at3 l3.length ct3) x := fun x hx => h1.text ho1 hx
   have hsz1 := hfr.size
   have hbsr : base ≤ wr.heap.size := by omega
   have Hw2 := hide (And.intro hfr (And.intro hVm hb1))
   clear hfr hVm h1 ho1 hb1
   go_wp2_with (at_builtin; refine app_mark rfl (.tmp 25) (.tmp 27) rfl base _ ls.length m rfl (OwnsS.alloc hoL _) ⟨wr.heap.size, 0, none⟩ 1 (by decide) (by decide) rfl ?qa ?qb ?qc ?_)
   case qa =>
    intro i hi
    obtain rfl : i = 0 := by omega
    exact cell_of_block (heap_alloc_new wr (.cells #[.string (bs m)] 9))
   case qb => omega
   case qc => simp; omega
   intro v1 W2 o1 gr1 p1 oV2 st1
   have hsz2 : wr.heap.size < W2.heap.size := by have := gr1.size; simp at this; omega
   have Hg1 := hide (And.intro o1 (And.intro gr1 (And.intro p1 st1)))
   clear o1 gr1 p1 st1 hoL
   go_wp2_with (at_builtin; refine app_mark rfl (.tmp 29) (.tmp 32) rfl base _ ls.length m rfl (OwnsS.alloc oV2 _) ⟨W2.heap.size, 0, none⟩ 2 (by decide) (by decide) rfl ?qa ?qb ?qc ?_)
   case qa =>
    intro i hi
    have hbk := heap_alloc_new W2 (.cells #[.string (bs m), .string (bs m)] 9)
    match i, hi with
    | 0, _ => exact cell_of_block hbk
    | 1, _ => exact cell_of_block hbk
   case qb => omega
   case qc => simp; omega
   intro v2 W3 o2 gr2 p2 oV3 st2
   have hsz3 : W2.heap.size < W3.heap.size := by have := gr2.size; simp at this; omega
   have Hg2 := hide (And.intro o2 (And.intro gr2 (And.intro p2 st2)))
   clear o2 gr2 p2 st2 oV2
   go_wp2_with (at_builtin; refine app_mark rfl (.tmp 34) (.tmp 38) rfl base _ ls.length m rfl (OwnsS.alloc oV3 _) ⟨W3.heap.size, 0, none⟩ 3 (by decide) (by decide) rfl ?qa ?qb ?qc ?_)
   case qa =>
    intro i hi
    have hbk := heap_alloc_new W3 (.cells #[.string (bs m), .string (bs m), .string (bs m)] 9)
    match i, hi with
    | 0, _ => exact cell_of_block hbk
    | 1, _ => exact cell_of_block hbk
    | 2, _ => exact cell_of_block hbk
   case qb => omega
   case qc => simp; omega
   intro v3 W4 o3 gr3 p3 oV4 st3
   have hsz4 : W3.heap.size < W4.heap.size := by have := gr3.size; simp at this; omega
   obtain ⟨o1, gr1, p1, st1⟩ := unhide Hg1
   obtain ⟨o2, gr2, p2, st2⟩ := unhide Hg2
   obtain ⟨hfr, hVm, hb1⟩ := unhide Hw2
   have hal : ∀ (W : World) (X : Obj), Below W.heap.size W (W.alloc X) := fun W X => (Below.refl _ _).alloc (Nat.le_refl _) _
   have F1 : FullS W4 v1 (ls.length + 1) m := ((OwnsS.full o1).stay ((MarksStay.below (hal W2 _)).trans st2)).stay ((MarksStay.below (hal W3 _)).trans st3)
   have F2 : FullS W4 v2 (ls.length + 2) m := (OwnsS.full o2).stay ((MarksStay.below (hal W3 _)).trans st3)
   have F3 : FullS W4 v3 (ls.length + 3) m := OwnsS.full o3
   have F0 := OwnsS.full oV4
   have f4 : Fr (fun x => (Value.slice av ls.length cv).ownBlock = some x) W1 W4 := ((hfr.trans ((Fr.below (hal wr _)).trans (Fr.grown gr1 (fun g e => e)))).trans ((Fr.below (hal W2 _)).trans (Fr.grown gr2 (fun g e => e)))).trans ((Fr.below (hal W3 _)).trans (Fr.grown gr3 (fun g e => e)))
   have M4 := (unhide Hw1).1.fr f4 (fun x hx hs => hVm x hs hx)
   have hblk : ∀ x, v1.ownBlock = some x ∨ v2.ownBlock = some x ∨ v3.ownBlock = some x → (Value.slice av ls.length cv).ownBlock = some x ∨ W1.heap.size ≤ x ∧ x < W4.heap.size := by
    have hq : ∀ (u : Value) (x z : Nat), (u.ownBlock = (Value.slice av ls.length cv).ownBlock ∨ u.ownBlock = some z) → u.ownBlock = some x → (Value.slice av ls.length cv).ownBlock = some x ∨ x = z := fun u x z hp hu => by
     rcases hp with hp | hp
     ·exact .inl (by rw [← hp]; exact hu)
     ·rw [hp] at hu; exact .inr (Option.some.inj hu).symm
    rintro x (hx | hx | hx)
    ·have hxl := own_lt o1 hx
     rcases hq v1 x _ p1 hx with h | h
     ·exact .inl h
     ·exact .inr (by first | omega | (simp at h; omega))
    ·have hxl := own_lt o2 hx
     rcases hq v2 x _ p2 hx with h | h
     ·exact .inl h
     ·exact .inr (by first | omega | (simp at h; omega))
    ·have hxl := own_lt o3 hx
     rcases hq v3 x _ p3 hx with h | h
     ·exact .inl h
     ·exact .inr (by first | omega | (simp at h; omega))
   obtain ⟨a1, n1, c1, rfl⟩ := shape3 o1
   obtain ⟨a2, n2, c2, rfl⟩ := shape3 o2
   obtain ⟨a3, n3, c3, rfl⟩ := shape3 o3
   have Hall := hide (And.intro M4 (And.intro f4 (And.intro hblk (And.intro F0 (And.intro F1 (And.intro F2 F3))))))
   have k9 := cell_of_block (j := 9) M4.wa
   simp at k9
   have m4t := M4.t
   have m4l := M4.lt
   clear o1 o2 o3 gr1 gr2 gr3 p1 p2 p3 st1 st2 st3 oV3 oV4 F0 F1 F2 F3 f4 hblk Hg1 Hg2 hfr hVm M4
   go_wp2_with (at_builtin; refine app_slice rfl (.tmp 44) (.tmp 46) rfl base _ _ rfl (World.ownsRow.alloc m4t _) ⟨W4.heap.size, 0, none⟩ (.slice av ls.length cv) rfl ?qa rfl ?qb ?qc ?_)
   case qa => exact cell_of_block (heap_alloc_new W4 (.cells #[.slice av ls.length cv] 23))
   case qb => omega
   case qc => simp; omega
   intro tx' W5 o5 g5 p5
   obtain ⟨wa5, M5, f5, z5, s5⟩ := MS.grow1 (unhide Hall).1 o5 g5 (by simpa using p5)
   obtain ⟨b5, n5, c5, rfl⟩ := shape3 o5
   have i9 := cell_of_block (j := 9) wa5
   simp at i9
   have il := (Array.getElem?_eq_some_iff.1 wa5).1
   have if9 := free_block (j := 9) wa5
   have i10 := cell_of_block (j := 10) M5.wa
   simp at i10
   have m5t := M5.t3
   have m5l := M5.lt
   have hz5 : (W5.setCell ⟨wb, 9, none⟩ (.slice b5 n5 c5)).heap.size = W5.heap.size := by simp
   have H5 := hide (And.intro M5 (And.intro f5 s5))
   clear M5 f5 s5 o5 g5 p5 wa5 m4t k9
   go_wp2_with (at_builtin; refine app_slice rfl (.tmp 54) (.tmp 56) rfl base _ _ rfl (World.ownsRow.alloc m5t _) ⟨W5.heap.size, 0, none⟩ (.slice a1 n1 c1) rfl ?qa rfl ?qb ?qc ?_)
   case qa =>
    have := cell_of_block (j := 0) (heap_alloc_new (W5.setCell ⟨wb, 9, none⟩ (.slice b5 n5 c5)) (.cells #[.slice a1 n1 c1] 23))
    rw [hz5] at this
    exact this
   case qb => first | omega | (simp; omega)
   case qc => simp; omega
   intro tx' W6 o6 g6 p6
   obtain ⟨wa6, M6, f6, z6, s6⟩ := MS.grow3 (unhide H5).1 o6 g6 (by simpa using p6)
   obtain ⟨b26, n26, c26, rfl⟩ := shape3 o6
   have i26 := cell_of_block (j := 10) wa6
   simp at i26
   have jl6 := (Array.getElem?_eq_some_iff.1 wa6).1
   have jf6 := free_block (j := 10) wa6
   have q46 := cell_of_block (j := 10) M6.wa
   simp at q46
   have m6t := M6.t3
   have m6l := M6.lt
   have hz6 : (W6.setCell ⟨wb, 10, none⟩ (.slice b26 n26 c26)).heap.size = W6.heap.size := by simp
   have H6 := hide (And.intro M6 (And.intro f6 s6))
   clear M6 f6 s6 o6 g6 p6 wa6 m5t
   go_wp2_with (at_builtin; refine app_slice rfl (.tmp 64) (.tmp 66) rfl base _ _ rfl (World.ownsRow.alloc m6t _) ⟨W6.heap.size, 0, none⟩ (.slice a2 n2 c2) rfl ?qa rfl ?qb ?qc ?_)
   case qa =>
    have := cell_of_block (j := 0) (heap_alloc_new (W6.setCell ⟨wb, 10, none⟩ (.slice b26 n26 c26)) (.cells #[.slice a2 n2 c2] 23))
    rw [hz6] at this
    exact this
   case qb => first | omega | (simp; omega)
   case qc => simp; omega
   intro tx' W7 o7 g7 p7
   obtain ⟨wa7, M7, f7, z7, s7⟩ := MS.grow3 (unhide H6).1 o7 g7 (by simpa using p7)
   obtain ⟨b27, n27, c27, rfl⟩ := shape3 o7
   have i27 := cell_of_block (j := 10) wa7
   simp at i27
   have jl7 := (Array.getElem?_eq_some_iff.1 wa7).1
   have jf7 := free_block (j := 10) wa7
   have q47 := cell_of_block (j := 10) M7.wa
   simp at q47
   have m7t := M7.t3
   have m7l := M7.lt
   have hz7 : (W7.setCell ⟨wb, 10, none⟩ (.slice b27 n27 c27)).heap.size = W7.heap.size := by simp
   have H7 := hide (And.intro M7 (And.intro f7 s7))
   clear M7 f7 s7 o7 g7 p7 wa7 m6t
   go_wp2_with (at_builtin; refine app_slice rfl (.tmp 74) (.tmp 76) rfl base _ _ rfl (World.ownsRow.alloc m7t _) ⟨W7.heap.size, 0, none⟩ (.slice a3 n3 c3) rfl ?qa rfl ?qb ?qc ?_)
   case qa =>
    have := cell_of_block (j := 0) (heap_alloc_new (W7.setCell ⟨wb, 10, none⟩ (.slice b27 n27 c27)) (.cells #[.slice a3 n3 c3] 23))
    rw [hz7] at this
    exact this
   case qb => first | omega | (simp; omega)
   case qc => simp; omega
   intro tx' W8 o8 g8 p8
   obtain ⟨wa8, M8, f8, z8, s8⟩ := MS.grow3 (unhide H7).1 o8 g8 (by simpa using p8)
   obtain ⟨b28, n28, c28, rfl⟩ := shape3 o8
   have i28 := cell_of_block (j := 10) wa8
   simp at i28
   have jl8 := (Array.getElem?_eq_some_iff.1 wa8).1
   have jf8 := free_block (j := 10) wa8
   have q48 := cell_of_block (j := 10) M8.wa
   simp at q48
   have m8t := M8.t3
   have m8l := M8.lt
   have hz8 : (W8.setCell ⟨wb, 10, none⟩ (.slice b28 n28 c28)).heap.size = W8.heap.size := by simp
   have H8 := hide (And.intro M8 (And.intro f8 s8))
   clear M8 f8 s8 o8 g8 p8 wa8 m7t
   obtain ⟨M8, f8, s8⟩ := unhide H8
   obtain ⟨M7, f7, s7⟩ := unhide H7
   obtain ⟨M6, f6, s6⟩ := unhide H6
   obtain ⟨M5, f5, s5⟩ := unhide H5
   obtain ⟨M4, f4, hblk, F0, F1, F2, F3⟩ := unhide Hall
   have fa := fr_comp f5 f6 s5
   have sa := fun x hx => (s6 x hx).elim (fun h => s5 x h) (fun h => Or.inr (by rw [hz5] at h; omega))
   have fb := fr_comp fa f7 sa
   have sb := fun x hx => (s7 x hx).elim (fun h => sa x h) (fun h => Or.inr (by rw [hz6] at h; omega))
   have fc := fr_comp fb f8 sb
   have sc := fun x hx => (s8 x hx).elim (fun h => sb x h) (fun h => Or.inr (by rw [hz7] at h; omega))
   have hbl : ∀ (u : Value) x, (∀ y, u.ownBlock = some y → (Value.slice av ls.length cv).ownBlock = some y ∨ W1.heap.size ≤ y ∧ y < W4.heap.size) → u.ownBlock = some x → ¬ MSet wb (.slice at' l.length ct) (.slice at3 l3.length ct3) x := fun u x hu hx hm => by
    rcases hu x hx with h | h
    ·exact (unhide Hw2).2.1 x h hm
    ·have := (unhide Hw1).1.setLt x hm
     omega
   have hVl : ∀ x, (Value.slice av ls.length cv).ownBlock = some x → x < W1.heap.size := fun x hx => own_lt (unhide Hw1).2.1 hx
   have hx4 : ∀ x, (Value.slice av ls.length cv).ownBlock = some x ∨ (Value.slice a1 n1 c1).ownBlock = some x ∨ (Value.slice a2 n2 c2).ownBlock = some x ∨ (Value.slice a3 n3 c3).ownBlock = some x → (Value.slice av ls.length cv).ownBlock = some x ∨ W1.heap.size ≤ x ∧ x < W4.heap.size := fun x hx => hx.elim Or.inl (fun h => hblk x h)
   have Hlast := hide (show ∀ x, (Value.slice av ls.length cv).ownBlock = some x ∨ (Value.slice a1 n1 c1).ownBlock = some x ∨ (Value.slice a2 n2 c2).ownBlock = some x ∨ (Value.slice a3 n3 c3).ownBlock = some x → ¬ MSet wb (.slice b5 n5 c5) (.slice b28 n28 c28) x ∧ x < W8.heap.size from fun x hx => by
    have hx' := hx4 x hx
    have hxl : x < W4.heap.size := by
     rcases hx' with h | h
     ·have := hVl x h; omega
     ·exact h.2
    refine ⟨fun hm => ?_, by rw [hz5] at z6; rw [hz6] at z7; rw [hz7] at z8; omega⟩
    rcases sc x hm with h | h
    ·rcases hx' with h2 | h2
     ·exact (unhide Hw2).2.1 x h2 h
     ·have := (unhide Hw1).1.setLt x h
      omega
    ·omega)
   have Hend := hide (And.intro M8 (And.intro (And.intro (F0.fr fc (fun x hx => hbl _ x (fun y hy => .inl hy) hx)) (And.intro (F1.fr fc (fun x hx => hbl _ x (fun y hy => hblk y (.inl hy)) hx)) (And.intro (F2.fr fc (fun x hx => hbl _ x (fun y hy => hblk y (.inr (.inl hy))) hx)) (F3.fr fc (fun x hx => hbl _ x (fun y hy => hblk y (.inr (.inr hy))) hx))))) (And.intro (fr_comp (fr_comp (Fr.below (unhide Hw1).2.2) (f4.mono (fun x hx => Or.inr hx)) (fun x hx => .inl hx)) (fc.mono (fun x hx => Or.inl hx)) (fun x hx => .inl hx) : Fr (fun x => MSet wb (.slice at' l.length ct) (.slice at3 l3.length ct3) x ∨ (Value.slice av ls.length cv).ownBlock = some x) w _) (And.intro (fun x hx => (sc x hx).elim Or.inl (fun h => Or.inr (by omega))) (fun x hx => (hblk x hx).elim Or.inl (fun h => Or.inr (by omega)))))))
   clear M8 f8 s8 M7 f7 s7 M6 f6 s6 M5 f5 s5 M4 f4 hblk F0 F1 F2 F3 fa sa fb sb fc sc hbl H8 H7 H6 H5 Hall hx4 hVl
   go_wp2_with fail
   go_end0
   exact ⟨rfl, .slice a1 n1 c1, .slice a2 n2 c2, .slice a3 n3 c3, .slice b5 n5 c5, .slice b28 n28 c28, (unhide Hend).1, (unhide Hend).2.1, (unhide Hend).2.2.1, fun x hx => ((unhide Hend).2.2.2.1 x hx).imp id (fun h => by omega), fun x hx => ((unhide Hend).2.2.2.2 x hx).imp id (fun h => by omega), fun x hx => by simpa using unhide Hlast x hx⟩
theorem OwnsIt.put {w : World} {base g k : Nat} {v : Value} {l : List P.It} (h : OwnsIt w base v l) (hg : v.ownBlock = some g) (hk : k < l.length) (m : P.It) : OwnsIt (w.setCells g (k * 5) (itCells m)) base v (l.set k m) := by
 rcases h.2 with ⟨rfl, _⟩ | ⟨g', cap, cur, rfl, hb, hgg, q1, q2, q3, q4⟩
 ·simp [Value.ownBlock] at hg
 ·obtain rfl : g' = g := by simpa [Value.ownBlock] using hg
  obtain ⟨a, c, e, t, -⟩ := OwnsIt.lies h
  obtain ⟨rfl, rfl⟩ : some ⟨g', 0, none⟩ = a ∧ cap = c := by simpa using e
  have hit : ItemsAt w g' 0 l := by
   rcases t with t | ⟨b, o, e2, t⟩
   ·subst t; simp at hk
   ·obtain ⟨rfl, rfl⟩ : g' = b ∧ 0 = o := by simpa using e2
    exact t
  have hrow := hit.row.store itCells_len k hk m
  rw [Nat.zero_add] at hrow
  have h1 := heap_setCell_same w g' (k * 5) _ _ (.string m.name) hgg
  have h2 := heap_setCell_same _ g' (k * 5 + 1) _ _ (.int .i64 m.kind) h1
  have h3 := heap_setCell_same _ g' (k * 5 + 2) _ _ (.string m.dig) h2
  have h4 := heap_setCell_same _ g' (k * 5 + 3) _ _ (.int .i64 m.size) h3
  have h5 := heap_setCell_same _ g' (k * 5 + 4) _ _ (.string m.tgt) h4
  have hlen : (rowCells itCells (l.set k m)).length = l.length * 5 := by rw [rowCells_length (n := 5) itCells_len]; simp
  obtain ⟨W, hW⟩ : ∃ W, w.setCells g' (k * 5) (itCells m) = W := ⟨_, rfl⟩
  obtain ⟨cur', hc', hsz'⟩ : ∃ cur', W.heap[g']? = some (.cells cur' 47 (0, 0)) ∧ cur'.size = cur.size := ⟨_, by rw [← hW]; exact h5, by simp⟩
  rw [hW] at hrow ⊢
  clear h1 h2 h3 h4 h5 hW
  refine ⟨by rw [hlen]; simp, .inr ⟨g', cap, cur', by simp, hb, hc', by simpa using q1, q2, by rw [hsz']; exact q3, ?_⟩⟩
  apply List.ext_getElem?
  intro j
  by_cases hj : j < l.length * 5
  ·obtain ⟨u, hu, hc⟩ := hrow.cell itCells_len j (by simpa using hj)
   rw [Nat.zero_add, cell_of_block hc'] at hc
   rw [hu, List.getElem?_take_of_lt (by simpa using hj)]
   simpa using hc
  ·rw [List.getElem?_eq_none (by simp; omega), List.getElem?_eq_none (by omega)]
def mkToI (m : P.It) (ls : List P.It) (k : Nat) : List P.It := List.replicate k m ++ ls.drop k
theorem mkToI_len (m : P.It) (ls : List P.It) (k : Nat) (h : k ≤ ls.length) : (mkToI m ls k).length = ls.length := by simp [mkToI]; omega
theorem mkToI_set (m : P.It) (ls : List P.It) (k : Nat) (h : k < ls.length) : (mkToI m ls k).set k m = mkToI m ls (k + 1) := by
 unfold mkToI
 rw [List.set_append_right _ _ (by simp), List.length_replicate, Nat.sub_self, List.drop_eq_getElem_cons h, List.set_cons_zero, List.replicate_succ']
 simp
theorem mkToI_all (m : P.It) (ls : List P.It) : mkToI m ls ls.length = List.replicate ls.length m := by simp [mkToI]
set_option maxRecDepth 100000 in
set_option maxHeartbeats 4000000 in
theorem markItems_any {wb base : Nat} {came : Int} {kT wT kI wI kE wE ps tx tx3 it it3 en en3 : Value} {l l3 : List Value} (v : Value) (ls : List P.It) (w : World) (h : MI w wb base came kT wT kI wI kE wE ps tx tx3 it it3 en en3 l l3) (ho : OwnsIt w base v ls)
  (hl : l.length ≤ 5000000) (hl3 : l3.length ≤ 15000000) (hn : ls.length ≤ 1200000) (hbase : base ≤ w.heap.size) :
  Calls Tryz.prog 114 #[.pointer (some ⟨wb, 0, none⟩), v] w fun e w' => e = .returned (.tuple #[]) ∧ ∃ v1 v2 v3 it' it3', MI w' wb base came kT wT kI wI kE wE ps tx tx3 it' it3' en en3 (l ++ [v]) (l3 ++ [v1, v2, v3]) ∧
   (FullI w' v ls.length (itMk l.length) ∧ FullI w' v1 (ls.length + 1) (itMk l.length) ∧ FullI w' v2 (ls.length + 2) (itMk l.length) ∧ FullI w' v3 (ls.length + 3) (itMk l.length)) ∧ Fr (fun x => MISet wb it it3 x ∨ v.ownBlock = some x) w w' ∧ (∀ x, MISet wb it' it3' x → MISet wb it it3 x ∨ w.heap.size ≤ x) ∧
   (∀ x, v1.ownBlock = some x ∨ v2.ownBlock = some x ∨ v3.ownBlock = some x → v.ownBlock = some x ∨ w.heap.size ≤ x) ∧
   (∀ x, v.ownBlock = some x ∨ v1.ownBlock = some x ∨ v2.ownBlock = some x ∨ v3.ownBlock = some x → ¬ MISet wb it' it3' x ∧ x < w'.heap.size) := by
 obtain ⟨at', ct, etx⟩ := row_shape h.t
 subst etx
 obtain ⟨at3, ct3, etx3⟩ := row_shape h.t3
 subst etx3
 have k9 := cell_of_block (j := 11) h.wa
 simp at k9
 have hwK : IntKind.i64.wrap (-1 - (l.length : Int)) = -1 - (l.length : Int) := by rw [IntKind.wrap_i64]; omega
 obtain ⟨av, cv, ev⟩ := row_shape ho
 subst ev
 have hb1 : Below w.heap.size w (w.alloc (.cells #[.string ⟨#[]⟩, .int .i64 (-1 - (l.length : Int)), .string ⟨#[]⟩, .int .i64 0, .string ⟨#[]⟩] 47)) := (Below.refl _ _).alloc (Nat.le_refl _) _
 have hmb := heap_alloc_new w (.cells #[.string ⟨#[]⟩, .int .i64 (-1 - (l.length : Int)), .string ⟨#[]⟩, .int .i64 0, .string ⟨#[]⟩] 47)
 obtain ⟨m, hm⟩ : ∃ m, m = itMk l.length := ⟨_, rfl⟩
 have hVw : ∀ x, (Value.slice av ls.length cv).ownBlock = some x → x < w.heap.size := fun x hx => own_lt ho hx
 have h1 := h.below hb1 (Nat.le_refl _)
 have ho1 := OwnsIt.below ho hb1
 have hbs1 := hb1.size
 obtain ⟨W1, hW1⟩ : ∃ W1, w.alloc (.cells #[.string ⟨#[]⟩, .int .i64 (-1 - (l.length : Int)), .string ⟨#[]⟩, .int .i64 0, .string ⟨#[]⟩] 47) = W1 := ⟨_, rfl⟩
 have hg1 : w.heap.size < W1.heap.size := by rw [← hW1]; simp
 rw [hW1] at hb1 hmb h1 ho1 hbs1
 have Hw1 := hide (And.intro h1 (And.intro ho1 hb1))
 have Hmb := hide hmb
 have HW1 := hide hW1
 clear h ho h1 ho1 hb1 hmb hW1
 rw [← hm]
 have Hm := hide hm
 clear hm
 go_enter Tryz.func114, Tryz.ntmps114
 go_wp2_with fail
 rw [unhide HW1]
 clear k9
 go_loopw [5] (fun i wr => ∃ k : Nat, k ≤ ls.length ∧ i = .int .i64 k ∧ OwnsIt wr base (.slice av ls.length cv) (mkToI m ls k) ∧ Fr (fun x => (Value.slice av ls.length cv).ownBlock = some x) W1 wr) (fun i _ => ls.length - (intOf i).toNat)
 case atStart => exact ⟨0, by omega, rfl, (unhide Hw1).2.1, Fr.below (Below.refl _ _)⟩
 case round =>
  obtain ⟨k, hk, rfl, hoL, hfr⟩ := hrel
  by_cases hlt : k < ls.length
  ·have q1 : (k : Int) < (ls.length : Int) := by omega
   have hkl : k < (mkToI m ls k).length := by rw [mkToI_len m ls k hk]; exact hlt
   obtain ⟨g, hgb, cap, e1, curg, hgg⟩ : ∃ g, (Value.slice av ls.length cv).ownBlock = some g ∧ ∃ cap, Value.slice av ls.length cv = .slice (some ⟨g, 0, none⟩) ls.length cap ∧ ∃ cur, wr.heap[g]? = some (.cells cur 47 (0, 0)) := by
    rcases hoL.2 with ⟨hv, hx⟩ | ⟨g, cap, cur, hv, _, hgg, _⟩
    ·rw [mkToI_len m ls k hk] at hx; omega
    ·exact ⟨g, by rw [hv]; rfl, cap, by rw [hv, mkToI_len m ls k hk], cur, hgg⟩
   obtain ⟨rfl, rfl⟩ : av = some ⟨g, 0, none⟩ ∧ cv = cap := by simpa using e1
   obtain ⟨a2, c2, e2, t2, -⟩ := OwnsIt.lies hoL
   rw [mkToI_len m ls k hk] at e2
   obtain ⟨rfl, rfl⟩ : some ⟨g, 0, none⟩ = a2 ∧ cv = c2 := by simpa using e2
   have hit : ItemsAt wr g 0 (mkToI m ls k) := by
    rcases t2 with t2 | ⟨b, o, e3, t2⟩
    ·rw [t2] at hkl; simp at hkl
    ·obtain ⟨rfl, rfl⟩ : g = b ∧ 0 = o := by simpa using e3
     exact t2
   obtain ⟨d0, d1, d2, d3, d4⟩ := hit k hkl
   simp only [Nat.zero_add] at d0 d1 d2 d3 d4
   have hfz := fun j => free_block (j := j) hgg
   have hgl := (Array.getElem?_eq_some_iff.1 hgg).1
   have hgw := hVw g hgb
   have hmr := (hfr.block w.heap.size hg1 (fun e => by have := hVw _ e; omega)).trans (unhide Hmb)
   have x0 := cell_of_block (j := 0) hmr
   have x1 := cell_of_block (j := 1) hmr
   have x2 := cell_of_block (j := 2) hmr
   have x3 := cell_of_block (j := 3) hmr
   have x4 := cell_of_block (j := 4) hmr
   simp at x0 x1 x2 x3 x4
   have hnew := OwnsIt.put hoL hgb hkl m
   rw [mkToI_set m ls k hlt] at hnew
   have hf2 : Fr (fun x => (Value.slice (some ⟨g, 0, none⟩) ls.length cv).ownBlock = some x) W1 (wr.setCells g (k * 5) (itCells m)) := by
    rw [set5]
    exact ((((hfr.trans (Fr.set wr g _ _ hgb)).trans (Fr.set _ g _ _ hgb)).trans (Fr.set _ g _ _ hgb)).trans (Fr.set _ g _ _ hgb)).trans (Fr.set _ g _ _ hgb)
   rw [set5] at hnew hf2
   have Hz := hide (And.intro hnew hf2)
   rw [unhide Hm] at Hz
   unfold itMk at Hz
   simp only at Hz
   clear hnew hf2 hoL hfr hgg e1 e2 hgb hit t2 hmr
   generalize (mkToI m ls k)[k]'_ = yy at *
   obtain ⟨y0, y1, y2, y3, y4⟩ := yy
   simp only at d0 d1 d2 d3 d4
   go_wp2_with fail
   exact ⟨⟨k + 1, by omega, by go_num, by rw [unhide Hm]; exact (unhide Hz).1, (unhide Hz).2⟩, by simp [intOf]; omega⟩
  ·obtain rfl : k = ls.length := by omega
   rw [mkToI_all] at hoL
   obtain ⟨h1, ho1, hb1⟩ := unhide Hw1
   have hVm : ∀ x, (Value.slice av ls.length cv).ownBlock = some x → ¬ MISet wb (.slice at' l.length ct) (.slice at3 l3.length ct3) x := fun x hx => h1.items ho1 hx
   have hsz1 := hfr.size
   have hmr := (hfr.block w.heap.size hg1 (fun e => by have := hVw _ e; omega)).trans (unhide Hmb)
   have x0 := cell_of_block (j := 0) hmr
   have x1 := cell_of_block (j := 1) hmr
   have x2 := cell_of_block (j := 2) hmr
   have x3 := cell_of_block (j := 3) hmr
   have x4 := cell_of_block (j := 4) hmr
   simp at x0 x1 x2 x3 x4
   have hwl : w.heap.size < wr.heap.size := by omega
   have Hmr := hide hmr
   clear hmr
   have hbsr : base ≤ wr.heap.size := by omega
   have Hw2 := hide (And.intro hfr (And.intro hVm hb1))
   clear hfr hVm h1 ho1 hb1
   go_wp2_with (at_builtin; refine app_markI rfl (.tmp 26) (.tmp 28) rfl base _ ls.length m rfl (World.ownsRow.alloc hoL _) ⟨wr.heap.size, 0, none⟩ 1 (by decide) (by decide) rfl ?qa ?qb ?qc ?_)
   case qa =>
    intro i u hu
    have hbk := heap_alloc_new wr (.cells #[.string ⟨#[]⟩, .int .i64 (-1 - (l.length : Int)), .string ⟨#[]⟩, .int .i64 0, .string ⟨#[]⟩] 47)
    have e : rowCells itCells (List.replicate 1 (itMk l.length)) = [.string ⟨#[]⟩, .int .i64 (-1 - (l.length : Int)), .string ⟨#[]⟩, .int .i64 0, .string ⟨#[]⟩] := rfl
    rw [add_off, Nat.zero_add, cell_of_block hbk]
    rw [unhide Hm, e] at hu
    simpa using hu
   case qb => omega
   case qc => simp; omega
   intro v1 W2 o1 gr1 p1 oV2 st1
   have hsz2 : wr.heap.size < W2.heap.size := by have := gr1.size; simp at this; omega
   have hmr2 : W2.heap[w.heap.size]? = _ := (gr1.block w.heap.size (by simp; omega) (fun e => by have := hVw _ e.symm; omega)).trans ((Below.heap_alloc _ _ _ (show w.heap.size < wr.heap.size by omega)).trans (unhide Hmr))
   have z02 := cell_of_block (j := 0) hmr2
   have z12 := cell_of_block (j := 1) hmr2
   have z22 := cell_of_block (j := 2) hmr2
   have z32 := cell_of_block (j := 3) hmr2
   have z42 := cell_of_block (j := 4) hmr2
   simp at z02 z12 z22 z32 z42
   have Hmr2 := hide hmr2
   clear hmr2
   have Hg1 := hide (And.intro o1 (And.intro gr1 (And.intro p1 st1)))
   clear o1 gr1 p1 st1 hoL
   go_wp2_with (at_builtin; refine app_markI rfl (.tmp 30) (.tmp 33) rfl base _ ls.length m rfl (World.ownsRow.alloc oV2 _) ⟨W2.heap.size, 0, none⟩ 2 (by decide) (by decide) rfl ?qa ?qb ?qc ?_)
   case qa =>
    intro i u hu
    have hbk := heap_alloc_new W2 (.cells #[.string ⟨#[]⟩, .int .i64 (-1 - (l.length : Int)), .string ⟨#[]⟩, .int .i64 0, .string ⟨#[]⟩, .string ⟨#[]⟩, .int .i64 (-1 - (l.length : Int)), .string ⟨#[]⟩, .int .i64 0, .string ⟨#[]⟩] 47)
    have e : rowCells itCells (List.replicate 2 (itMk l.length)) = [.string ⟨#[]⟩, .int .i64 (-1 - (l.length : Int)), .string ⟨#[]⟩, .int .i64 0, .string ⟨#[]⟩, .string ⟨#[]⟩, .int .i64 (-1 - (l.length : Int)), .string ⟨#[]⟩, .int .i64 0, .string ⟨#[]⟩] := rfl
    rw [add_off, Nat.zero_add, cell_of_block hbk]
    rw [unhide Hm, e] at hu
    simpa using hu
   case qb => omega
   case qc => simp; omega
   intro v2 W3 o2 gr2 p2 oV3 st2
   have hsz3 : W2.heap.size < W3.heap.size := by have := gr2.size; simp at this; omega
   have hmr3 : W3.heap[w.heap.size]? = _ := (gr2.block w.heap.size (by simp; omega) (fun e => by have := hVw _ e.symm; omega)).trans ((Below.heap_alloc _ _ _ (show w.heap.size < W2.heap.size by omega)).trans (unhide Hmr2))
   have z03 := cell_of_block (j := 0) hmr3
   have z13 := cell_of_block (j := 1) hmr3
   have z23 := cell_of_block (j := 2) hmr3
   have z33 := cell_of_block (j := 3) hmr3
   have z43 := cell_of_block (j := 4) hmr3
   simp at z03 z13 z23 z33 z43
   have Hmr3 := hide hmr3
   clear hmr3
   have Hg2 := hide (And.intro o2 (And.intro gr2 (And.intro p2 st2)))
   clear o2 gr2 p2 st2 oV2
   go_wp2_with (at_builtin; refine app_markI rfl (.tmp 35) (.tmp 39) rfl base _ ls.length m rfl (World.ownsRow.alloc oV3 _) ⟨W3.heap.size, 0, none⟩ 3 (by decide) (by decide) rfl ?qa ?qb ?qc ?_)
   case qa =>
    intro i u hu
    have hbk := heap_alloc_new W3 (.cells #[.string ⟨#[]⟩, .int .i64 (-1 - (l.length : Int)), .string ⟨#[]⟩, .int .i64 0, .string ⟨#[]⟩, .string ⟨#[]⟩, .int .i64 (-1 - (l.length : Int)), .string ⟨#[]⟩, .int .i64 0, .string ⟨#[]⟩, .string ⟨#[]⟩, .int .i64 (-1 - (l.length : Int)), .string ⟨#[]⟩, .int .i64 0, .string ⟨#[]⟩] 47)
    have e : rowCells itCells (List.replicate 3 (itMk l.length)) = [.string ⟨#[]⟩, .int .i64 (-1 - (l.length : Int)), .string ⟨#[]⟩, .int .i64 0, .string ⟨#[]⟩, .string ⟨#[]⟩, .int .i64 (-1 - (l.length : Int)), .string ⟨#[]⟩, .int .i64 0, .string ⟨#[]⟩, .string ⟨#[]⟩, .int .i64 (-1 - (l.length : Int)), .string ⟨#[]⟩, .int .i64 0, .string ⟨#[]⟩] := rfl
    rw [add_off, Nat.zero_add, cell_of_block hbk]
    rw [unhide Hm, e] at hu
    simpa using hu
   case qb => omega
   case qc => simp; omega
   intro v3 W4 o3 gr3 p3 oV4 st3
   have hsz4 : W3.heap.size < W4.heap.size := by have := gr3.size; simp at this; omega
   obtain ⟨o1, gr1, p1, st1⟩ := unhide Hg1
   obtain ⟨o2, gr2, p2, st2⟩ := unhide Hg2
   obtain ⟨hfr, hVm, hb1⟩ := unhide Hw2
   have hal : ∀ (W : World) (X : Obj), Below W.heap.size W (W.alloc X) := fun W X => (Below.refl _ _).alloc (Nat.le_refl _) _
   have F1 : FullI W4 v1 (ls.length + 1) m := ((OwnsIt.full o1).stay ((MarksStayI.below (hal W2 _)).trans st2)).stay ((MarksStayI.below (hal W3 _)).trans st3)
   have F2 : FullI W4 v2 (ls.length + 2) m := (OwnsIt.full o2).stay ((MarksStayI.below (hal W3 _)).trans st3)
   have F3 : FullI W4 v3 (ls.length + 3) m := OwnsIt.full o3
   have F0 := OwnsIt.full oV4
   have f4 : Fr (fun x => (Value.slice av ls.length cv).ownBlock = some x) W1 W4 := ((hfr.trans ((Fr.below (hal wr _)).trans (Fr.grown gr1 (fun g e => e)))).trans ((Fr.below (hal W2 _)).trans (Fr.grown gr2 (fun g e => e)))).trans ((Fr.below (hal W3 _)).trans (Fr.grown gr3 (fun g e => e)))
   have M4 := (unhide Hw1).1.fr f4 (fun x hx hs => hVm x hs hx)
   have hblk : ∀ x, v1.ownBlock = some x ∨ v2.ownBlock = some x ∨ v3.ownBlock = some x → (Value.slice av ls.length cv).ownBlock = some x ∨ W1.heap.size ≤ x ∧ x < W4.heap.size := by
    have hq : ∀ (u : Value) (x z : Nat), (u.ownBlock = (Value.slice av ls.length cv).ownBlock ∨ u.ownBlock = some z) → u.ownBlock = some x → (Value.slice av ls.length cv).ownBlock = some x ∨ x = z := fun u x z hp hu => by
     rcases hp with hp | hp
     ·exact .inl (by rw [← hp]; exact hu)
     ·rw [hp] at hu; exact .inr (Option.some.inj hu).symm
    rintro x (hx | hx | hx)
    ·have hxl := own_lt o1 hx
     rcases hq v1 x _ p1 hx with h | h
     ·exact .inl h
     ·exact .inr (by first | omega | (simp at h; omega))
    ·have hxl := own_lt o2 hx
     rcases hq v2 x _ p2 hx with h | h
     ·exact .inl h
     ·exact .inr (by first | omega | (simp at h; omega))
    ·have hxl := own_lt o3 hx
     rcases hq v3 x _ p3 hx with h | h
     ·exact .inl h
     ·exact .inr (by first | omega | (simp at h; omega))
   obtain ⟨a1, n1, c1, rfl⟩ := shape3 o1
   obtain ⟨a2, n2, c2, rfl⟩ := shape3 o2
   obtain ⟨a3, n3, c3, rfl⟩ := shape3 o3
   have Hall := hide (And.intro M4 (And.intro f4 (And.intro hblk (And.intro F0 (And.intro F1 (And.intro F2 F3))))))
   have k9 := cell_of_block (j := 11) M4.wa
   simp at k9
   have m4t := M4.t
   have m4l := M4.lt
   clear o1 o2 o3 gr1 gr2 gr3 p1 p2 p3 st1 st2 st3 oV3 oV4 F0 F1 F2 F3 f4 hblk Hg1 Hg2 hfr hVm M4
   go_wp2_with (at_builtin; refine app_sliceI rfl (.tmp 45) (.tmp 47) rfl base _ _ rfl (World.ownsRow.alloc m4t _) ⟨W4.heap.size, 0, none⟩ (.slice av ls.length cv) rfl ?qa rfl ?qb ?qc ?_)
   case qa => exact cell_of_block (heap_alloc_new W4 (.cells #[.slice av ls.length cv] 43))
   case qb => omega
   case qc => simp; omega
   intro tx' W5 o5 g5 p5
   obtain ⟨wa5, M5, f5, z5, s5⟩ := MI.grow1 (unhide Hall).1 o5 g5 (by simpa using p5)
   obtain ⟨b5, n5, c5, rfl⟩ := shape3 o5
   have i9 := cell_of_block (j := 11) wa5
   simp at i9
   have il := (Array.getElem?_eq_some_iff.1 wa5).1
   have if9 := free_block (j := 11) wa5
   have i10 := cell_of_block (j := 12) M5.wa
   simp at i10
   have m5t := M5.t3
   have m5l := M5.lt
   have hz5 : (W5.setCell ⟨wb, 11, none⟩ (.slice b5 n5 c5)).heap.size = W5.heap.size := by simp
   have H5 := hide (And.intro M5 (And.intro f5 s5))
   clear M5 f5 s5 o5 g5 p5 wa5 m4t k9
   go_wp2_with (at_builtin; refine app_sliceI rfl (.tmp 55) (.tmp 57) rfl base _ _ rfl (World.ownsRow.alloc m5t _) ⟨W5.heap.size, 0, none⟩ (.slice a1 n1 c1) rfl ?qa rfl ?qb ?qc ?_)
   case qa =>
    have := cell_of_block (j := 0) (heap_alloc_new (W5.setCell ⟨wb, 11, none⟩ (.slice b5 n5 c5)) (.cells #[.slice a1 n1 c1] 43))
    rw [hz5] at this
    exact this
   case qb => first | omega | (simp; omega)
   case qc => simp; omega
   intro tx' W6 o6 g6 p6
   obtain ⟨wa6, M6, f6, z6, s6⟩ := MI.grow3 (unhide H5).1 o6 g6 (by simpa using p6)
   obtain ⟨b26, n26, c26, rfl⟩ := shape3 o6
   have i26 := cell_of_block (j := 12) wa6
   simp at i26
   have jl6 := (Array.getElem?_eq_some_iff.1 wa6).1
   have jf6 := free_block (j := 12) wa6
   have q46 := cell_of_block (j := 12) M6.wa
   simp at q46
   have m6t := M6.t3
   have m6l := M6.lt
   have hz6 : (W6.setCell ⟨wb, 12, none⟩ (.slice b26 n26 c26)).heap.size = W6.heap.size := by simp
   have H6 := hide (And.intro M6 (And.intro f6 s6))
   clear M6 f6 s6 o6 g6 p6 wa6 m5t
   go_wp2_with (at_builtin; refine app_sliceI rfl (.tmp 65) (.tmp 67) rfl base _ _ rfl (World.ownsRow.alloc m6t _) ⟨W6.heap.size, 0, none⟩ (.slice a2 n2 c2) rfl ?qa rfl ?qb ?qc ?_)
   case qa =>
    have := cell_of_block (j := 0) (heap_alloc_new (W6.setCell ⟨wb, 12, none⟩ (.slice b26 n26 c26)) (.cells #[.slice a2 n2 c2] 43))
    rw [hz6] at this
    exact this
   case qb => first | omega | (simp; omega)
   case qc => simp; omega
   intro tx' W7 o7 g7 p7
   obtain ⟨wa7, M7, f7, z7, s7⟩ := MI.grow3 (unhide H6).1 o7 g7 (by simpa using p7)
   obtain ⟨b27, n27, c27, rfl⟩ := shape3 o7
   have i27 := cell_of_block (j := 12) wa7
   simp at i27
   have jl7 := (Array.getElem?_eq_some_iff.1 wa7).1
   have jf7 := free_block (j := 12) wa7
   have q47 := cell_of_block (j := 12) M7.wa
   simp at q47
   have m7t := M7.t3
   have m7l := M7.lt
   have hz7 : (W7.setCell ⟨wb, 12, none⟩ (.slice b27 n27 c27)).heap.size = W7.heap.size := by simp
   have H7 := hide (And.intro M7 (And.intro f7 s7))
   clear M7 f7 s7 o7 g7 p7 wa7 m6t
   go_wp2_with (at_builtin; refine app_sliceI rfl (.tmp 75) (.tmp 77) rfl base _ _ rfl (World.ownsRow.alloc m7t _) ⟨W7.heap.size, 0, none⟩ (.slice a3 n3 c3) rfl ?qa rfl ?qb ?qc ?_)
   case qa =>
    have := cell_of_block (j := 0) (heap_alloc_new (W7.setCell ⟨wb, 12, none⟩ (.slice b27 n27 c27)) (.cells #[.slice a3 n3 c3] 43))
    rw [hz7] at this
    exact this
   case qb => first | omega | (simp; omega)
   case qc => simp; omega
   intro tx' W8 o8 g8 p8
   obtain ⟨wa8, M8, f8, z8, s8⟩ := MI.grow3 (unhide H7).1 o8 g8 (by simpa using p8)
   obtain ⟨b28, n28, c28, rfl⟩ := shape3 o8
   have i28 := cell_of_block (j := 12) wa8
   simp at i28
   have jl8 := (Array.getElem?_eq_some_iff.1 wa8).1
   have jf8 := free_block (j := 12) wa8
   have q48 := cell_of_block (j := 12) M8.wa
   simp at q48
   have m8t := M8.t3
   have m8l := M8.lt
   have hz8 : (W8.setCell ⟨wb, 12, none⟩ (.slice b28 n28 c28)).heap.size = W8.heap.size := by simp
   have H8 := hide (And.intro M8 (And.intro f8 s8))
   clear M8 f8 s8 o8 g8 p8 wa8 m7t
   obtain ⟨M8, f8, s8⟩ := unhide H8
   obtain ⟨M7, f7, s7⟩ := unhide H7
   obtain ⟨M6, f6, s6⟩ := unhide H6
   obtain ⟨M5, f5, s5⟩ := unhide H5
   obtain ⟨M4, f4, hblk, F0, F1, F2, F3⟩ := unhide Hall
   have fa := fr_comp f5 f6 s5
   have sa := fun x hx => (s6 x hx).elim (fun h => s5 x h) (fun h => Or.inr (by rw [hz5] at h; omega))
   have fb := fr_comp fa f7 sa
   have sb := fun x hx => (s7 x hx).elim (fun h => sa x h) (fun h => Or.inr (by rw [hz6] at h; omega))
   have fc := fr_comp fb f8 sb
   have sc := fun x hx => (s8 x hx).elim (fun h => sb x h) (fun h => Or.inr (by rw [hz7] at h; omega))
   have hbl : ∀ (u : Value) x, (∀ y, u.ownBlock = some y → (Value.slice av ls.length cv).ownBlock = some y ∨ W1.heap.size ≤ y ∧ y < W4.heap.size) → u.ownBlock = some x → ¬ MISet wb (.slice at' l.length ct) (.slice at3 l3.length ct3) x := fun u x hu hx hm => by
    rcases hu x hx with h | h
    ·exact (unhide Hw2).2.1 x h hm
    ·have := (unhide Hw1).1.setLt x hm
     omega
   have hVl : ∀ x, (Value.slice av ls.length cv).ownBlock = some x → x < W1.heap.size := fun x hx => own_lt (unhide Hw1).2.1 hx
   have hx4 : ∀ x, (Value.slice av ls.length cv).ownBlock = some x ∨ (Value.slice a1 n1 c1).ownBlock = some x ∨ (Value.slice a2 n2 c2).ownBlock = some x ∨ (Value.slice a3 n3 c3).ownBlock = some x → (Value.slice av ls.length cv).ownBlock = some x ∨ W1.heap.size ≤ x ∧ x < W4.heap.size := fun x hx => hx.elim Or.inl (fun h => hblk x h)
   have Hlast := hide (show ∀ x, (Value.slice av ls.length cv).ownBlock = some x ∨ (Value.slice a1 n1 c1).ownBlock = some x ∨ (Value.slice a2 n2 c2).ownBlock = some x ∨ (Value.slice a3 n3 c3).ownBlock = some x → ¬ MISet wb (.slice b5 n5 c5) (.slice b28 n28 c28) x ∧ x < W8.heap.size from fun x hx => by
    have hx' := hx4 x hx
    have hxl : x < W4.heap.size := by
     rcases hx' with h | h
     ·have := hVl x h; omega
     ·exact h.2
    refine ⟨fun hm => ?_, by rw [hz5] at z6; rw [hz6] at z7; rw [hz7] at z8; omega⟩
    rcases sc x hm with h | h
    ·rcases hx' with h2 | h2
     ·exact (unhide Hw2).2.1 x h2 h
     ·have := (unhide Hw1).1.setLt x h
      omega
    ·omega)
   have Hend := hide (And.intro M8 (And.intro (And.intro (F0.fr fc (fun x hx => hbl _ x (fun y hy => .inl hy) hx)) (And.intro (F1.fr fc (fun x hx => hbl _ x (fun y hy => hblk y (.inl hy)) hx)) (And.intro (F2.fr fc (fun x hx => hbl _ x (fun y hy => hblk y (.inr (.inl hy))) hx)) (F3.fr fc (fun x hx => hbl _ x (fun y hy => hblk y (.inr (.inr hy))) hx))))) (And.intro (fr_comp (fr_comp (Fr.below (unhide Hw1).2.2) (f4.mono (fun x hx => Or.inr hx)) (fun x hx => .inl hx)) (fc.mono (fun x hx => Or.inl hx)) (fun x hx => .inl hx) : Fr (fun x => MISet wb (.slice at' l.length ct) (.slice at3 l3.length ct3) x ∨ (Value.slice av ls.length cv).ownBlock = some x) w _) (And.intro (fun x hx => (sc x hx).elim Or.inl (fun h => Or.inr (by omega))) (fun x hx => (hblk x hx).elim Or.inl (fun h => Or.inr (by omega)))))))
   clear M8 f8 s8 M7 f7 s7 M6 f6 s6 M5 f5 s5 M4 f4 hblk F0 F1 F2 F3 fa sa fb sb fc sc hbl H8 H7 H6 H5 Hall hx4 hVl
   go_wp2_with fail
   go_end0
   exact ⟨rfl, .slice a1 n1 c1, .slice a2 n2 c2, .slice a3 n3 c3, .slice b5 n5 c5, .slice b28 n28 c28, (unhide Hend).1, (unhide Hend).2.1, (unhide Hend).2.2.1, fun x hx => ((unhide Hend).2.2.2.1 x hx).imp id (fun h => by omega), fun x hx => ((unhide Hend).2.2.2.2 x hx).imp id (fun h => by omega), fun x hx => by simpa using unhide Hlast x hx⟩
end Go.Proofs.YtjmacegibchplaaGreatDoor