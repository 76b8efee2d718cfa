import Derived.Test.YtjmacegibchplaaGreatDoorLnB
/-
  The program's link: what is heard (the closures of bring), and a request that asks what is missing.
-/
namespace Go.Proofs.YtjmacegibchplaaGreatDoor
open Go.RowKit Go.Maps Go.WideMaps
set_option linter.unusedVariables false
theorem try_nil (room : Int) (L : List Int) (k : Nat) (st : List (List UInt8 × List UInt8)) (s : Nat × Nat × Nat) : tryP room L [] (k + 1) st s = if answP (L.getD s.1 0) = true then (0, st, (s.1 + 1, s.2.1 + 0, s.2.2 + 0)) else tryP room L [] k st (s.1 + 1, s.2.1 + 0, s.2.2 + 0) := by
  simp only [tryP, putsP, bytesP, List.length_nil]
  generalize L.getD s.1 0 = f
  by_cases h1 : f = 1
  · have hA : answP f = false := by subst h1; rfl
    rw [if_pos h1, hA]; simp
  · rw [if_neg h1]
    by_cases h2 : f = 2
    · have hA : answP f = false := by subst h2; rfl
      rw [hA]; simp [h2]
    · have hA : answP f = true := by unfold answP; simp [h1, h2]
      rw [if_pos h2, hA]; simp
theorem heard_pos {k : Int} (h : answP k = true) : 1 ≤ heardP k := by
  unfold answP at h
  unfold heardP
  simp only [Bool.and_eq_true, Bool.not_eq_true', beq_eq_false_iff_ne] at h
  rw [if_neg h.1]
  split <;> decide
theorem heard_bd (k : Int) : 0 ≤ heardP k ∧ heardP k ≤ 2 := by
  unfold heardP
  split
  · decide
  · split <;> decide
theorem IntsAt.fr {S : Nat → Prop} {w w' : World} {a : Option Addr} {l : List Int} (h : IntsAt w a l) (hf : Fr S w w') (hn : ∀ b o, a = some ⟨b, o, none⟩ → l ≠ [] → ¬ S b) : IntsAt w' a l := by
  rcases h with h | ⟨b, o, e, h⟩
  · exact .inl h
  · by_cases hl : l = []
    · exact .inl hl
    · exact .inr ⟨b, o, e, fun i hi => cell_fr hf (h i hi) (hn b o e hl)⟩
def capV (c7 c9 : Nat) (f : FuncId) : Value := .func (.func f) #[] #[ptr c7, ptr c9]
theorem hear1 (c7 c9 : Nat) (st : List (List UInt8 × List UInt8)) (pb um n : Nat) (room : Int) (l : List (List UInt8)) (a : Option Addr) (c : Nat) (w : World) (h7 : w.heap[c7]? = some (.cells #[.pointer (some ⟨pb, 0, none⟩)] 95 (0, 0))) (h9 : w.heap[c9]? = some (.cells #[.slice a l.length c] 23 (0, 0)))
    (h : PStore w pb um n room st) (hl : l.length ≤ 1100000) (ht : TextsAt w a l) (hx : ∀ x ∈ l, x.length ≤ 10000000) :
    Calls Tryz.prog 131 #[ptr c7, ptr c9] w fun e w' => ∃ v, e = .returned v ∧ OwnsS w' w.heap.size v (missTo st l l.length) ∧ Below w.heap.size w w' := by
  have hm := missing_any st pb um n room l a c w h hl ht hx
  have k7 := cell_of_block (j := 0) h7
  have k9 := cell_of_block (j := 0) h9
  simp only [List.getElem?_toArray, List.getElem?_cons_zero] at k7 k9
  clear h7 h9 h ht hx
  generalize l.length = nl at *
  unfold ptr
  go_enter Tryz.func131, Tryz.ntmps131
  go_wp2_with fail
  refine hm.mono ?_
  rintro e w1 ⟨v, rfl, ho, hb⟩
  go_wp2_with fail
  go_ret
  exact ⟨v, rfl, ho, hb⟩
theorem hear2 (c7 c9 : Nat) (l : List (List UInt8)) (ab : Option Addr) (cb : Nat) (st : List (List UInt8 × List UInt8)) (pb um n : Nat) (room : Int) (w : World) (h7 : w.heap[c7]? = some (.cells #[.pointer (some ⟨pb, 0, none⟩)] 95 (0, 0))) (h9 : w.heap[c9]? = some (.cells #[.slice ab l.length cb] 23 (0, 0)))
    (h : PStore w pb um n room st) (ht : TextsAt w ab l) (hne : ∀ b o q, ab = some ⟨b, o, q⟩ → b ≠ pb ∧ b ≠ um) (hl : l.length ≤ 2000000) (hx : ∀ x ∈ l, x.length ≤ 10000000) (hn : n + l.length ≤ 1000000000000) (hsum : sumP st ≤ 1000000000000) (hr0 : 0 ≤ room) (hr : room ≤ 100000) :
    Calls Tryz.prog 135 #[ptr c7, ptr c9] w fun e w' => e = .returned (.int .i64 (putsP room st l).1) ∧ PStore w' pb um (n + l.length) room (putsP room st l).2 ∧ sumP (putsP room st l).2 ≤ 1000000000000 ∧ Fr (fun x => x = pb ∨ x = um) w w' := by
  have hm := putAll_any l ab cb st pb um n room w h ht hne hl hx hn hsum hr0 hr
  have k7 := cell_of_block (j := 0) h7
  have k9 := cell_of_block (j := 0) h9
  simp only [List.getElem?_toArray, List.getElem?_cons_zero] at k7 k9
  clear h7 h9 h ht hx hne
  generalize putsP room st l = P0 at *
  generalize l.length = nl at *
  unfold ptr
  go_enter Tryz.func135, Tryz.ntmps135
  go_wp2_with fail
  refine hm.mono ?_
  rintro e w1 ⟨rfl, ho, hs, hf⟩
  go_wp2_with fail
  go_ret
  exact ⟨rfl, ho, hs, hf⟩
set_option maxRecDepth 100000 in
set_option maxHeartbeats 4000000 in
theorem send1 (c7 c9 : Nat) (st : List (List UInt8 × List UInt8)) (pb um n lb : Nat) (room : Int) (l : List (List UInt8)) (a9 : Option Addr) (c9' : Nat) (L : List Int) (a : Option Addr) (c T : Nat) (s : Nat × Nat × Nat) (w : World)
    (h7 : w.heap[c7]? = some (.cells #[.pointer (some ⟨pb, 0, none⟩)] 95 (0, 0))) (h9 : w.heap[c9]? = some (.cells #[.slice a9 l.length c9'] 23 (0, 0)))
    (h : PStore w pb um n room st) (hl : l.length ≤ 1100000) (ht : TextsAt w a9 l) (hx : ∀ x ∈ l, x.length ≤ 10000000) (hn9 : ∀ b o q, a9 = some ⟨b, o, q⟩ → b ≠ lb)
    (hk : LnkIs w lb s (T : Int) a L.length c) (hi : IntsAt w a L) (hin : ∀ b o, a = some ⟨b, o, none⟩ → L ≠ [] → b ≠ lb) (hL : L.length ≤ maxLen) (hT : T ≤ 9) (hs : s.1 ≤ 1000000000 ∧ s.2.1 ≤ 1000000000 ∧ s.2.2 ≤ 1000000000) :
    Calls Tryz.prog 130 #[.pointer (some ⟨lb, 0, none⟩), .slice none 0 0, capV c7 c9 131] w fun e w' =>
      ∃ v, e = .returned (.tuple #[v, .int .i64 (tryP room L [] T st s).1]) ∧ ((tryP room L [] T st s).1 = 0 → OwnsS w' w.heap.size v (missTo st l l.length)) ∧ LnkIs w' lb (tryP room L [] T st s).2.2 (T : Int) a L.length c ∧ Fr (fun x => x = lb) w w' := by
  have e1 : ∀ args w, (callFunc 131 args).run Tryz.prog w = .ok (.enter 131 args) w := enters_of Tryz.func131 (by kernel_rfl) rfl
  have hlb := hk.lt
  have n7 : c7 ≠ lb := fun e => by have a := h7; rw [e, hk] at a; simp at a
  have n9 : c9 ≠ lb := fun e => by have a := h9; rw [e, hk] at a; simp at a
  have np : pb ≠ lb := fun e => by have a := h.s; rw [e, hk] at a; simp at a
  have nu : um ≠ lb := fun e => (map_ne_cells h.m hk) e.symm
  have hh : ∀ W, Fr (fun x => x = lb) w W → Calls Tryz.prog 131 #[ptr c7, ptr c9] W fun e w' => ∃ v, e = .returned v ∧ OwnsS w' W.heap.size v (missTo st l l.length) ∧ Below W.heap.size W w' := fun W hW =>
    hear1 c7 c9 st pb um n room l a9 c9' W ((hW.block c7 (Array.getElem?_eq_some_iff.1 h7).1 n7).trans h7) ((hW.block c9 (Array.getElem?_eq_some_iff.1 h9).1 n9).trans h9) (h.fr hW np nu) hl (ht.fr hW hn9) hx
  have hnx : ∀ W s', Fr (fun x => x = lb) w W → LnkIs W lb s' (T : Int) a L.length c → s'.1 ≤ 1000000000000 → Calls Tryz.prog 174 #[.pointer (some ⟨lb, 0, none⟩)] W fun e w' => e = .returned (.int .i64 (L.getD s'.1 0)) ∧ ∃ q, w' = W.drewN q := fun W s' hW hk' hs' =>
    next_any L a c lb s' (T : Int) W hk' (hi.fr hW hin) hL hs'
  have k3 : w.cell? ⟨lb, 3, none⟩ = some (.int .i64 (T : Int)) := cell_of_block hk
  have Hh := hide hh
  have Hnx := hide hnx
  have Hk := hide hk
  clear h7 h9 h ht hx hn9 hi hin hh hnx hk np nu n7 n9
  generalize missTo st l l.length = M at *
  generalize L.length = nL at *
  unfold capV ptr
  go_enter Tryz.func130, Tryz.ntmps130
  go_wp2_with fail
  go_loopw [8, 15] (fun v i wr => ∃ (k : Nat) (s' : Nat × Nat × Nat), k ≤ T ∧ i = .int .i64 k ∧ LnkIs wr lb s' (T : Int) a nL c ∧ tryP room L [] T st s = tryP room L [] (T - k) st s' ∧ (s'.1 ≤ 1000000000 + k ∧ s'.2.1 ≤ 1000000000 ∧ s'.2.2 ≤ 1000000000) ∧ Fr (fun x => x = lb) w wr) (fun _ i _ => T - (intOf i).toNat)
  case atStart => exact ⟨0, s, by omega, rfl, unhide Hk, rfl, ⟨by omega, hs.2.1, hs.2.2⟩, fr_refl _ _⟩
  case round =>
    obtain ⟨k, s', hk, rfl, hln, heq, hsb, hfr⟩ := hrel
    clear Hk k3
    have Heq := hide heq
    clear heq
    by_cases hlt : k < T
    · have q1 : (k : Int) < (T : Int) := by omega
      have Hst := hide (show tryP room L [] T st s = if answP (L.getD s'.1 0) = true then (0, st, (s'.1 + 1, s'.2.1 + 0, s'.2.2 + 0)) else tryP room L [] (T - (k + 1)) st (s'.1 + 1, s'.2.1 + 0, s'.2.2 + 0) by rw [unhide Heq, show T - k = (T - (k + 1)) + 1 by omega, try_nil])
      have hn1 := unhide Hnx wr s' hfr hln (by omega)
      go_wp2_with fail
      refine hn1.mono ?_
      rintro e w1 ⟨rfl, q, hw1⟩
      have hln1 : LnkIs w1 lb s' (T : Int) a nL c := by rw [hw1]; exact hln
      have hfr1 : Fr (fun x => x = lb) w w1 := by rw [hw1]; exact hfr.trans (fr_drewN _ _ _)
      clear hw1 hln hfr hn1
      generalize L.getD s'.1 0 = f at *
      have hct := count_any [] none 0 lb s' (T : Int) a nL c w1 hln1 (.inl rfl) (by simp) (by decide) (by decide) ⟨by omega, by omega, by omega⟩
      go_wp2_with fail
      refine hct.mono ?_
      rintro e w2 ⟨rfl, hln2, hf2⟩
      have hfr2 := hfr1.trans hf2
      clear hct hln1 hfr1 hf2
      obtain ⟨hb0, hb2⟩ := heard_bd f
      have Hpos := hide (fun h => heard_pos (k := f) h)
      have hhd := heard_any f w2
      have han := fun w => answered_any f w
      generalize heardP f = hn at *
      go_wp2_with fail
      refine hhd.mono ?_
      rintro e w3 ⟨rfl, hw3⟩
      subst hw3
      clear hhd
      go_wp2_with fail
      go_loopw [8, 24] (fun v i wr => ∃ j : Nat, (j : Int) ≤ hn ∧ i = .int .i64 j ∧ (0 < j → OwnsS wr w.heap.size v M) ∧ LnkIs wr lb (s'.1 + 1, s'.2.1 + 0, s'.2.2 + 0) (T : Int) a nL c ∧ Fr (fun x => x = lb) w wr) (fun _ i _ => hn.toNat - (intOf i).toNat)
      case atStart => exact ⟨0, by omega, rfl, fun h => by omega, hln2, hfr2⟩
      case round =>
        obtain ⟨j, hj, rfl, hown, hln, hfr⟩ := hrel
        clear hln2 hfr2
        by_cases hjn : (j : Int) < hn
        · have hhw := unhide Hh wr hfr
          unfold ptr at hhw
          go_wp2_with fail
          refine hhw.mono ?_
          rintro e w4 ⟨v, rfl, ho4, hb4⟩
          have hln4 : LnkIs w4 lb (s'.1 + 1, s'.2.1 + 0, s'.2.2 + 0) (T : Int) a nL c := (hb4.block lb hln.lt).trans hln
          have hfr4 : Fr (fun x => x = lb) w w4 := hfr.trans (Fr.below hb4)
          have ho5 : OwnsS w4 w.heap.size v M := ⟨ho4.1, ho4.2.imp id (fun ⟨g, cap, cur, h1, h2, h3⟩ => ⟨g, cap, cur, h1, Nat.le_trans hfr.size h2, h3⟩)⟩
          clear hhw hln hb4 hown ho4
          go_wp2_with fail
          go_roundw
          case rel => exact ⟨j + 1, by omega, by go_num, fun _ => ho5, hln4, hfr4⟩
          case measure => simp [intOf]; omega
        · have hjn2 : (j : Int) = hn := by omega
          cases hA : answP f with
          | true =>
            have ha := fun w => han w
            rw [hA] at ha
            have Hr := hide (show tryP room L [] T st s = (0, st, (s'.1 + 1, s'.2.1 + 0, s'.2.2 + 0)) by rw [unhide Hst, if_pos hA])
            have hown' := hown (by have := unhide Hpos hA; omega)
            clear hown
            go_wp2_with (go_at_call 177; refine (ha _).mono ?_; rintro e w' ⟨rfl, hw'⟩; rw [hw']; clear hw' w')
            go_ret2
            exact ⟨_, by rw [unhide Hr]; rfl, fun _ => hown', by rw [unhide Hr]; exact hln, hfr⟩
          | false =>
            have ha := fun w => han w
            rw [hA] at ha
            have Hr := hide (show tryP room L [] T st s = tryP room L [] (T - (k + 1)) st (s'.1 + 1, s'.2.1 + 0, s'.2.2 + 0) by rw [unhide Hst, if_neg (by rw [hA]; simp)])
            clear hown
            go_wp2_with (go_at_call 177; refine (ha _).mono ?_; rintro e w' ⟨rfl, hw'⟩; rw [hw']; clear hw' w')
            go_roundw
            case rel => exact ⟨k + 1, (s'.1 + 1, s'.2.1 + 0, s'.2.2 + 0), by omega, by go_num, hln, unhide Hr, ⟨by simp only; omega, hsb.2.1, hsb.2.2⟩, hfr⟩
            case measure => simp [intOf]; omega
    · obtain rfl : k = T := by omega
      have Hr := hide (show tryP room L [] k st s = (10, st, s') by rw [unhide Heq, Nat.sub_self]; rfl)
      go_wp2_with fail
      go_ret2
      exact ⟨_, by rw [unhide Hr]; rfl, fun h => by rw [unhide Hr] at h; simp at h, by rw [unhide Hr]; exact hln, hfr⟩
end Go.Proofs.YtjmacegibchplaaGreatDoor

/-
  The program's link: a request that brings blobs.
-/
namespace Go.Proofs.YtjmacegibchplaaGreatDoor
open Go.RowKit Go.Maps Go.WideMaps
set_option linter.unusedVariables false
def hearsP (room : Int) (l : List (List UInt8)) (st : List (List UInt8 × List UInt8)) : Nat → Int × List (List UInt8 × List UInt8)
  | 0 => (0, st)
  | j + 1 => putsP room (hearsP room l st j).2 l
theorem try_step (room : Int) (L : List Int) (l : List (List UInt8)) (k : Nat) (st : List (List UInt8 × List UInt8)) (s : Nat × Nat × Nat) :
    tryP room L l (k + 1) st s = if answP (L.getD s.1 0) = true then ((hearsP room l st (heardP (L.getD s.1 0)).toNat).1, (hearsP room l st (heardP (L.getD s.1 0)).toNat).2, (s.1 + 1, s.2.1 + l.length, s.2.2 + bytesP l)) else tryP room L l k (hearsP room l st (heardP (L.getD s.1 0)).toNat).2 (s.1 + 1, s.2.1 + l.length, s.2.2 + bytesP l) := by
  simp only [tryP]
  generalize L.getD s.1 0 = f
  by_cases h1 : f = 1
  · subst h1
    rw [if_pos rfl, if_neg (by decide)]
    rfl
  · rw [if_neg h1]
    by_cases h3 : f = 3
    · subst h3
      rw [if_pos rfl, if_pos (by decide), if_pos (by decide)]
      rfl
    · rw [if_neg h3]
      have hh : heardP f = 1 := by unfold heardP; rw [if_neg h1, if_neg h3]
      rw [hh]
      by_cases h2 : f = 2
      · subst h2
        rw [if_neg (by decide), if_neg (by decide)]
        rfl
      · rw [if_pos h2, if_pos (by unfold answP; simp [h1, h2])]
        rfl
theorem own_fr {S : Nat → Prop} {w w' : World} {base e size n : Nat} {v : Value} {xs : List Value} (h : w.ownsRow base e size v n xs) (hf : Fr S w w') (hn : ∀ g, v.ownBlock = some g → ¬ S g) : w'.ownsRow base e size v n xs :=
  ownsRow_same h (fun g hg => hf.block g (own_lt h hg) (hn g hg))
set_option maxRecDepth 100000 in
set_option maxHeartbeats 4000000 in
theorem send2 (c7 c9 : Nat) (st : List (List UInt8 × List UInt8)) (pb um n lb : Nat) (room : Int) (l : List (List UInt8)) (ab : Option Addr) (cb : Nat) (L : List Int) (a : Option Addr) (c T : Nat) (s : Nat × Nat × Nat) (w : World)
    (h7 : w.heap[c7]? = some (.cells #[.pointer (some ⟨pb, 0, none⟩)] 95 (0, 0))) (h9 : w.heap[c9]? = some (.cells #[.slice ab l.length cb] 23 (0, 0)))
    (h : PStore w pb um n room st) (hl : l.length ≤ 100) (hby : bytesP l ≤ 1000000) (ht : TextsAt w ab l) (hx : ∀ x ∈ l, x.length ≤ 10000000) (hnb : ∀ b o q, ab = some ⟨b, o, q⟩ → b ≠ lb ∧ b ≠ pb ∧ b ≠ um)
    (hk : LnkIs w lb s (T : Int) a L.length c) (hi : IntsAt w a L) (hin : ∀ b o, a = some ⟨b, o, none⟩ → L ≠ [] → b ≠ lb ∧ b ≠ pb ∧ b ≠ um) (hL : L.length ≤ maxLen) (hT : T ≤ 9) (hs : s.1 ≤ 1000000000 ∧ s.2.1 ≤ 1000000000 ∧ s.2.2 ≤ 1000000000)
    (hn : n ≤ 100000000000) (hsum : sumP st ≤ 1000000000000) (hr0 : 0 ≤ room) (hr : room ≤ 100000) :
    Calls Tryz.prog 134 #[.pointer (some ⟨lb, 0, none⟩), .slice ab l.length cb, capV c7 c9 135] w fun e w' =>
      ∃ x y : Int, e = .returned (.tuple #[.int .i64 x, .int .i64 y]) ∧ (tryP room L l T st s).1 = (if y = 0 then x else y) ∧ (∃ n', n' ≤ n + 1800 ∧ PStore w' pb um n' room (tryP room L l T st s).2.1) ∧ sumP (tryP room L l T st s).2.1 ≤ 1000000000000 ∧ LnkIs w' lb (tryP room L l T st s).2.2 (T : Int) a L.length c ∧
        ((tryP room L l T st s).2.2.1 ≤ s.1 + 9 ∧ (tryP room L l T st s).2.2.2.1 ≤ s.2.1 + 900 ∧ (tryP room L l T st s).2.2.2.2 ≤ s.2.2 + 9000000) ∧ Fr (fun x => x = lb ∨ x = pb ∨ x = um) w w' := by
  have e1 : ∀ args w, (callFunc 135 args).run Tryz.prog w = .ok (.enter 135 args) w := enters_of Tryz.func135 (by kernel_rfl) rfl
  have hlb := hk.lt
  have n7 : c7 ≠ lb ∧ c7 ≠ pb ∧ c7 ≠ um := ⟨fun e => by have a := h7; rw [e, hk] at a; simp at a, fun e => by have a := h7; rw [e, h.s] at a; simp at a, fun e => (map_ne_cells h.m h7) e⟩
  have n9 : c9 ≠ lb ∧ c9 ≠ pb ∧ c9 ≠ um := ⟨fun e => by have a := h9; rw [e, hk] at a; simp at a, fun e => by have a := h9; rw [e, h.s] at a; simp at a, fun e => (map_ne_cells h.m h9) e⟩
  have np : lb ≠ pb := fun e => by have a := h.s; rw [← e, hk] at a; simp at a
  have nu : lb ≠ um := map_ne_cells h.m hk
  have hh : ∀ W m st', Fr (fun x => x = lb ∨ x = pb ∨ x = um) w W → PStore W pb um m room st' → m ≤ 200000000000 → sumP st' ≤ 1000000000000 → Calls Tryz.prog 135 #[ptr c7, ptr c9] W fun e w' => e = .returned (.int .i64 (putsP room st' l).1) ∧ PStore w' pb um (m + l.length) room (putsP room st' l).2 ∧ sumP (putsP room st' l).2 ≤ 1000000000000 ∧ Fr (fun x => x = pb ∨ x = um) W w' := fun W m st' hW hp hm hs' =>
    hear2 c7 c9 l ab cb st' pb um m room W ((hW.block c7 (Array.getElem?_eq_some_iff.1 h7).1 (by omega)).trans h7) ((hW.block c9 (Array.getElem?_eq_some_iff.1 h9).1 (by omega)).trans h9) hp (ht.fr hW (fun b o q e => by have := hnb b o q e; omega)) (fun b o q e => (hnb b o q e).2) (by omega) hx (by omega) hs' hr0 hr
  have hnx : ∀ W s', Fr (fun x => x = lb ∨ x = pb ∨ x = um) w W → LnkIs W lb s' (T : Int) a L.length c → s'.1 ≤ 1000000000000 → Calls Tryz.prog 174 #[.pointer (some ⟨lb, 0, none⟩)] W fun e w' => e = .returned (.int .i64 (L.getD s'.1 0)) ∧ ∃ q, w' = W.drewN q := fun W s' hW hk' hs' =>
    next_any L a c lb s' (T : Int) W hk' (hi.fr hW (fun b o e hn => by have := hin b o e hn; omega)) hL hs'
  have hcn : ∀ W s', Fr (fun x => x = lb ∨ x = pb ∨ x = um) w W → LnkIs W lb s' (T : Int) a L.length c → (s'.1 ≤ 1000000000000 ∧ s'.2.1 ≤ 1000000000000 ∧ s'.2.2 ≤ 1000000000000) → Calls Tryz.prog 175 #[.pointer (some ⟨lb, 0, none⟩), .slice ab l.length cb] W fun e w' => e = .returned (.tuple #[]) ∧ LnkIs w' lb (s'.1 + 1, s'.2.1 + l.length, s'.2.2 + bytesP l) (T : Int) a L.length c ∧ Fr (fun x => x = lb) W w' := fun W s' hW hk' hs' =>
    count_any l ab cb lb s' (T : Int) a L.length c W hk' (ht.fr hW (fun b o q e => by have := hnb b o q e; omega)) (fun b o q e => (hnb b o q e).1) (by omega) (by omega) hs'
  have k3 : w.cell? ⟨lb, 3, none⟩ = some (.int .i64 (T : Int)) := cell_of_block hk
  have Hh := hide hh
  have Hnx := hide hnx
  have Hcn := hide hcn
  have Hk := hide hk
  have Hp := hide h
  have Hstep := hide (fun k st s => try_step room L l k st s)
  clear h7 h9 h ht hx hnb hi hin hh hnx hcn hk n7 n9
  generalize hnL : L.length = nL at *
  generalize hnl : l.length = nl at *
  generalize hbl : bytesP l = bl at *
  clear hnL hnl hbl
  unfold capV ptr
  go_enter Tryz.func134, Tryz.ntmps134
  go_wp2_with fail
  go_loopw [8, 15] (fun v i wr => ∃ (k : Nat) (s' : Nat × Nat × Nat) (st' : List (List UInt8 × List UInt8)) (n' : Nat), k ≤ T ∧ i = .int .i64 k ∧ LnkIs wr lb s' (T : Int) a nL c ∧ tryP room L l T st s = tryP room L l (T - k) st' s' ∧ (s'.1 ≤ s.1 + k ∧ s'.2.1 ≤ s.2.1 + 100 * k ∧ s'.2.2 ≤ s.2.2 + 1000000 * k) ∧ PStore wr pb um n' room st' ∧ n' ≤ n + 200 * k ∧ sumP st' ≤ 1000000000000 ∧ Fr (fun x => x = lb ∨ x = pb ∨ x = um) w wr) (fun _ i _ => T - (intOf i).toNat)
  case atStart => exact ⟨0, s, st, n, by omega, rfl, unhide Hk, rfl, ⟨by omega, by omega, by omega⟩, unhide Hp, by omega, hsum, fr_refl _ _⟩
  case round =>
    obtain ⟨k, s', st', n', hk, rfl, hln, heq, hsb, hps, hn', hss, hfr⟩ := hrel
    clear Hk k3 Hp
    have Heq := hide heq
    clear heq
    by_cases hlt : k < T
    · have q1 : (k : Int) < (T : Int) := by omega
      have Hst := hide (show tryP room L l T st s = _ by rw [unhide Heq, show T - k = (T - (k + 1)) + 1 by omega, unhide Hstep])
      have hn1 := unhide Hnx wr s' hfr hln (by omega)
      go_wp2_with fail
      refine hn1.mono ?_
      rintro e w1 ⟨rfl, q, hw1⟩
      have hln1 : LnkIs w1 lb s' (T : Int) a nL c := by rw [hw1]; exact hln
      have hps1 : PStore w1 pb um n' room st' := by rw [hw1]; exact hps.same (fun _ _ => rfl)
      have hfr1 : Fr (fun x => x = lb ∨ x = pb ∨ x = um) w w1 := by rw [hw1]; exact hfr.trans (fr_drewN _ _ _)
      clear hw1 hln hfr hn1 hps
      generalize L.getD s'.1 0 = f at *
      have hct := unhide Hcn w1 s' hfr1 hln1 ⟨by omega, by omega, by omega⟩
      go_wp2_with fail
      refine hct.mono ?_
      rintro e w2 ⟨rfl, hln2, hf2⟩
      have hps2 : PStore w2 pb um n' room st' := hps1.fr hf2 (Ne.symm np) (Ne.symm nu)
      have hfr2 : Fr (fun x => x = lb ∨ x = pb ∨ x = um) w w2 := hfr1.trans (hf2.mono (fun x h => .inl h))
      clear hct hln1 hfr1 hf2 hps1
      obtain ⟨hb0, hb2⟩ := heard_bd f
      have Hpos := hide (fun h => heard_pos (k := f) h)
      have hhd := heard_any f w2
      have han := fun w => answered_any f w
      generalize heardP f = hn at *
      go_wp2_with fail
      refine hhd.mono ?_
      rintro e w3 ⟨rfl, hw3⟩
      subst hw3
      clear hhd
      go_wp2_with fail
      go_loopw [8, 24] (fun v i wr => ∃ (j m : Nat), (j : Int) ≤ hn ∧ i = .int .i64 j ∧ (0 < j → v = .int .i64 (hearsP room l st' j).1) ∧ PStore wr pb um m room (hearsP room l st' j).2 ∧ m ≤ n + 200 * k + 100 * j ∧ sumP (hearsP room l st' j).2 ≤ 1000000000000 ∧ LnkIs wr lb (s'.1 + 1, s'.2.1 + nl, s'.2.2 + bl) (T : Int) a nL c ∧ Fr (fun x => x = lb ∨ x = pb ∨ x = um) w wr) (fun _ i _ => hn.toNat - (intOf i).toNat)
      case atStart => exact ⟨0, n', by omega, rfl, fun h => by omega, hps2, by omega, hss, hln2, hfr2⟩
      case round =>
        obtain ⟨j, m, hj, rfl, hv, hps, hm, hss2, hln, hfr⟩ := hrel
        clear hln2 hfr2 hps2
        by_cases hjn : (j : Int) < hn
        · have hhw := unhide Hh wr m (hearsP room l st' j).2 hfr hps (by omega) hss2
          have Hsu := hide (show hearsP room l st' (j + 1) = putsP room (hearsP room l st' j).2 l from rfl)
          generalize hearsP room l st' j = hj0 at *
          generalize putsP room hj0.2 l = hj1 at *
          unfold ptr at hhw
          go_wp2_with fail
          refine hhw.mono ?_
          rintro e w4 ⟨rfl, hp4, hs4, hf4⟩
          have hln4 : LnkIs w4 lb (s'.1 + 1, s'.2.1 + nl, s'.2.2 + bl) (T : Int) a nL c := hln.fr hf4 (by omega)
          have hfr4 : Fr (fun x => x = lb ∨ x = pb ∨ x = um) w w4 := hfr.trans (hf4.mono (fun x h => .inr h))
          clear hhw hln hf4 hv hps
          go_wp2_with fail
          go_roundw
          case rel => exact ⟨j + 1, m + nl, by omega, by go_num, fun _ => by rw [unhide Hsu], by rw [unhide Hsu]; exact hp4, by omega, by rw [unhide Hsu]; exact hs4, hln4, hfr4⟩
          case measure => simp [intOf]; omega
        · have hjn2 : hn.toNat = j := by omega
          rw [hjn2] at Hst
          cases hA : answP f with
          | true =>
            have ha := fun w => han w
            rw [hA] at ha
            have Hr := hide (show tryP room L l T st s = ((hearsP room l st' j).1, (hearsP room l st' j).2, (s'.1 + 1, s'.2.1 + nl, s'.2.2 + bl)) by rw [unhide Hst, if_pos hA])
            have hv' := hv (by have := unhide Hpos hA; omega)
            subst hv'
            clear hv Hst Heq
            generalize hearsP room l st' j = hj0 at *
            go_wp2_with (go_at_call 177; refine (ha _).mono ?_; rintro e w' ⟨rfl, hw'⟩; rw [hw']; clear hw' w')
            go_ret2
            refine ⟨_, _, rfl, by rw [unhide Hr]; rfl, ⟨m, by omega, by rw [unhide Hr]; exact hps⟩, by rw [unhide Hr]; exact hss2, by rw [unhide Hr]; exact hln, ?_, hfr⟩
            rw [unhide Hr]
            simp only
            omega
          | false =>
            have ha := fun w => han w
            rw [hA] at ha
            have Hr := hide (show tryP room L l T st s = tryP room L l (T - (k + 1)) (hearsP room l st' j).2 (s'.1 + 1, s'.2.1 + nl, s'.2.2 + bl) by rw [unhide Hst, if_neg (by rw [hA]; simp)])
            clear hv Hst Heq
            generalize hearsP room l st' j = hj0 at *
            go_wp2_with (go_at_call 177; refine (ha _).mono ?_; rintro e w' ⟨rfl, hw'⟩; rw [hw']; clear hw' w')
            go_roundw
            case rel => exact ⟨k + 1, (s'.1 + 1, s'.2.1 + nl, s'.2.2 + bl), hj0.2, m, by omega, by go_num, hln, unhide Hr, ⟨by simp only; omega, by simp only; omega, by simp only; omega⟩, hps, by omega, hss2, hfr⟩
            case measure => simp [intOf]; omega
    · obtain rfl : k = T := by omega
      have Hr := hide (show tryP room L l k st s = (10, st', s') by rw [unhide Heq, Nat.sub_self]; rfl)
      go_wp2_with fail
      go_ret2
      refine ⟨_, _, rfl, by rw [unhide Hr]; rfl, ⟨n', by omega, by rw [unhide Hr]; exact hps⟩, by rw [unhide Hr]; exact hss, by rw [unhide Hr]; exact hln, ?_, hfr⟩
      rw [unhide Hr]
      simp only
      omega
end Go.Proofs.YtjmacegibchplaaGreatDoor
