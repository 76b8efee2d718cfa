/-
  The program's bring.
-/
import Derived.Test.YtjmacegibchplaaGreatDoorBrgP
namespace Go.Proofs.YtjmacegibchplaaGreatDoor
open Go.RowKit Go.Maps Go.WideMaps
set_option linter.unusedVariables false
set_option maxRecDepth 100000 in
set_option maxHeartbeats 4000000 in
theorem bring_prog (root : ByteArray) (bm nb : Nat) (kr : List (List UInt8)) (batch : Int) (st : List (List UInt8 × List UInt8)) (pb um n lb : Nat) (room : Int) (L : List Int) (a : Option Addr) (c T : Nat) (w : World)
    (hm : MapIs w bm nb (blobsF kr)) (hnb : nb ≤ 5000000000) (hdl : (digsOf kr).length ≤ 41) (hsm : ∀ y ∈ kr, y.length ≤ 2000) (hb0 : 1 ≤ batch) (hb1 : batch ≤ 5000)
    (h : PStore w pb um n room st) (hk : LnkIs w lb (0, 0, 0) (T : Int) a L.length c) (hi : IntsAt w a L) (hin : ∀ b o, a = some ⟨b, o, none⟩ → L ≠ [] → b ≠ lb ∧ b ≠ pb ∧ b ≠ um) (hL : L.length ≤ maxLen) (hT : T ≤ 9)
    (hn : n ≤ 90000000000) (hsum : sumP st ≤ 1000000000000) (hr0 : 0 ≤ room) (hr : room ≤ 100000) :
    Calls Tryz.prog 88 #[setV root (some bm), .int .i64 batch, .pointer (some ⟨lb, 0, none⟩), .pointer (some ⟨pb, 0, none⟩)] w fun e w' =>
      e = .returned (.int .i64 (bringP room batch T L (listOf kr) st).1) ∧ (∃ n', n' ≤ n + 100000 ∧ PStore w' pb um n' room (bringP room batch T L (listOf kr) st).2.1) ∧ sumP (bringP room batch T L (listOf kr) st).2.1 ≤ 1000000000000 ∧ LnkIs w' lb (bringP room batch T L (listOf kr) st).2.2 (T : Int) a L.length c ∧ Fr (fun x => x = lb ∨ x = pb ∨ x = um) w w' := by
  have hmf : ∀ (fn : Fn) (first cap : Array Value) (w : World), (Instr.makeFunc fn first cap).run Tryz.prog w = .ok (.func fn first cap) w := fun _ _ _ _ => rfl
  have hlb := hk.lt
  have hlp := h.lt pb (.inl rfl)
  have hlu := h.lt um (.inr rfl)
  -- the plain side
  have hmt : missTo st (digsOf kr) (digsOf kr).length = (digsOf kr).filter (fun d => !(atP st d).isSome) := by
    have := miss_nodup st (digsOf kr) (digs_ne kr) (digsOf kr).length (Nat.le_refl _)
    rwa [List.take_length] at this
  have hbf := bytes_filter kr st
  have hbr : bringP room batch T L (listOf kr) st = if (tryP room L [] T st (0, 0, 0)).1 ≠ 0 then tryP room L [] T st (0, 0, 0) else sendsP room T L (chopP batch ((listOf kr).filter (fun b => !(atP st (P.digest b)).isSome)).length ((listOf kr).filter (fun b => !(atP st (P.digest b)).isSome))) (tryP room L [] T st (0, 0, 0)).2.1 (tryP room L [] T st (0, 0, 0)).2.2 := by
    unfold bringP
    simp only
    rw [send_chop]
  obtain ⟨ht1, ht2, ht3, ht4⟩ := try_nil_bd room L st T (0, 0, 0)
  -- the worlds ahead of the first request
  have hbA : Below w.heap.size w ((w.alloc (.cells #[.string root, .map (some bm)] 77)).alloc (.cells #[.pointer (some ⟨pb, 0, none⟩)] 95)) := ((Below.refl _ _).alloc (Nat.le_refl _) _).alloc (by simp) _
  have hs4 : ((w.alloc (.cells #[.string root, .map (some bm)] 77)).alloc (.cells #[.pointer (some ⟨pb, 0, none⟩)] 95)).heap[w.heap.size]? = some (.cells #[.string root, .map (some bm)] 77 (0, 0)) := (Below.heap_alloc _ _ _ (by simp)).trans (heap_alloc_new w _)
  have hs7 : ((w.alloc (.cells #[.string root, .map (some bm)] 77)).alloc (.cells #[.pointer (some ⟨pb, 0, none⟩)] 95)).heap[w.heap.size + 1]? = some (.cells #[.pointer (some ⟨pb, 0, none⟩)] 95 (0, 0)) := by
    have := heap_alloc_new (w.alloc (.cells #[.string root, .map (some bm)] 77)) (.cells #[.pointer (some ⟨pb, 0, none⟩)] 95)
    rw [show (w.alloc (.cells #[.string root, .map (some bm)] 77)).heap.size = w.heap.size + 1 by simp] at this
    exact this
  have hdg := fun W (hW : MapIs W bm nb (blobsF kr)) => digests_any root bm nb kr W hW hnb
  unfold setV at hdg ⊢
  have Hdg := hide hdg
  have Hbr := hide hbr
  have Hmt := hide hmt
  have Hbf := hide hbf
  have Ht := hide (And.intro ht1 (And.intro ht2 (And.intro ht3 ht4)))
  clear hdg hbr hmt hbf ht1 ht2 ht3 ht4
  go_enter Tryz.func88, Tryz.ntmps88
  obtain ⟨W1, hW1⟩ : ∃ W1, (w.alloc (.cells #[.string root, .map (some bm)] 77)).alloc (.cells #[.pointer (some ⟨pb, 0, none⟩)] 95) = W1 := ⟨_, rfl⟩
  have hz1 : W1.heap.size = w.heap.size + 2 := by rw [← hW1]; simp
  rw [hW1] at hbA hs4 hs7
  have k0 := cell_of_block (j := 0) hs4
  have k1 := cell_of_block (j := 1) hs4
  have k7 := cell_of_block (j := 0) hs7
  simp only [List.getElem?_toArray, List.getElem?_cons_zero, List.getElem?_cons_succ] at k0 k1 k7
  go_wp2_with fail
  refine (unhide Hdg W1 (hm.same (hbA.block bm hm.lt))).mono ?_
  rintro e W2 ⟨v9, rfl, ho9, hb2⟩
  clear hW1 k0 k1 k7 Hdg
  obtain ⟨a9, c9, rfl, ht9, -, -⟩ := ho9.texts
  have hz12 := hb2.size
  have hz3 : (W2.alloc (.cells #[.slice a9 (digsOf kr).length c9] 23)).heap.size = W2.heap.size + 1 := by simp
  have hb3 : Below W2.heap.size W2 (W2.alloc (.cells #[.slice a9 (digsOf kr).length c9] 23)) := (Below.refl _ _).alloc (Nat.le_refl _) _
  have hs9 : (W2.alloc (.cells #[.slice a9 (digsOf kr).length c9] 23)).heap[W2.heap.size]? = some (.cells #[.slice a9 (digsOf kr).length c9] 23 (0, 0)) := heap_alloc_new W2 _
  have hb13 := hb2.trans (hb3.mono hz12)
  have hbw3 := hbA.trans (hb13.mono hbA.size)
  obtain ⟨W3, hW3⟩ : ∃ W3, W2.alloc (.cells #[.slice a9 (digsOf kr).length c9] 23) = W3 := ⟨_, rfl⟩
  rw [hW3] at hz3 hb3 hs9 hb13 hbw3
  have hp3 := h.below hbw3 (Nat.le_refl _)
  have hk3 : LnkIs W3 lb (0, 0, 0) (T : Int) a L.length c := (hbw3.block lb hlb).trans hk
  have hi3 := hi.below hbw3 (Nat.le_refl _)
  have ht3 := ht9.below hb3 (Nat.le_refl _)
  have hm3 := hm.same (hbw3.block bm hm.lt)
  have hs43 := (hb13.block w.heap.size (by omega)).trans hs4
  have hs73 := (hb13.block (w.heap.size + 1) (by omega)).trans hs7
  have hg9 : ∀ b o q, a9 = some ⟨b, o, q⟩ → W1.heap.size ≤ b := by
    rintro b o q rfl
    rcases ho9.2 with ⟨h1, _⟩ | ⟨g, cap, cur, h1, h2, _⟩
    · simp at h1
    · simp at h1; omega
  have hdx : ∀ x ∈ digsOf kr, x.length ≤ 10000000 := fun x hx => by
    obtain ⟨y, _, e, _⟩ := dig_of kr x hx
    rw [← e, digest_len]; decide
  have hsend := send1 (w.heap.size + 1) W2.heap.size st pb um n lb room (digsOf kr) a9 c9 L a c T (0, 0, 0) W3 hs73 hs9 hp3 (by omega) ht3 hdx (fun b o q e => by have := hg9 b o q e; omega) hk3 hi3 (fun b o e hne => (hin b o e hne).1) hL hT ⟨by simp only; omega, by simp only; omega, by simp only; omega⟩
  unfold capV ptr at hsend
  have Hsend := hide hsend
  clear hsend hbA hs4 hs7 hb2 ho9 hb3 hs9 hb13 ht9 ht3 hg9 hdx hz12
  have Hz3 := hide hz3
  have Hz1 := hide hz1
  clear hz3 hz1
  go_wp2_with fail
  refine (unhide Hsend).mono ?_
  rintro e W4 ⟨v10, rfl, ho10, hk4, hf4⟩
  clear Hsend hW3
  have np : pb ≠ lb := fun e => by have a := h.s; rw [e, hk] at a; simp at a
  have nu : um ≠ lb := fun e => (map_ne_cells h.m hk) e.symm
  have nbm : bm ≠ lb := fun e => (map_ne_cells hm hk) e.symm
  have hp4 := hp3.fr hf4 np nu
  have hi4 := hi3.fr hf4 (fun b o e hne => (hin b o e hne).1)
  have hm4 := hm3.same (hf4.block bm hm3.lt nbm)
  have hs44 := (hf4.block w.heap.size (Array.getElem?_eq_some_iff.1 hs43).1 (fun e => by have e' : w.heap.size = lb := e; omega)).trans hs43
  have hs74 := (hf4.block (w.heap.size + 1) (Array.getElem?_eq_some_iff.1 hs73).1 (fun e => by have e' : w.heap.size + 1 = lb := e; omega)).trans hs73
  have hfw4 : Fr (fun x => x = lb ∨ x = pb ∨ x = um) w W4 := (Fr.below hbw3).trans (hf4.mono (fun x h => .inl h))
  have hz4 : w.heap.size + 2 ≤ W4.heap.size := by have := hf4.size; have := unhide Hz3; have := unhide Hz1; have := hs43; have := hbw3.size; have h9 := (Array.getElem?_eq_some_iff.1 hs74).1; omega
  clear hp3 hi3 hm3 hs43 hs73 hbw3 hk3 h hk hm Hz3 Hz1
  generalize hq0 : tryP room L [] T st (0, 0, 0) = q0 at *
  clear hq0
  obtain ⟨e0, st0, s0⟩ := q0
  simp only at ho10 hk4
  obtain ⟨ht1, ht2, ht3, ht4⟩ := unhide Ht
  simp only at ht1 ht2 ht3 ht4
  subst ht1
  have hs0 : s0.1 ≤ 9 ∧ s0.2.1 ≤ 0 ∧ s0.2.2 ≤ 0 := ⟨by omega, by omega, by omega⟩
  clear ht2 ht3 ht4 Ht
  by_cases he0 : e0 = 0
  · subst he0
    have ho11 := ho10 rfl
    rw [unhide Hmt] at ho11
    obtain ⟨a10, c10, rfl, ht10, -, -⟩ := ho11.texts
    have hMs : ((digsOf kr).filter (fun d => !(atP st0 d).isSome)).length ≤ 41 := Nat.le_trans (List.length_filter_le _ _) hdl
    have hMm : ∀ d ∈ (digsOf kr).filter (fun d => !(atP st0 d).isSome), ∃ y, lastR kr d = some y ∧ y.length ≤ 100000 := fun d hd => by
      obtain ⟨y, h1, h2, h3⟩ := dig_of kr d ((List.mem_filter.1 hd).1)
      exact ⟨y, h1, by have := hsm y h3; omega⟩
    have hbat := batches_any root bm nb kr _ a10 c10 batch W4 hm4 ht10 (by omega) hMm (by omega) hb1
    have hlen2 : (bytesOf kr ((digsOf kr).filter (fun d => !(atP st0 d).isSome))).length = ((digsOf kr).filter (fun d => !(atP st0 d).isSome)).length := by unfold bytesOf; simp
    have hch : (batTo batch (bytesOf kr ((digsOf kr).filter (fun d => !(atP st0 d).isSome))) ((digsOf kr).filter (fun d => !(atP st0 d).isSome)).length).1 = chopP batch ((listOf kr).filter (fun b => !(atP st0 (P.digest b)).isSome)).length ((listOf kr).filter (fun b => !(atP st0 (P.digest b)).isSome)) := by
      rw [← hlen2, bat_chop, unhide Hbf]
    rw [hch] at hbat
    have hcm := chop_mem batch ((listOf kr).filter (fun b => !(atP st0 (P.digest b)).isSome)).length ((listOf kr).filter (fun b => !(atP st0 (P.digest b)).isSome))
    have hcl := chop_len batch ((listOf kr).filter (fun b => !(atP st0 (P.digest b)).isSome)).length ((listOf kr).filter (fun b => !(atP st0 (P.digest b)).isSome))
    have hll : ((listOf kr).filter (fun b => !(atP st0 (P.digest b)).isSome)).length ≤ 41 := by rw [← unhide Hbf, hlen2]; exact hMs
    have hlx : ∀ x ∈ (listOf kr).filter (fun b => !(atP st0 (P.digest b)).isSome), x.length ≤ 2000 := by
      rw [← unhide Hbf]
      intro x hx
      unfold bytesOf at hx
      obtain ⟨d, hd, rfl⟩ := List.mem_map.1 hx
      obtain ⟨y, h1, h2, h3⟩ := dig_of kr d ((List.mem_filter.1 hd).1)
      rw [h1]; exact hsm y h3
    have Hbr2 := hide (show bringP room batch T L (listOf kr) st0 = sendsP room T L (chopP batch ((listOf kr).filter (fun b => !(atP st0 (P.digest b)).isSome)).length ((listOf kr).filter (fun b => !(atP st0 (P.digest b)).isSome))) st0 s0 by rw [unhide Hbr]; simp)
    clear hch Hbr Hbf Hmt ho10 ho11 ht10 hMm
    generalize hBR : bringP room batch T L (listOf kr) st0 = BR at *
    have HBR := hide hBR
    clear hBR
    generalize (listOf kr).filter (fun b => !(atP st0 (P.digest b)).isSome) = ms at *
    generalize ((digsOf kr).filter (fun d => !(atP st0 d).isSome)).length = nm at *
    clear hlen2 hMs
    have hbt : ∀ b ∈ chopP batch ms.length ms, (∀ x ∈ b, x.length ≤ 10000000) ∧ b.length ≤ 100 ∧ bytesP b ≤ 1000000 := fun b hb => by
      obtain ⟨h1, h2, h3⟩ := hcm b hb
      have h4 := bytes_le ms 2000 hlx
      exact ⟨fun x hx => by have := hlx x (h1 x hx); omega, by omega, by have : ms.length * 2000 ≤ 41 * 2000 := Nat.mul_le_mul_right _ hll; omega⟩
    have hbl : (chopP batch ms.length ms).length ≤ 41 := by omega
    clear hcm hcl hll hlx
    generalize chopP batch ms.length ms = bats at *
    have k0 := cell_of_block (j := 0) hs44
    have k1 := cell_of_block (j := 1) hs44
    simp only [List.getElem?_toArray, List.getElem?_cons_zero, List.getElem?_cons_succ] at k0 k1
    unfold setV at hbat
    have Hbat := hide hbat
    clear hbat
    go_wp2_with fail
    refine (unhide Hbat).mono ?_
    rintro e W5 ⟨v, vs, rfl, hB, hb5⟩
    have hz5 := hb5.size
    have hp5 := hp4.below hb5 (Nat.le_refl _)
    have hk5 : LnkIs W5 lb s0 (T : Int) a L.length c := (hb5.block lb hk4.lt).trans hk4
    have hi5 := hi4.below hb5 (Nat.le_refl _)
    have hs75 := (hb5.block (w.heap.size + 1) (Array.getElem?_eq_some_iff.1 hs74).1).trans hs74
    have hfw5 : Fr (fun x => x = lb ∨ x = pb ∨ x = um) w W5 := hfw4.trans (Fr.below hb5)
    have hvl := hB.len
    obtain ⟨a3, c3, rfl⟩ := row_shape hB.row
    have Hvl := hide hvl
    clear Hbat hb5 hp4 hk4 hi4 hs74 hfw4 hs44 k0 k1 hm4 hvl
    go_wp2_with fail
    go_loopw [33] (fun i wr => ∃ (j : Nat) (st' : List (List UInt8 × List UInt8)) (s' : Nat × Nat × Nat) (n' : Nat), j ≤ bats.length ∧ i = .int .i64 j ∧ PStore wr pb um n' room st' ∧ n' ≤ n + 1800 * j ∧ sumP st' ≤ 1000000000000 ∧ LnkIs wr lb s' (T : Int) a L.length c ∧ (s'.1 ≤ 9 + 9 * j ∧ s'.2.1 ≤ 900 * j ∧ s'.2.2 ≤ 9000000 * j) ∧ BR = sendsP room T L (bats.drop j) st' s' ∧ Fr (fun x => x = lb ∨ x = pb ∨ x = um) W5 wr) (fun i _ => bats.length - (intOf i).toNat)
    case atStart => exact ⟨0, st0, s0, n, by omega, rfl, hp5, by omega, hsum, hk5, ⟨by omega, by omega, by omega⟩, by rw [List.drop_zero]; exact unhide Hbr2, fr_refl _ _⟩
    case round =>
      obtain ⟨j, st', s', n', hj, rfl, hp, hn', hss, hk, hsb, heq, hfr⟩ := hrel
      have Heq := hide heq
      clear heq hp5 hk5
      by_cases hlt : j < bats.length
      · have hBr : Bats wr W4.heap.size (.slice a3 vs.length c3) vs bats := hB.same (fun b hb1 hb2 => hfr.block b hb2 (by omega))
        have hir := hi5.fr hfr (fun b o e hne => by have := hin b o e hne; omega)
        have hs7r := (hfr.block (w.heap.size + 1) (Array.getElem?_eq_some_iff.1 hs75).1 (by omega)).trans hs75
        have hjv : j < vs.length := by have := unhide Hvl; omega
        obtain ⟨g, cap, cur, hv, hgv, hgg, hgc⟩ := row_at hBr.row j hjv
        obtain ⟨rfl, rfl⟩ : a3 = some ⟨g, 0, none⟩ ∧ c3 = cap := by simpa using hv
        have hgd : bats.getD j [] = bats[j] := by rw [List.getD_eq_getElem?_getD, List.getElem?_eq_getElem hlt]; rfl
        have hoj := hBr.own j hjv
        rw [hgd] at hoj
        obtain ⟨aj, cj, hvj, htj, -, -⟩ := hoj.texts
        have hgj : ∀ b o q, aj = some ⟨b, o, q⟩ → W4.heap.size ≤ b := by
          rintro b o q rfl
          rcases hoj.2 with ⟨h1, _⟩ | ⟨g2, cap2, cur2, h1, h2, _⟩
          · rw [hvj] at h1; simp at h1
          · rw [hvj] at h1; simp at h1; omega
        have kj := cell_of_block (j := j) hgg
        rw [hgc, hvj] at kj
        obtain ⟨hb1x, hb2x, hb3x⟩ := hbt bats[j] (List.getElem_mem hlt)
        have Hsd := hide (sends_drop room T L bats j hlt st' s')
        have q1 : (j : Int) < (vs.length : Int) := by omega
        have hbA : Below wr.heap.size wr (wr.alloc (.cells #[.slice aj bats[j].length cj] 23)) := (Below.refl _ _).alloc (Nat.le_refl _) _
        have hs9r : (wr.alloc (.cells #[.slice aj bats[j].length cj] 23)).heap[wr.heap.size]? = some (.cells #[.slice aj bats[j].length cj] 23 (0, 0)) := heap_alloc_new wr _
        have hsend := send2 (w.heap.size + 1) wr.heap.size st' pb um n' lb room bats[j] aj cj L a c T s' _ ((hbA.block _ (Array.getElem?_eq_some_iff.1 hs7r).1).trans hs7r) hs9r (hp.below hbA (Nat.le_refl _)) hb2x hb3x (htj.below hbA (Nat.le_refl _)) hb1x (fun b o q e => by have := hgj b o q e; omega) ((hbA.block lb hk.lt).trans hk) (hir.below hbA (Nat.le_refl _)) hin hL hT ⟨by omega, by omega, by omega⟩ (by omega) hss hr0 hr
        unfold capV ptr at hsend
        have Hsend := hide hsend
        have hlw := hfr.size
        clear hsend hBr hs7r hir htj hgj hgc hvj hoj hgg hgv hv hb1x hb2x hb3x hs9r hgd hp hk
        generalize bats[j] = bj at *
        generalize tryP room L bj T st' s' = q at *
        obtain ⟨q1', q2', q3'⟩ := q
        simp only at Hsend Hsd
        go_wp2_with fail
        refine (unhide Hsend).mono ?_
        rintro e W6 ⟨x, y, rfl, hxy, ⟨n6, hn6, hp6⟩, hs6, hk6, hb6, hf6⟩
        have hbO : Below W6.heap.size W6 (W6.alloc (.cells #[.int .i64 y, .int .i64 x] 28)) := (Below.refl _ _).alloc (Nat.le_refl _) _
        have hor := or_any W6.heap.size y x (W6.alloc (.cells #[.int .i64 y, .int .i64 x] 28)) (by simp) (by simp)
        rw [← hxy] at hor
        have hfr6 : Fr (fun x => x = lb ∨ x = pb ∨ x = um) W5 (W6.alloc (.cells #[.int .i64 y, .int .i64 x] 28)) := ((hfr.trans (Fr.below hbA)).trans hf6).trans (Fr.below hbO)
        have hp7 := hp6.below hbO (Nat.le_refl _)
        have hk7 : LnkIs (W6.alloc (.cells #[.int .i64 y, .int .i64 x] 28)) lb q3' (T : Int) a L.length c := (hbO.block lb hk6.lt).trans hk6
        clear Hsend hxy hp6 hk6 hf6 hfr hbA hbO kj
        by_cases hq : q1' = 0
        · subst hq
          have Hr := hide (show BR = sendsP room T L (bats.drop (j + 1)) q2' q3' by rw [unhide Heq, unhide Hsd]; simp)
          go_wp2_with (go_at_call 137; refine hor.mono ?_; rintro e w' ⟨rfl, hw'⟩; rw [hw']; clear hw' w')
          go_roundw
          case rel => exact ⟨j + 1, q2', q3', n6, by omega, by go_num, hp7, by omega, hs6, hk7, ⟨by omega, by omega, by omega⟩, unhide Hr, hfr6⟩
          case measure => simp [intOf]; omega
        · have b0 : (q1' == 0) = false := by simpa using hq
          have Hr := hide (show BR = (q1', q2', q3') by rw [unhide Heq, unhide Hsd]; simp [hq])
          go_wp2_with (go_at_call 137; refine hor.mono ?_; rintro e w' ⟨rfl, hw'⟩; rw [hw']; clear hw' w')
          go_ret
          exact ⟨ret_int (by rw [unhide HBR, unhide Hr]), ⟨n6, by omega, by rw [unhide HBR, unhide Hr]; exact hp7⟩, by rw [unhide HBR, unhide Hr]; exact hs6, by rw [unhide HBR, unhide Hr]; exact hk7, hfw5.trans hfr6⟩
      · obtain rfl : j = bats.length := by omega
        have q1 : ¬ ((bats.length : Nat) : Int) < (vs.length : Int) := by have := unhide Hvl; omega
        have Hr := hide (show BR = (0, st', s') by rw [unhide Heq, List.drop_length]; rfl)
        go_wp2_with fail
        go_ret
        exact ⟨ret_int (by rw [unhide HBR, unhide Hr]), ⟨n', by omega, by rw [unhide HBR, unhide Hr]; exact hp⟩, by rw [unhide HBR, unhide Hr]; exact hss, by rw [unhide HBR, unhide Hr]; exact hk, hfw5.trans hfr⟩
  · have Hr := hide (show bringP room batch T L (listOf kr) st0 = (e0, st0, s0) by rw [unhide Hbr]; simp [he0])
    have b0 : (e0 == 0) = false := by simpa using he0
    clear ho10
    go_wp2_with fail
    go_ret
    exact ⟨ret_int (by rw [unhide Hr]), ⟨n, by omega, by rw [unhide Hr]; exact hp4⟩, by rw [unhide Hr]; exact hsum, by rw [unhide Hr]; exact hk4, hfw4⟩
end Go.Proofs.YtjmacegibchplaaGreatDoor
