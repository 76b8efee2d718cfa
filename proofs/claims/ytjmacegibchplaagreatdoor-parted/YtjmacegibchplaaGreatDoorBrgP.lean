import Derived.Test.YtjmacegibchplaaGreatDoorUpA
import Derived.Test.YtjmacegibchplaaGreatDoorGrpV
/-
  The program's batches.
-/
namespace Go.Proofs.YtjmacegibchplaaGreatDoor
open Go.RowKit Go.Maps Go.WideMaps
set_option linter.unusedVariables false
theorem bat_len (batch : Int) : ∀ (r : List (List UInt8)) (p : List (List (List UInt8)) × Int) (n : Nat), (∀ b ∈ p.1, b.length ≤ n) → ∀ b ∈ (r.foldl (batStep batch) p).1, b.length ≤ n + r.length
  | [], p, n, h => by simpa using h
  | x :: r, p, n, h => by
    intro b hb
    have := bat_len batch r (batStep batch p x) (n + 1) (fun c hc => by
      unfold batStep at hc
      split at hc
      · rcases List.mem_append.1 hc with hc | hc
        · have := h c hc; omega
        · simp at hc; subst hc; simp
      · rcases List.mem_append.1 hc with hc | hc
        · have := h c (List.dropLast_subset _ hc); omega
        · obtain rfl := List.mem_singleton.1 hc
          have : (p.1.getLastD []).length ≤ n := by
            rw [List.getLastD_eq_getLast?]
            cases hl : p.1.getLast? with
            | none => simp
            | some z => exact h z (List.mem_of_getLast? hl)
          rw [List.length_append, List.length_singleton]; omega) b hb
    rw [List.length_cons]; omega
theorem batTo_len (batch : Int) (l : List (List UInt8)) (k : Nat) : ∀ b ∈ (batTo batch l k).1, b.length ≤ k := by
  intro b hb
  have := bat_len batch (l.take k) ([], 0) 0 (by simp) b hb
  have := List.length_take_le k l
  omega
theorem bat_new (ls : List (List (List UInt8))) (y : List UInt8) : (ls ++ [[]]).set ls.length ((ls ++ [[]]).getD ls.length [] ++ [y]) = ls ++ [[y]] := by
  simp
theorem Bats.weak {w : World} {b b' : Nat} {v : Value} {vs : List Value} {ls : List (List (List UInt8))} (h : Bats w b v vs ls) (hb : b' ≤ b) : Bats w b' v vs ls :=
  ⟨⟨h.row.1, h.row.2.imp id (fun ⟨g, cap, cur, h1, h2, h3⟩ => ⟨g, cap, cur, h1, Nat.le_trans hb h2, h3⟩)⟩, h.len, fun i hi => ⟨(h.own i hi).1, (h.own i hi).2.imp id (fun ⟨g, cap, cur, h1, h2, h3⟩ => ⟨g, cap, cur, h1, Nat.le_trans hb h2, h3⟩)⟩, h.apart⟩
def bytesOf (kr : List (List UInt8)) (ds : List (List UInt8)) : List (List UInt8) := ds.map (fun d => (lastR kr d).getD [])
set_option maxRecDepth 100000 in
set_option maxHeartbeats 4000000 in
theorem batches_any (root : ByteArray) (um n : Nat) (kr ds : List (List UInt8)) (a : Option Addr) (c : Nat) (batch : Int) (w : World) (hm : MapIs w um n (blobsF kr)) (ht : TextsAt w a ds) (hds : ds.length ≤ 1000) (hin : ∀ d ∈ ds, ∃ y, lastR kr d = some y ∧ y.length ≤ 100000) (hb0 : 0 ≤ batch) (hb1 : batch ≤ 5000) :
    Calls Tryz.prog 133 #[setV root (some um), .slice a ds.length c, .int .i64 batch] w fun e w' => ∃ v vs, e = .returned v ∧ Bats w' w.heap.size v vs (batTo batch (bytesOf kr ds) ds.length).1 ∧ Below w.heap.size w w' := by
  have hbA : Below w.heap.size w (w.alloc (.cells #[.string root, .map (some um)] 77)) := (Below.refl _ _).alloc (Nat.le_refl _) _
  have hs1 : (w.alloc (.cells #[.string root, .map (some um)] 77)).heap[w.heap.size]? = some (.cells #[.string root, .map (some um)] 77 (0, 0)) := heap_alloc_new w _
  have hm1 := hm.alloc (.cells #[.string root, .map (some um)] 77)
  have ht1 := ht.below hbA (Nat.le_refl _)
  have hsz : (w.alloc (.cells #[.string root, .map (some um)] 77)).heap.size = w.heap.size + 1 := by simp
  clear hm ht
  obtain ⟨i0, hi0, hz0, hz1, hz2⟩ := info_parts info_sl
  obtain ⟨i1, hi1, hy0, hy1, hy2⟩ := info_parts info_str
  have hbl : (bytesOf kr ds).length = ds.length := by unfold bytesOf; simp
  have Hin := hide hin
  clear hin
  unfold setV
  go_enter Tryz.func133, Tryz.ntmps133
  go_wp2_with fail
  obtain ⟨W1, hW1⟩ : ∃ W1, w.alloc (.cells #[.string root, .map (some um)] 77) = W1 := ⟨_, rfl⟩
  rw [hW1] at hbA hs1 hm1 ht1 hsz ⊢
  have Hsz := hide hsz
  clear hW1 hsz
  go_loopw [7, 8, 15] (fun v lf i wr => ∃ (k : Nat) (vs : List Value), k ≤ ds.length ∧ i = .int .i64 k ∧ lf = .int .i64 (batTo batch (bytesOf kr ds) k).2 ∧ (-100000 ≤ (batTo batch (bytesOf kr ds) k).2 ∧ (batTo batch (bytesOf kr ds) k).2 ≤ 5000) ∧ Bats wr W1.heap.size v vs (batTo batch (bytesOf kr ds) k).1 ∧ vs.length ≤ k ∧ Below W1.heap.size W1 wr) (fun _ _ i _ => ds.length - (intOf i).toNat)
  case atStart => exact ⟨0, [], by omega, rfl, rfl, ⟨by show (-100000 : Int) ≤ 0; decide, by show (0 : Int) ≤ 5000; decide⟩, Bats.nil _ _, by simp, Below.refl _ _⟩
  case round =>
    obtain ⟨k, vs, hk, rfl, rfl, hlb, hB, hvl, hbel⟩ := hrel
    by_cases hlt : k < ds.length
    · obtain ⟨b, o, rfl, hct⟩ : ∃ b o, a = some ⟨b, o, none⟩ ∧ ∀ i (h : i < ds.length), W1.cell? ⟨b, o + i, none⟩ = some (strVal ds[i]) := by
        rcases ht1 with h | h
        · subst h; simp at hlt
        · exact h
      have ck := (hbel.cell (p := ⟨b, o + k, none⟩) (block_lt (hct k hlt))).trans (hct k hlt)
      unfold strVal at ck
      have q1 : (k : Int) < (ds.length : Int) := by omega
      obtain ⟨y, hy, hyl⟩ := unhide Hin _ (List.getElem_mem hlt)
      have hbk : (bytesOf kr ds)[k]'(by rw [hbl]; exact hlt) = y := by unfold bytesOf; simp [hy]
      have Hsu := hide (show batTo batch (bytesOf kr ds) (k + 1) = batStep batch (batTo batch (bytesOf kr ds) k) y by rw [batTo_succ batch _ k (by rw [hbl]; exact hlt), hbk])
      have hdl : ds[k].length ≤ maxLen := by rw [← (lastR_some hy).2, digest_len]; decide
      have hmr : MapIs wr um n (blobsF kr) := hm1.same (hbel.block um hm1.lt)
      have hby := bytes_any root um n kr ds[k] y wr hmr hdl hy
      unfold setV at hby
      have hlw := (Array.getElem?_eq_some_iff.1 hs1).1
      have hsr := (hbel.block w.heap.size hlw).trans hs1
      have c0 := cell_of_block (j := 0) hsr
      have c1 := cell_of_block (j := 1) hsr
      simp only [List.getElem?_toArray, List.getElem?_cons_zero, List.getElem?_cons_succ] at c0 c1
      have hyz := bs_size y
      have hbs := hbel.size
      have hsh := row_shape hB.row
      have Hbl := hide (batTo_len batch (bytesOf kr ds) k)
      clear hct ht1 hbk hy hmr
      generalize ds[k] = d at *
      generalize batTo batch (bytesOf kr ds) k = bk at *
      obtain ⟨ls, lf⟩ := bk
      simp only at hlb hB
      go_wp2_with fail
      refine hby.mono ?_
      rintro e w2 ⟨rfl, hw2⟩
      have hb2 : Below W1.heap.size W1 w2 := by rw [hw2]; exact hbel.alloc hbs _
      have hB2 : Bats w2 W1.heap.size u7 vs ls := hB.same (fun b _ hb => by rw [hw2]; exact Below.heap_alloc _ _ _ hb)
      clear hw2 hB hbel hby c0 c1 ck hsr hbs
      obtain ⟨a2, c2, rfl⟩ := hsh
      have hbs2 := hb2.size
      have Hlen := hide hB2.len
      go_upto_region 7 with fail
      go_cut [30] (fun s30 wx => s30 = .bool (decide (vs.length = 0) || decide (lf < (y.length : Int))) ∧ w2 = wx)
      case first =>
        by_cases h0 : vs.length = 0
        · have b0 : ((vs.length : Int) == 0) = true := by simpa using h0
          have g0 : decide (vs.length = 0) = true := by simpa using h0
          clear h0
          go_wp2_with fail
          go_meet
          exact ⟨congrArg Value.bool (by rw [g0]; rfl), rfl⟩
        · have b0 : ((vs.length : Int) == 0) = false := by simpa using h0
          have g0 : decide (vs.length = 0) = false := by simpa using h0
          clear h0
          go_wp2_with fail
          go_meet
          exact ⟨congrArg Value.bool (by rw [g0]; rfl), rfl⟩
      case rest =>
      obtain ⟨h30, hwc⟩ := hcut
      subst h30
      subst hwc
      go_upto_if 30 with fail
      go_cut [7, 8] (fun s7 s8 wx => ∃ (vs3 : List Value) (ls3 : List (List (List UInt8))) (lf3 : Int) (m : Nat), s8 = .int .i64 lf3 ∧ Bats wx W1.heap.size s7 vs3 ls3 ∧ vs3.length = m + 1 ∧ m ≤ k ∧ Below W1.heap.size W1 wx ∧ -100000 ≤ lf3 - (y.length : Int) ∧ lf3 ≤ 5000 ∧ (ls3.getD m []).length ≤ k ∧ batTo batch (bytesOf kr ds) (k + 1) = (ls3.set m (ls3.getD m [] ++ [y]), lf3 - (y.length : Int)))
      case first =>
        cases hT : (decide (vs.length = 0) || decide (lf < (y.length : Int))) with
        | true =>
          have Hst := hide (show batTo batch (bytesOf kr ds) (k + 1) = (ls ++ [[y]], batch - (y.length : Int)) by
            rw [unhide Hsu]
            unfold batStep
            simp only
            rw [if_pos]
            rw [Bool.or_eq_true, decide_eq_true_eq, decide_eq_true_eq] at hT
            rcases hT with h | h
            · exact .inl (List.eq_nil_of_length_eq_zero (by have := unhide Hlen; omega))
            · exact .inr h)
          clear Hsu
          have hmid : ∀ (v' : Value) (w3 : World), w3.ownsRow W1.heap.size 23 1 v' (vs.length + 1) (vs ++ [.slice none 0 0]) → (w2.alloc (.cells #[.slice none 0 0] 23)).grownBy w3 (Value.slice a2 vs.length c2).ownBlock → Bats w3 W1.heap.size v' (vs ++ [.slice none 0 0]) (ls ++ [[]]) ∧ Below W1.heap.size W1 w3 := by
            intro v' w3 hr3 hg3
            have hB3 : Bats (w2.alloc (.cells #[.slice none 0 0] 23)) W1.heap.size (Value.slice a2 vs.length c2) vs ls := hB2.same (fun b _ hb => Below.heap_alloc _ _ _ hb)
            exact ⟨hB3.new hr3 hg3, (hb2.alloc hbs2 _).grown hg3 (by simp; omega) (fun q hq => (World.ownsRow.lt hB2.row q hq).1)⟩
          have Hmid := hide hmid
          have hrow2 := World.ownsRow.alloc hB2.row (.cells #[.slice none 0 0] 23)
          have Hend := hide (show ((ls ++ [[]]).getD vs.length []).length ≤ k ∧ batTo batch (bytesOf kr ds) (k + 1) = ((ls ++ [[]]).set vs.length ((ls ++ [[]]).getD vs.length [] ++ [y]), batch - (y.length : Int)) by
            rw [unhide Hlen, unhide Hst, bat_new]
            exact ⟨by simp, rfl⟩)
          clear hmid
          go_wp2_with (at_builtin; refine wp_app_at rfl (.tmp 31) (.tmp 32) 86 rfl W1.heap.size 23 i0 _ 24 (by kernel_rfl) hi0 hz0 hz1 hz2 rfl _ vs.length vs rfl hrow2 ⟨w2.heap.size, 0, none⟩ (.slice none 0 0) rfl ?qa rfl (by unfold maxLen; omega) (by omega) (by simp; omega) ?_)
          case qa => rw [add_off0]; simp
          intro v3 w3 hr3 hg3 _
          obtain ⟨hB3, hb3⟩ := unhide Hmid v3 w3 hr3 hg3
          clear hr3 hg3 Hmid hrow2
          go_wp2_with fail
          go_meet
          exact ⟨_, _, batch, vs.length, rfl, hB3, by simp, by omega, hb3, by omega, by omega, (unhide Hend).1, (unhide Hend).2⟩
        | false =>
          have hF := hT
          rw [Bool.or_eq_false_iff, decide_eq_false_iff_not, decide_eq_false_iff_not] at hF
          obtain ⟨hne, hnl⟩ := hF
          obtain ⟨m, hm⟩ : ∃ m, vs.length = m + 1 := ⟨vs.length - 1, by omega⟩
          have Hst := hide (show batTo batch (bytesOf kr ds) (k + 1) = (ls.set m (ls.getD m [] ++ [y]), lf - (y.length : Int)) by
            rw [unhide Hsu]
            unfold batStep
            simp only
            rw [if_neg (by rintro (h | h)
                           · have := unhide Hlen; rw [h] at this; rw [this] at hm; simp at hm
                           · exact hnl h), bat_set ls m y (by have := unhide Hlen; omega)])
          have Hm := hide (And.intro hm (show m ≤ k by omega))
          have Hnl := hide (show (y.length : Int) ≤ lf by omega)
          have Hgl := hide (show (ls.getD m []).length ≤ k by
            have hml : m < ls.length := by have := unhide Hlen; omega
            rw [List.getD_eq_getElem?_getD, List.getElem?_eq_getElem hml]
            exact unhide Hbl _ (List.getElem_mem hml))
          clear hm hne hnl
          go_wp2_with fail
          go_meet
          exact ⟨vs, ls, lf, m, rfl, hB2, (unhide Hm).1, (unhide Hm).2, hb2, by have := unhide Hnl; omega, by omega, unhide Hgl, unhide Hst⟩
      case rest =>
        obtain ⟨vs3, ls3, lf3, m, h8, hB3, hm, hmk, hb3, hl3, hl4, hgl, heq⟩ := hcut
        subst h8
        have Heq := hide heq
        clear heq hB2 hb2 hbs2 Hsu Hbl Hlen hlb
        have hml : m < vs3.length := by omega
        obtain ⟨g, cap, cur, hv, hgv, hgg, hgc⟩ := row_at hB3.row m hml
        have hown3 := hB3.own m hml
        obtain ⟨a5, c5, hs5⟩ := row_shape hown3
        have kc := cell_of_block (j := m) hgg
        have fz := free_block (j := m) hgg
        rw [hgc] at kc
        have hbs3 := hb3.size
        have q2 : ((vs3.length : Nat) : Int) - 1 = (m : Int) := by omega
        have q3 : (m : Int) < (vs3.length : Int) := by omega
        rw [hm] at hv
        subst hv
        rw [hs5] at kc
        have hown5 := World.ownsRow.alloc hown3 (.cells #[.string (bs y)] 9)
        rw [hs5] at hown5
        have HB := hide (And.intro hB3 (And.intro hgg (And.intro hs5 (And.intro hgv (And.intro hm hgc)))))
        clear hm hgc hs5 hgv hB3 hown3 q2 q3 hgg
        have q4 : ((m + 1 : Nat) : Int) - 1 = (m : Int) := by omega
        go_wp2_with (at_builtin; refine wp_app_at rfl (.tmp 47) (.tmp 49) 23 rfl W1.heap.size 9 i1 _ 16 (by kernel_rfl) hi1 hy0 hy1 hy2 rfl _ (ls3.getD m []).length ((ls3.getD m []).map strVal) rfl hown5 ⟨wc.heap.size, 0, none⟩ (strVal y) rfl ?qa rfl (by unfold maxLen; omega) (by omega) (by simp; omega) ?_)
        case qa => rw [add_off0]; simp [strVal]
        intro v4 w4 hr4 hg4 hloc
        obtain ⟨hB3, hgg, hs5, hgv, hm, hgc⟩ := unhide HB
        have ho4 : OwnsS w4 W1.heap.size v4 (ls3.getD m [] ++ [y]) := by
          unfold OwnsS
          rw [List.length_append, List.map_append]
          exact hr4
        have hlt3 : g < wc.heap.size := (Array.getElem?_eq_some_iff.1 hgg).1
        have hne : (Value.slice a5 (ls3.getD m []).length c5).ownBlock ≠ some g := by rw [← hs5]; exact own_types hB3.row (hB3.own m hml) (Ne.symm t_sl) hgv
        have hg4b : w4.heap[g]? = some (.cells cur 23 (0, 0)) := (hg4.block g (by simp; omega) (fun e => hne e.symm)).trans ((Below.heap_alloc wc _ g hlt3).trans hgg)
        have k4 := cell_of_block (j := m) hg4b
        have f4 := free_block (j := m) hg4b
        rw [hgc, hs5] at k4
        obtain ⟨a6, c6, hv4⟩ := row_shape hr4
        subst hv4
        have hput := Bats.put (n := m) (x := y) (.cells #[.string (bs y)] 9) hB3 hm hgv (by rw [hs5]; exact hg4) ho4 (by rw [hs5]; exact hloc.imp id (fun h => h.trans (by simp)))
        have hb4 : Below W1.heap.size W1 (w4.setCell ⟨g, m, none⟩ (.slice a6 ((ls3.getD m []).length + 1) c6)) := ((hb3.alloc hbs3 _).grown hg4 (by simp; omega) (fun q hq => (World.ownsRow.lt hown5 q hq).1)).setCell (p := ⟨g, m, none⟩) (World.ownsRow.lt hB3.row g hgv).1 _
        have HP := hide (And.intro hput hb4)
        have Hm := hide hm
        clear hput hb4 hB3 hgg hs5 hgv hm hgc ho4 hg4b hr4 hg4 hloc HB hown5 kc fz hne
        go_wp2_with fail
        go_roundw
        case rel =>
          refine ⟨k + 1, _, by omega, by go_num, by rw [unhide Heq], by rw [unhide Heq]; exact ⟨hl3, by show lf3 - (y.length : Int) ≤ 5000; omega⟩, by rw [unhide Heq]; exact (unhide HP).1, ?_, (unhide HP).2⟩
          rw [List.length_set, unhide Hm]; omega
        case measure => simp [intOf]; omega
    · obtain rfl : k = ds.length := by omega
      have hww : w.heap.size ≤ W1.heap.size := hbA.size
      have hb9 := hbA.trans (hbel.mono hbA.size)
      have Hb := hide (And.intro hB hb9)
      clear hB hb9 hbel
      go_wp2_with fail
      go_ret
      exact ⟨_, vs, rfl, (unhide Hb).1.weak hww, (unhide Hb).2⟩
end Go.Proofs.YtjmacegibchplaaGreatDoor

/-
  The program's bring: what is missing goes out in batches.
-/
namespace Go.Proofs.YtjmacegibchplaaGreatDoor
open Go.RowKit Go.Maps Go.WideMaps
set_option linter.unusedVariables false
theorem miss_nodup (st : List (List UInt8 × List UInt8)) (l : List (List UInt8)) (hn : l.Pairwise (fun x y => x ≠ y)) : ∀ k, k ≤ l.length → missTo st l k = (l.take k).filter (fun d => !(atP st d).isSome)
  | 0, _ => by simp [missTo]
  | k + 1, hk => by
    have ih := miss_nodup st l hn k (by omega)
    have hg : l.getD k [] = l[k] := by rw [List.getD_eq_getElem?_getD, List.getElem?_eq_getElem (by omega)]; rfl
    have hno : (l.take k).any (· == l[k]) = false := by
      rw [List.any_eq_false]
      intro x hx
      obtain ⟨i, hi, rfl⟩ := List.getElem_of_mem hx
      rw [List.length_take] at hi
      rw [List.getElem_take]
      have := (List.pairwise_iff_getElem.1 hn) i k (by omega) (by omega) (by omega)
      simpa using this
    rw [missTo_succ, ih, List.take_succ_eq_append_getElem (by omega), List.filter_append]
    unfold thereP
    rw [hg, hno, Bool.or_false]
    have e : [l[k]].filter (fun d => !(atP st d).isSome) = if (atP st l[k]).isSome = true then [] else [l[k]] := by
      rw [List.filter_cons, List.filter_nil]
      cases (atP st l[k]).isSome <;> rfl
    rw [e]
theorem digs_ne (kr : List (List UInt8)) : (digsOf kr).Pairwise (fun x y => x ≠ y) :=
  (digs_sorted kr).imp (fun {a b} h e => by subst e; rw [less_irr] at h; simp at h)
theorem dig_of (kr : List (List UInt8)) (d : List UInt8) (hd : d ∈ digsOf kr) : ∃ y, lastR kr d = some y ∧ P.digest y = d ∧ y ∈ kr := by
  obtain ⟨y, hy⟩ := Option.isSome_iff_exists.1 ((lastR_isSome kr d).2 ((digs_mem kr d).1 hd))
  exact ⟨y, hy, (lastR_some hy).2, (lastR_some hy).1⟩
theorem bytes_filter (kr : List (List UInt8)) (st : List (List UInt8 × List UInt8)) : bytesOf kr ((digsOf kr).filter (fun d => !(atP st d).isSome)) = (listOf kr).filter (fun b => !(atP st (P.digest b)).isSome) := by
  unfold bytesOf listOf
  rw [List.filter_map]
  congr 1
  refine List.filter_congr (fun d hd => ?_)
  obtain ⟨y, hy, e, _⟩ := dig_of kr d hd
  simp only [Function.comp, hy, Option.getD_some, e]
theorem try_nil_bd (room : Int) (L : List Int) (st : List (List UInt8 × List UInt8)) : ∀ (k : Nat) (s : Nat × Nat × Nat), (tryP room L [] k st s).2.1 = st ∧ (tryP room L [] k st s).2.2.1 ≤ s.1 + k ∧ (tryP room L [] k st s).2.2.2.1 = s.2.1 ∧ (tryP room L [] k st s).2.2.2.2 = s.2.2
  | 0, s => ⟨rfl, Nat.le_refl _, rfl, rfl⟩
  | k + 1, s => by
    rw [try_nil]
    split
    · exact ⟨rfl, by simp only; omega, rfl, rfl⟩
    · obtain ⟨h1, h2, h3, h4⟩ := try_nil_bd room L st k (s.1 + 1, s.2.1 + 0, s.2.2 + 0)
      exact ⟨h1, by simp only at h2; omega, h3, h4⟩
set_option maxHeartbeats 1000000 in
theorem or_any (b : Nat) (y x : Int) (w : World) (h0 : w.cell? ⟨b, 0, none⟩ = some (.int .i64 y)) (h1 : w.cell? ⟨b, 1, none⟩ = some (.int .i64 x)) :
    Calls Tryz.prog 137 #[.slice (some ⟨b, 0, none⟩) 2 2] w fun e w' => e = .returned (.int .i64 (if y = 0 then x else y)) ∧ w' = w := by
  have Hr := hide (show (y ≠ 0 → (if y = 0 then x else y) = y) ∧ (y = 0 → (if y = 0 then x else y) = x) from ⟨fun h => if_neg h, fun h => if_pos h⟩)
  generalize (if y = 0 then x else y) = r at *
  go_enter Tryz.func137, Tryz.ntmps137
  go_wp2_with fail
  go_loop [8] (fun i => ∃ k : Nat, k ≤ 2 ∧ i = .int .i64 k ∧ (1 ≤ k → y = 0) ∧ (2 ≤ k → x = 0)) (fun i => 2 - (intOf i).toNat)
  case atStart => exact ⟨0, by omega, rfl, fun h => by omega, fun h => by omega⟩
  case round =>
    obtain ⟨k, hk, rfl, hy, hx⟩ := hrel
    rcases (show k = 0 ∨ k = 1 ∨ k = 2 by omega) with rfl | rfl | rfl
    · by_cases hz : y = 0
      · subst hz
        clear hy hx
        go_wp2_with fail
        go_round
        case rel => exact ⟨1, by omega, rfl, fun _ => by first | trivial | rfl, fun h => by omega⟩
        case measure => simp [intOf]
      · have b0 : (y == 0) = false := by simpa using hz
        have Hq := hide ((unhide Hr).1 hz)
        clear hy hx
        go_wp2_with fail
        go_ret
        exact ⟨ret_int (unhide Hq).symm, rfl⟩
    · have hy0 := hy (by omega)
      subst hy0
      have Hq := hide ((unhide Hr).2 rfl)
      clear hy hx
      by_cases hz : x = 0
      · subst hz
        go_wp2_with fail
        go_round
        case rel => exact ⟨2, by omega, rfl, fun _ => by first | trivial | rfl, fun _ => by first | trivial | rfl⟩
        case measure => simp [intOf]
      · have b0 : (x == 0) = false := by simpa using hz
        go_wp2_with fail
        go_ret
        exact ⟨ret_int (unhide Hq).symm, rfl⟩
    · have hy0 := hy (by omega)
      have hx0 := hx (by omega)
      subst hy0
      subst hx0
      have Hq := hide ((unhide Hr).2 rfl)
      clear hy hx
      go_wp2_with fail
      go_ret
      exact ⟨ret_int (unhide Hq).symm, rfl⟩
theorem sends_drop (room : Int) (T : Nat) (L : List Int) (bats : List (List (List UInt8))) (j : Nat) (hj : j < bats.length) (st : List (List UInt8 × List UInt8)) (s : Nat × Nat × Nat) :
    sendsP room T L (bats.drop j) st s = if (tryP room L bats[j] T st s).1 ≠ 0 then tryP room L bats[j] T st s else sendsP room T L (bats.drop (j + 1)) (tryP room L bats[j] T st s).2.1 (tryP room L bats[j] T st s).2.2 := by
  rw [List.drop_eq_getElem_cons hj]
  rfl
end Go.Proofs.YtjmacegibchplaaGreatDoor

/-
  A tree that is brought into a store over a link: what the store holds, and what was sent. Plain lists, no walk.
-/
namespace Go.Proofs.YtjmacegibchplaaGreatDoor
set_option linter.unusedVariables false
theorem part_small (l : List En) (ht : Tree l) (b : List UInt8) (hb : b ∈ allP l) : b.length ≤ 1802 := by
  unfold allP allTo at hb
  rw [List.take_length] at hb
  rcases List.mem_cons.1 hb with rfl | hb
  · exact blob_small l ht 6 [] (.inl rfl)
  · obtain ⟨e, he, hbe⟩ := List.mem_flatMap.1 hb
    unfold partP at hbe
    split at hbe
    · rw [List.mem_singleton.1 hbe]
      exact blob_small l ht 6 _ (.inr ⟨_, rfl⟩)
    · split at hbe
      · rename_i hk
        rw [List.mem_singleton.1 hbe]
        obtain ⟨i, hi, rfl⟩ := List.mem_iff_getElem.1 he
        have hkb := fineP_kind l i hi (ht.fine i hi)
        rcases kind_cases hkb with ⟨h0, _⟩ | ⟨_, h60⟩ | h3
        · omega
        · show l[i].data.size ≤ 1802
          omega
        · omega
      · simp at hbe
theorem bytes_le (l : List (List UInt8)) (n : Nat) (h : ∀ b ∈ l, b.length ≤ n) : bytesP l ≤ l.length * n := by
  induction l with
  | nil => simp [bytesP]
  | cons b r ih =>
    have h1 := h b (by simp)
    have h2 := ih (fun x hx => h x (by simp [hx]))
    simp only [bytesP, List.length_cons, Nat.succ_mul]
    omega
theorem built_facts {l : List En} (ht : Tree l) {blobs : List (List UInt8)} (hb : builtP l = some blobs) : blobs.Pairwise (fun x y => x ≠ y) ∧ (∀ x, x ∈ blobs ↔ x ∈ allP l) ∧ blobs.length ≤ 41 ∧ bytesP blobs ≤ 73882 := by
  unfold builtP at hb
  rcases outs_spec (allP l) with ⟨hn, _⟩ | ⟨out, ho, hs, hmem, huni⟩
  · rw [hn] at hb; simp at hb
  · rw [ho] at hb
    obtain rfl := Option.some.inj hb
    have hne : out.Pairwise (fun x y => x ≠ y) := hs.imp (by rintro x y h rfl; rw [dless_irr] at h; simp at h)
    have hlen : out.length ≤ 41 := by
      have h1 : ∀ (a m : List (List UInt8)), a.Pairwise (fun x y => x ≠ y) → (∀ x ∈ a, x ∈ m) → a.length ≤ m.length := by
        intro a
        induction a with
        | nil => intro m _ _; exact Nat.zero_le _
        | cons x a ih =>
          intro m hn hs
          rw [List.pairwise_cons] at hn
          have hx := hs x (by simp)
          have h := ih (m.erase x) hn.2 (fun b hb => (List.mem_erase_of_ne (fun e => hn.1 b hb e.symm)).2 (hs b (by simp [hb])))
          rw [List.length_erase_of_mem hx] at h
          have := List.length_pos_of_mem hx
          simp; omega
      have h2 := h1 out (allP l) hne (fun x hx => (hmem x).1 hx)
      have h3 := allTo_len l l.length (Nat.le_refl _)
      have := ht.len
      unfold allP at h2
      omega
    have hby := bytes_le out 1802 (fun b hb => part_small l ht b ((hmem b).1 hb))
    refine ⟨hne, hmem, hlen, ?_⟩
    have := Nat.mul_le_mul_right 1802 hlen
    omega
end Go.Proofs.YtjmacegibchplaaGreatDoor
