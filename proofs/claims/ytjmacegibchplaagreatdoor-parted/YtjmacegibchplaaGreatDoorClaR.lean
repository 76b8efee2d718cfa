import Derived.Test.YtjmacegibchplaaGreatDoorClaQ
/-
  The program's Clash answers as the document asks: what it answers, and that this is right.
-/
namespace Go.Proofs.YtjmacegibchplaaGreatDoor
open Go.RowKit Go.Maps
set_option linter.unusedVariables false
def difAt (kx ky : List (List UInt8)) (d : List UInt8) : Bool := match lastR ky d with | some t => !(t == (lastR kx d).getD []) | none => false
def pickC (kx ky : List (List UInt8)) : Option (List UInt8) → List UInt8 × List UInt8 × Int
  | some d => ((lastR kx d).getD [], (lastR ky d).getD [], 0)
  | none => ([], [], 11)
def clash1 (rx ry : List UInt8) (kx ky : List (List UInt8)) : List UInt8 × List UInt8 × Int := if rx ≠ ry then ([], [], 11) else pickC kx ky ((digsOf kx).find? (difAt kx ky))
def clOf (x y : List En) : List UInt8 × List UInt8 × Int := if errOf x ≠ 0 then ([], [], errOf x) else if errOf y ≠ 0 then ([], [], errOf y) else clash1 (rootOf x) (rootOf y) (keptAll x) (keptAll y)
theorem err_zero (l : List En) (h : errOf l = 0) : Tree l ∧ clashR (keptAll l) = false ∧ rootOf l = P.digest (blobP l 6 []) ∧ outOf l = listOf (keptAll l) := by
  have hr : rootOf l = P.digest (blobP l 6 []) := by unfold rootOf; rw [if_pos h]
  unfold errOf at h
  by_cases hw : wrongP l = 0
  · rw [if_neg (by simpa using hw)] at h
    have ht := tree_of l hw
    have hb : builtP l ≠ none := fun e => by rw [if_pos e] at h; simp at h
    have hc : clashR (keptAll l) = false := by
      cases hc : clashR (keptAll l) with
      | false => rfl
      | true => exact absurd (built_none l ht hc) hb
    refine ⟨ht, hc, hr, ?_⟩
    unfold outOf
    rw [if_pos hw, built_some l ht hc]; rfl
  · rw [if_pos hw] at h; exact absurd h hw
theorem root_kept (l : List En) : blobP l 6 [] ∈ keptAll l := by unfold keptAll; simp
theorem clOf_ok (x y : List En) : ClashOk x y (clOf x y) := by
  unfold clOf
  by_cases hx : errOf x = 0
  · rw [if_neg (by simpa using hx)]
    by_cases hy : errOf y = 0
    · rw [if_neg (by simpa using hy)]
      obtain ⟨tx, cx, rx, ox⟩ := err_zero x hx
      obtain ⟨ty, cy, ry, oy⟩ := err_zero y hy
      have hce : clashErr x y = if sameP x y = true ∨ rootOf x ≠ rootOf y then 11 else 0 := by
        unfold clashErr
        rw [if_neg (by simpa using hx), if_neg (by simpa using hy)]
      unfold clash1
      by_cases hr : rootOf x = rootOf y
      · rw [if_neg (by simpa using hr)]
        cases hf : (digsOf (keptAll x)).find? (difAt (keptAll x) (keptAll y)) with
        | some d =>
          have hdm := List.mem_of_find?_eq_some hf
          have hdif := List.find?_some hf
          obtain ⟨s, hs⟩ := Option.isSome_iff_exists.1 ((lastR_isSome (keptAll x) d).2 ((digs_mem _ d).1 hdm))
          unfold difAt at hdif
          rw [hs] at hdif
          cases ht : lastR (keptAll y) d with
          | none => rw [ht] at hdif; simp at hdif
          | some t =>
            rw [ht] at hdif
            have hne : t ≠ s := by simpa using hdif
            obtain ⟨hsm, hsd⟩ := lastR_some hs
            obtain ⟨htm, htd⟩ := lastR_some ht
            have hns : ¬ sameP x y = true := fun hsame => by
              have hmm := (same_iff x y tx ty).1 hsame
              have htx : t ∈ keptAll x := (kept_mem x tx t).2 (part_same y x ty tx (fun e => (hmm e).symm) t ((kept_mem y ty t).1 htm))
              exact hne (clashR_false _ cx t htx s hsm (by rw [htd, hsd]))
            refine ⟨?_, fun h => absurd rfl h, fun _ => ?_⟩
            · rw [hce, if_neg (by rintro (h | h); exact hns h; exact h hr)]; rfl
            · rw [ox, oy]
              simp only [pickC, hs, ht, Option.getD_some]
              exact ⟨fun e => hne e.symm, (list_mem _ cx s).2 hsm, (list_mem _ cy t).2 htm, by rw [hsd, htd]⟩
        | none =>
          rw [List.find?_eq_none] at hf
          have hag : ∀ d s t, lastR (keptAll x) d = some s → lastR (keptAll y) d = some t → s = t := by
            intro d s t hs ht
            have hdm : d ∈ digsOf (keptAll x) := (digs_mem _ d).2 ⟨s, lastR_some hs⟩
            have := hf d hdm
            unfold difAt at this
            rw [hs, ht] at this
            simpa using (by simpa using this : t = s).symm
          have hbl : blobP x 6 [] = blobP y 6 [] := by
            refine hag (P.digest (blobP x 6 [])) _ _ (last_of _ cx _ (root_kept x)) ?_
            rw [rx, ry] at hr
            rw [hr]; exact last_of _ cy _ (root_kept y)
          have hsame : sameP x y = true := (same_iff x y tx ty).2 (fun e => ⟨fun he => ?_, fun he => ?_⟩)
          · refine ⟨?_, fun _ => ⟨rfl, rfl⟩, fun h => by simp [pickC] at h⟩
            rw [hce, if_pos (.inl hsame)]; rfl
          · obtain ⟨i, hi, rfl⟩ := List.getElem_of_mem he
            have := walk_same x y tx ty cx cy hag 6 [] (by rw [pre_nil]; exact hbl) i ((walk_all x tx i).2 hi)
            rwa [en_getD x i hi] at this
          · obtain ⟨i, hi, rfl⟩ := List.getElem_of_mem he
            have := walk_same y x ty tx cy cx (fun d s t hs ht => (hag d t s ht hs).symm) 6 [] (by rw [pre_nil]; exact hbl.symm) i ((walk_all y ty i).2 hi)
            rwa [en_getD y i hi] at this
      · rw [if_pos hr]
        exact ⟨by rw [hce, if_pos (.inr hr)], fun _ => ⟨rfl, rfl⟩, fun h => by simp at h⟩
    · rw [if_pos hy]
      exact ⟨by unfold clashErr; rw [if_neg (by simpa using hx), if_pos hy], fun _ => ⟨rfl, rfl⟩, fun h => absurd h hy⟩
  · rw [if_pos hx]
    exact ⟨by unfold clashErr; rw [if_pos hx], fun _ => ⟨rfl, rfl⟩, fun h => absurd h hx⟩
theorem find_take_none {α : Type} (p : α → Bool) (l : List α) (k : Nat) (h : k < l.length) (hn : (l.take k).find? p = none) : l.find? p = if p l[k] then some l[k] else (l.drop (k + 1)).find? p := by
  have e : l = l.take k ++ l[k] :: l.drop (k + 1) := by rw [← List.drop_eq_getElem_cons h, List.take_append_drop]
  have h1 : l.find? p = (l.take k ++ l[k] :: l.drop (k + 1)).find? p := by rw [← e]
  rw [h1, List.find?_append, hn, Option.none_or, List.find?_cons]
  cases p l[k] <;> rfl
end Go.Proofs.YtjmacegibchplaaGreatDoor

/-
  The program's Clash: the walk.
-/
namespace Go.Proofs.YtjmacegibchplaaGreatDoor
open Go.RowKit Go.Maps
set_option linter.unusedVariables false
set_option maxRecDepth 100000 in
set_option maxHeartbeats 4000000 in
theorem clash_any (rx ry : List UInt8) (ux uy nx ny : Nat) (kx ky : List (List UInt8)) (w : World) (hx : MapIs w ux nx (blobsF kx)) (hy : MapIs w uy ny (blobsF ky)) (hnx : nx ≤ 5000000000) (hdl : (digsOf kx).length ≤ 1000000) :
    Calls Tryz.prog 43 #[setV (bs rx) (some ux), setV (bs ry) (some uy)] w fun e w' => e = .returned (.tuple #[.string (bs (clash1 rx ry kx ky).1), .string (bs (clash1 rx ry kx ky).2.1), .int .i64 (clash1 rx ry kx ky).2.2]) ∧ Below w.heap.size w w' := by
  have sr := str_eq2 rx ry
  by_cases hr : rx = ry
  · subst hr
    have hbA : Below w.heap.size w ((w.alloc (.cells #[.string (bs rx), .map (some ux)] 77)).alloc (.cells #[.string (bs rx), .map (some uy)] 77)) := ((Below.refl _ _).alloc (Nat.le_refl _) _).alloc (by simp) _
    have hm1 : MapIs ((w.alloc (.cells #[.string (bs rx), .map (some ux)] 77)).alloc (.cells #[.string (bs rx), .map (some uy)] 77)) ux nx (blobsF kx) := (hx.alloc _).alloc _
    have hm2 : MapIs ((w.alloc (.cells #[.string (bs rx), .map (some ux)] 77)).alloc (.cells #[.string (bs rx), .map (some uy)] 77)) uy ny (blobsF ky) := (hy.alloc _).alloc _
    have hdg := digests_any (bs rx) ux nx kx _ hm1 hnx
    unfold setV at hdg
    have Hdg := hide hdg
    have hc1 : clash1 rx rx kx ky = pickC kx ky ((digsOf kx).find? (difAt kx ky)) := by unfold clash1; rw [if_neg (by simp)]
    have hmem := digs_mem kx
    obtain ⟨R, hR⟩ : ∃ R, clash1 rx rx kx ky = R := ⟨_, rfl⟩
    rw [hR] at hc1 ⊢
    have HR := hide hc1
    clear hdg hc1 hR
    unfold setV
    go_enter Tryz.func43, Tryz.ntmps43
    go_wp2_with fail
    refine (unhide Hdg).mono ?_
    rintro e w2 ⟨v, rfl, ho, hb2⟩
    obtain ⟨a, c, rfl, hta, -, -⟩ := ho.texts
    have hbb : Below w.heap.size w w2 := hbA.trans (hb2.mono hbA.size)
    have hsx : w2.heap[w.heap.size]? = some (.cells #[.string (bs rx), .map (some ux)] 77 (0, 0)) := (hb2.block w.heap.size (by simp; omega)).trans ((Below.heap_alloc _ _ _ (by simp)).trans (heap_alloc_new w _))
    have hsy : w2.heap[w.heap.size + 1]? = some (.cells #[.string (bs rx), .map (some uy)] 77 (0, 0)) := (hb2.block (w.heap.size + 1) (by simp)).trans (by
      have h2 := heap_alloc_new (w.alloc (.cells #[.string (bs rx), .map (some ux)] 77)) (.cells #[.string (bs rx), .map (some uy)] 77)
      rw [show (w.alloc (.cells #[.string (bs rx), .map (some ux)] 77)).heap.size = w.heap.size + 1 by simp] at h2
      exact h2)
    have hx2 : MapIs w2 ux nx (blobsF kx) := hm1.same (hb2.block ux hm1.lt)
    have hy2 : MapIs w2 uy ny (blobsF ky) := hm2.same (hb2.block uy hm2.lt)
    clear Hdg ho hb2 hm1 hm2 hbA hx hy sr
    generalize hD : digsOf kx = ds at *
    have Hmem := hide hmem
    clear hmem
    go_wp2_with fail
    go_loopw [19] (fun i wr => ∃ k : Nat, k ≤ ds.length ∧ i = .int .i64 k ∧ Below w2.heap.size w2 wr ∧ (ds.take k).find? (difAt kx ky) = none) (fun i _ => ds.length - (intOf i).toNat)
    case atStart => exact ⟨0, Nat.zero_le _, rfl, Below.refl _ _, rfl⟩
    case round =>
      obtain ⟨k, hk, rfl, hb, hnone⟩ := hrel
      have Hn := hide hnone
      clear hnone
      by_cases hlt : k < ds.length
      · obtain ⟨b, o, rfl, hc⟩ : ∃ b o, a = some ⟨b, o, none⟩ ∧ ∀ i (h : i < ds.length), w2.cell? ⟨b, o + i, none⟩ = some (strVal ds[i]) := by
          rcases hta with h | h
          · subst h; simp at hlt
          · exact h
        have ck := (hb.cell (p := ⟨b, o + k, none⟩) (block_lt (hc k hlt))).trans (hc k hlt)
        have Hfk := hide (find_take_none (difAt kx ky) ds k hlt (unhide Hn))
        have Htk := hide (show (ds.take (k + 1)).find? (difAt kx ky) = if difAt kx ky ds[k] then some ds[k] else none by
          rw [List.take_succ_eq_append_getElem hlt, List.find?_append, unhide Hn, Option.none_or, List.find?_cons]
          cases difAt kx ky ds[k] <;> rfl)
        obtain ⟨d, hd⟩ : ∃ d, ds[k] = d := ⟨_, rfl⟩
        have hdm : d ∈ ds := by rw [← hd]; exact List.getElem_mem hlt
        obtain ⟨s, hs⟩ : ∃ y, lastR kx d = some y := Option.isSome_iff_exists.1 ((lastR_isSome kx d).2 ((unhide Hmem d).1 hdm))
        have hdl3 : d.length ≤ maxLen := by
          have := (lastR_some hs).2
          rw [← this, digest_len]; decide
        rw [hd] at ck Hfk Htk
        unfold strVal at ck
        have q2 : (k : Int) < (ds.length : Int) := by omega
        have hlx := (Array.getElem?_eq_some_iff.1 hsx).1
        have hly := (Array.getElem?_eq_some_iff.1 hsy).1
        have hw2 := hb.size
        have hsxr := (hb.block _ hlx).trans hsx
        have hsyr := (hb.block _ hly).trans hsy
        have x0 := cell_of_block (j := 0) hsxr
        have x1 := cell_of_block (j := 1) hsxr
        have y1 := cell_of_block (j := 1) hsyr
        simp only [List.getElem?_toArray, List.getElem?_cons_zero, List.getElem?_cons_succ] at x0 x1 y1
        have hyr : MapIs wr uy ny (blobsF ky) := hy2.same (hb.block uy hy2.lt)
        have hxr : MapIs wr ux nx (blobsF kx) := hx2.same (hb.block ux hx2.lt)
        have hbF : blobsF ky d = (lastR ky d).map blobV := rfl
        have hlx' : w.heap.size < wr.heap.size := by omega
        have hly' : w.heap.size + 1 < wr.heap.size := by omega
        have Hbw := hide (show Below w.heap.size w wr from hbb.trans (hb.mono hbb.size))
        clear hc hd hdm
        cases hty : lastR ky d with
        | none =>
          have Hdif := hide (show difAt kx ky d = false by unfold difAt; rw [hty])
          rw [hty] at hbF
          clear hty hs
          go_wp2_with (at_lookup; refine wp_look_ok rfl _ _ 75 rfl 107 under40 (.agg #[.string ⟨#[]⟩]) (zero_blob _) uy ny (blobsF ky) rfl hyr d rfl hdl3 ?_; rw [hbF]; simp only [Option.map_none, Option.getD_none, Option.isSome_none])
          go_quiet (fail)
          go_wp2_with fail
          go_roundw
          case rel =>
            exact ⟨k + 1, by omega, by go_num, below_drewN (hb.alloc hb.size _) _, by rw [unhide Htk, unhide Hdif]; rfl⟩
          case measure => simp [intOf]; omega
        | some t =>
          have hdf : difAt kx ky d = !(t == s) := by unfold difAt; rw [hty, hs]; rfl
          rw [hty] at hbF
          have st := str_eq2 t s
          have hA : MapIs (wr.alloc (.cells #[.string (bs t)] 107)) ux nx (blobsF kx) := hxr.alloc _
          have hby := bytes_any (bs rx) ux nx kx d s ((wr.alloc (.cells #[.string (bs t)] 107)).drew) hA.drew hdl3 hs
          unfold setV at hby
          have Hby := hide hby
          have kA : (wr.alloc (.cells #[.string (bs t)] 107)).cell? ⟨wr.heap.size, 0, none⟩ = some (.string (bs t)) := cell_of_block (heap_alloc_new wr _)
          have Hst := hide (And.intro hs hty)
          clear hby hs hty
          by_cases hts : t = s
          · subst hts
            have Hdif := hide (show difAt kx ky d = false by rw [hdf]; simp)
            clear hdf st
            go_wp2_with (at_lookup; refine wp_look_ok rfl _ _ 75 rfl 107 under40 (.agg #[.string ⟨#[]⟩]) (zero_blob _) uy ny (blobsF ky) rfl hyr d rfl hdl3 ?_; rw [hbF]; simp only [Option.map_some, Option.getD_some, Option.isSome_some, blobV])
            go_region_held3 (fun w' => w'.cell? ⟨w.heap.size, 0, none⟩ = some (.string (bs rx)) ∧ w'.cell? ⟨w.heap.size, 1, none⟩ = some (.map (some ux)) ∧ w'.cell? ⟨wr.heap.size, 0, none⟩ = some (.string (bs t)))
              ((first | exact ⟨by assumption, by assumption, by assumption⟩ | go_keep))
              ((go_at_call 68; refine (unhide Hby).mono ?_; rintro e w' ⟨rfl, hw'⟩; rw [hw']; clear hw' w'))
            all_goals go_wp2_with fail
            all_goals go_roundw
            all_goals first
              | (simp [intOf]; omega)
              | skip
            all_goals
              refine ⟨k + 1, by omega, by go_num, ?_, by rw [unhide Htk, unhide Hdif]; rfl⟩
              have h5 : Below w2.heap.size w2 ((wr.alloc (.cells #[.string (bs t)] 107)).drew) := by
                have := hb.alloc hb.size (.cells #[.string (bs t)] 107)
                exact ⟨this.os, this.tape, this.output, this.size, this.block⟩
              exact h5.alloc (by have := h5.size; simpa using this) _
          · have Hdif := hide (show difAt kx ky d = true by rw [hdf]; simpa using hts)
            have st' : ((bs t).toList == (bs s).toList) = false := by rw [st]; simpa using hts
            have st2 : ((bs t).toList != (bs s).toList) = true := by rw [bne, st']; rfl
            have hby2 := fun W hW => bytes_any (bs rx) ux nx kx d s W hW hdl3 (unhide Hst).1
            unfold setV at hby2
            have Hby2 := hide hby2
            clear hdf st hts hby2
            go_wp2_with (at_lookup; refine wp_look_ok rfl _ _ 75 rfl 107 under40 (.agg #[.string ⟨#[]⟩]) (zero_blob _) uy ny (blobsF ky) rfl hyr d rfl hdl3 ?_; rw [hbF]; simp only [Option.map_some, Option.getD_some, Option.isSome_some, blobV])
            go_region_held3 (fun w' => w'.cell? ⟨w.heap.size, 0, none⟩ = some (.string (bs rx)) ∧ w'.cell? ⟨w.heap.size, 1, none⟩ = some (.map (some ux)) ∧ w'.cell? ⟨wr.heap.size, 0, none⟩ = some (.string (bs t)))
              ((first | exact ⟨by assumption, by assumption, by assumption⟩ | go_keep))
              ((go_at_call 68; refine (unhide Hby).mono ?_; rintro e w5 ⟨rfl, hw5⟩;
                have hx5 : MapIs w5 ux nx (blobsF kx) := by rw [hw5]; exact hA.drew.alloc _;
                have hb5 : Below w2.heap.size w2 w5 := by
                  have h0 := hb.alloc hb.size (.cells #[.string (bs t)] 107)
                  have h5 : Below w2.heap.size w2 ((wr.alloc (.cells #[.string (bs t)] 107)).drew) := ⟨h0.os, h0.tape, h0.output, h0.size, h0.block⟩
                  rw [hw5]
                  exact h5.alloc (by have := h5.size; simpa using this) _;
                have s0 : w5.cell? ⟨w.heap.size, 0, none⟩ = some (.string (bs rx)) := (hb5.cell (p := ⟨w.heap.size, 0, none⟩) hlx).trans (cell_of_block hsx);
                have s1 : w5.cell? ⟨w.heap.size, 1, none⟩ = some (.map (some ux)) := (hb5.cell (p := ⟨w.heap.size, 1, none⟩) hlx).trans (cell_of_block hsx);
                have s2 : w5.cell? ⟨wr.heap.size, 0, none⟩ = some (.string (bs t)) := by
                  rw [hw5]
                  exact (cell_of_block (j := 0) ((Below.heap_alloc _ _ _ (by simp)).trans (heap_alloc_new wr (.cells #[.string (bs t)] 107))));
                clear hw5))
            all_goals go_wp2_with fail
            all_goals
              have hby3 := unhide Hby2 w5.drew hx5.drew
              have Hby3 := hide hby3
              clear hby3
            all_goals go_region_held3 (fun w' => w'.cell? ⟨w.heap.size, 0, none⟩ = some (.string (bs rx)) ∧ w'.cell? ⟨w.heap.size, 1, none⟩ = some (.map (some ux)) ∧ w'.cell? ⟨wr.heap.size, 0, none⟩ = some (.string (bs t)))
              ((first | exact ⟨by assumption, by assumption, by assumption⟩ | go_keep))
              ((go_at_call 68; refine (unhide Hby3).mono ?_; rintro e w6 ⟨rfl, hw6⟩;
                have hb6 : Below w2.heap.size w2 w6 := by
                  rw [hw6]
                  have h5 : Below w2.heap.size w2 w5.drew := ⟨hb5.os, hb5.tape, hb5.output, hb5.size, hb5.block⟩
                  exact h5.alloc h5.size _;
                have z0 : w6.cell? ⟨w.heap.size, 0, none⟩ = some (.string (bs rx)) := (hb6.cell (p := ⟨w.heap.size, 0, none⟩) hlx).trans (cell_of_block hsx);
                have z1 : w6.cell? ⟨w.heap.size, 1, none⟩ = some (.map (some ux)) := (hb6.cell (p := ⟨w.heap.size, 1, none⟩) hlx).trans (cell_of_block hsx);
                have z2 : w6.cell? ⟨wr.heap.size, 0, none⟩ = some (.string (bs t)) := by
                  rw [hw6]
                  have hl5 : wr.heap.size < w5.heap.size := World.block_lt_of_cell? _ _ s2
                  exact (World.cell?_of_block (a := ⟨wr.heap.size, 0, none⟩) (Below.heap_alloc w5.drew _ _ hl5)).trans s2;
                clear hw6))
            all_goals go_wp2_with fail
            all_goals go_ret3
            all_goals
              refine ⟨?_, hbb.trans (hb6.mono hbb.size)⟩
              rw [unhide HR, unhide Hfk, unhide Hdif, if_pos rfl]
              simp only [pickC, (unhide Hst).1, (unhide Hst).2, Option.getD_some]
              rfl
      · obtain rfl : k = ds.length := by omega
        have Hf := hide (show ds.find? (difAt kx ky) = none by have := unhide Hn; rwa [List.take_length] at this)
        have hbw : Below w.heap.size w wr := hbb.trans (hb.mono hbb.size)
        go_wp2_with fail
        go_ret3
        exact ⟨by rw [unhide HR, unhide Hf]; rfl, hbw⟩
  · have hne : ((bs rx).toList == (bs ry).toList) = false := by rw [sr]; simpa using hr
    have hne2 : ((bs rx).toList != (bs ry).toList) = true := by rw [bne, hne]; rfl
    have hc1 : clash1 rx ry kx ky = ([], [], 11) := by unfold clash1; rw [if_pos hr]
    rw [hc1]
    clear hc1 hr sr
    unfold setV
    go_enter Tryz.func43, Tryz.ntmps43
    go_wp2_with fail
    go_ret3
    exact ⟨rfl, ((Below.refl _ _).alloc (Nat.le_refl _) _).alloc (by simp) _⟩
end Go.Proofs.YtjmacegibchplaaGreatDoor
