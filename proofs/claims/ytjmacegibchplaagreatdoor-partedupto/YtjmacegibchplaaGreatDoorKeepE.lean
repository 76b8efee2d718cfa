import Derived.Test.YtjmacegibchplaaGreatDoorClaQ
import Derived.Test.YtjmacegibchplaaGreatDoorKeepD
/-
  The program's Clash answers as the document asks: what it answers, and that this is right.
-/
namespace Go.Proofs.YtjmacegibchplaaGreatDoor
open Go.RowKit Go.Maps
set_option linter.unusedVariables false

def difAt (kx ky : List (List UInt8)) (d : List UInt8) : Bool := match lastR ky d with | some t => !(t == (lastR kx d).getD []) | none => false
def pickC (kx ky : List (List UInt8)) : Option (List UInt8) → List UInt8 × List UInt8 × Int
  | some d => ((lastR kx d).getD [], (lastR ky d).getD [], 0)
  | none => ([], [], 11)
def clash1 (rx ry : List UInt8) (kx ky : List (List UInt8)) : List UInt8 × List UInt8 × Int := if rx ≠ ry then ([], [], 11) else pickC kx ky ((digsOf kx).find? (difAt kx ky))
def clOf (x y : List En) : List UInt8 × List UInt8 × Int := if errOf x ≠ 0 then ([], [], errOf x) else if errOf y ≠ 0 then ([], [], errOf y) else clash1 (rootOf x) (rootOf y) (keptAll x) (keptAll y)
theorem err_zero (l : List En) (h : errOf l = 0) : Tree l ∧ clashR (keptAll l) = false ∧ rootOf l = P.digest (blobP l 6 []) ∧ outOf l = listOf (keptAll l) := by
  have hr : rootOf l = P.digest (blobP l 6 []) := by unfold rootOf; rw [if_pos h]
  unfold errOf at h
  by_cases hw : wrongP l = 0
  · rw [if_neg (by simpa using hw)] at h
    have ht := tree_of l hw
    have hb : builtP l ≠ none := fun e => by rw [if_pos e] at h; simp at h
    have hc : clashR (keptAll l) = false := by
      cases hc : clashR (keptAll l) with
      | false => rfl
      | true => exact absurd (built_none l ht hc) hb
    refine ⟨ht, hc, hr, ?_⟩
    unfold outOf
    rw [if_pos hw, built_some l ht hc]; rfl
  · rw [if_pos hw] at h; exact absurd h hw
theorem root_kept (l : List En) : blobP l 6 [] ∈ keptAll l := by unfold keptAll; simp
theorem clOf_ok (x y : List En) : ClashOk x y (clOf x y) := by
  unfold clOf
  by_cases hx : errOf x = 0
  · rw [if_neg (by simpa using hx)]
    by_cases hy : errOf y = 0
    · rw [if_neg (by simpa using hy)]
      obtain ⟨tx, cx, rx, ox⟩ := err_zero x hx
      obtain ⟨ty, cy, ry, oy⟩ := err_zero y hy
      have hce : clashErr x y = if sameP x y = true ∨ rootOf x ≠ rootOf y then 11 else 0 := by
        unfold clashErr
        rw [if_neg (by simpa using hx), if_neg (by simpa using hy)]
      unfold clash1
      by_cases hr : rootOf x = rootOf y
      · rw [if_neg (by simpa using hr)]
        cases hf : (digsOf (keptAll x)).find? (difAt (keptAll x) (keptAll y)) with
        | some d =>
          have hdm := List.mem_of_find?_eq_some hf
          have hdif := List.find?_some hf
          obtain ⟨s, hs⟩ := Option.isSome_iff_exists.1 ((lastR_isSome (keptAll x) d).2 ((digs_mem _ d).1 hdm))
          unfold difAt at hdif
          rw [hs] at hdif
          cases ht : lastR (keptAll y) d with
          | none => rw [ht] at hdif; simp at hdif
          | some t =>
            rw [ht] at hdif
            have hne : t ≠ s := by simpa using hdif
            obtain ⟨hsm, hsd⟩ := lastR_some hs
            obtain ⟨htm, htd⟩ := lastR_some ht
            have hns : ¬ sameP x y = true := fun hsame => by
              have hmm := (same_iff x y tx ty).1 hsame
              have htx : t ∈ keptAll x := (kept_mem x tx t).2 (part_same y x ty tx (fun e => (hmm e).symm) t ((kept_mem y ty t).1 htm))
              exact hne (clashR_false _ cx t htx s hsm (by rw [htd, hsd]))
            refine ⟨?_, fun h => absurd rfl h, fun _ => ?_⟩
            · rw [hce, if_neg (by rintro (h | h); exact hns h; exact h hr)]; rfl
            · rw [ox, oy]
              simp only [pickC, hs, ht, Option.getD_some]
              exact ⟨fun e => hne e.symm, (list_mem _ cx s).2 hsm, (list_mem _ cy t).2 htm, by rw [hsd, htd]⟩
        | none =>
          rw [List.find?_eq_none] at hf
          have hag : ∀ d s t, lastR (keptAll x) d = some s → lastR (keptAll y) d = some t → s = t := by
            intro d s t hs ht
            have hdm : d ∈ digsOf (keptAll x) := (digs_mem _ d).2 ⟨s, lastR_some hs⟩
            have := hf d hdm
            unfold difAt at this
            rw [hs, ht] at this
            simpa using (by simpa using this : t = s).symm
          have hbl : blobP x 6 [] = blobP y 6 [] := by
            refine hag (P.digest (blobP x 6 [])) _ _ (last_of _ cx _ (root_kept x)) ?_
            rw [rx, ry] at hr
            rw [hr]; exact last_of _ cy _ (root_kept y)
          have hsame : sameP x y = true := (same_iff x y tx ty).2 (fun e => ⟨fun he => ?_, fun he => ?_⟩)
          · refine ⟨?_, fun _ => ⟨rfl, rfl⟩, fun h => by simp [pickC] at h⟩
            rw [hce, if_pos (.inl hsame)]; rfl
          · obtain ⟨i, hi, rfl⟩ := List.getElem_of_mem he
            have := walk_same x y tx ty cx cy hag 6 [] (by rw [pre_nil]; exact hbl) i ((walk_all x tx i).2 hi)
            rwa [en_getD x i hi] at this
          · obtain ⟨i, hi, rfl⟩ := List.getElem_of_mem he
            have := walk_same y x ty tx cy cx (fun d s t hs ht => (hag d t s ht hs).symm) 6 [] (by rw [pre_nil]; exact hbl.symm) i ((walk_all y ty i).2 hi)
            rwa [en_getD y i hi] at this
      · rw [if_pos hr]
        exact ⟨by rw [hce, if_pos (.inr hr)], fun _ => ⟨rfl, rfl⟩, fun h => by simp at h⟩
    · rw [if_pos hy]
      exact ⟨by unfold clashErr; rw [if_neg (by simpa using hx), if_pos hy], fun _ => ⟨rfl, rfl⟩, fun h => absurd h hy⟩
  · rw [if_pos hx]
    exact ⟨by unfold clashErr; rw [if_pos hx], fun _ => ⟨rfl, rfl⟩, fun h => absurd h hx⟩
theorem find_take_none {α : Type} (p : α → Bool) (l : List α) (k : Nat) (h : k < l.length) (hn : (l.take k).find? p = none) : l.find? p = if p l[k] then some l[k] else (l.drop (k + 1)).find? p := by
  have e : l = l.take k ++ l[k] :: l.drop (k + 1) := by rw [← List.drop_eq_getElem_cons h, List.take_append_drop]
  have h1 : l.find? p = (l.take k ++ l[k] :: l.drop (k + 1)).find? p := by rw [← e]
  rw [h1, List.find?_append, hn, Option.none_or, List.find?_cons]
  cases p l[k] <;> rfl
end Go.Proofs.YtjmacegibchplaaGreatDoor

/-
  The program's Clash: the walk.
-/
namespace Go.Proofs.YtjmacegibchplaaGreatDoor
open Go.RowKit Go.Maps
set_option linter.unusedVariables false

set_option maxRecDepth 100000 in
set_option maxHeartbeats 4000000 in
theorem clash_any (rx ry : List UInt8) (ux uy nx ny : Nat) (kx ky : List (List UInt8)) (w : World) (hx : MapIs w ux nx (blobsF kx)) (hy : MapIs w uy ny (blobsF ky)) (hnx : nx ≤ 5000000000) (hdl : (digsOf kx).length ≤ 1000000) :
    Calls Tryz.prog 43 #[setV (bs rx) (some ux), setV (bs ry) (some uy)] w fun e w' => e = .returned (.tuple #[.string (bs (clash1 rx ry kx ky).1), .string (bs (clash1 rx ry kx ky).2.1), .int .i64 (clash1 rx ry kx ky).2.2]) ∧ Below w.heap.size w w' := by
  have sr := str_eq2 rx ry
  by_cases hr : rx = ry
  · subst hr
    have hbA : Below w.heap.size w ((w.alloc (.cells #[.string (bs rx), .map (some ux)] 77)).alloc (.cells #[.string (bs rx), .map (some uy)] 77)) := ((Below.refl _ _).alloc (Nat.le_refl _) _).alloc (by simp) _
    have hm1 : MapIs ((w.alloc (.cells #[.string (bs rx), .map (some ux)] 77)).alloc (.cells #[.string (bs rx), .map (some uy)] 77)) ux nx (blobsF kx) := (hx.alloc _).alloc _
    have hm2 : MapIs ((w.alloc (.cells #[.string (bs rx), .map (some ux)] 77)).alloc (.cells #[.string (bs rx), .map (some uy)] 77)) uy ny (blobsF ky) := (hy.alloc _).alloc _
    have hdg := digests_any (bs rx) ux nx kx _ hm1 hnx
    unfold setV at hdg
    have Hdg := hide hdg
    have hc1 : clash1 rx rx kx ky = pickC kx ky ((digsOf kx).find? (difAt kx ky)) := by unfold clash1; rw [if_neg (by simp)]
    have hmem := digs_mem kx
    obtain ⟨R, hR⟩ : ∃ R, clash1 rx rx kx ky = R := ⟨_, rfl⟩
    rw [hR] at hc1 ⊢
    have HR := hide hc1
    clear hdg hc1 hR
    unfold setV
    go_enter Tryz.func43, Tryz.ntmps43
    go_wp2_with fail
    refine (unhide Hdg).mono ?_
    rintro e w2 ⟨v, rfl, ho, hb2⟩
    obtain ⟨a, c, rfl, hta, -, -⟩ := ho.texts
    have hbb : Below w.heap.size w w2 := hbA.trans (hb2.mono hbA.size)
    have hsx : w2.heap[w.heap.size]? = some (.cells #[.string (bs rx), .map (some ux)] 77 (0, 0)) := (hb2.block w.heap.size (by simp; omega)).trans ((Below.heap_alloc _ _ _ (by simp)).trans (heap_alloc_new w _))
    have hsy : w2.heap[w.heap.size + 1]? = some (.cells #[.string (bs rx), .map (some uy)] 77 (0, 0)) := (hb2.block (w.heap.size + 1) (by simp)).trans (by
      have h2 := heap_alloc_new (w.alloc (.cells #[.string (bs rx), .map (some ux)] 77)) (.cells #[.string (bs rx), .map (some uy)] 77)
      rw [show (w.alloc (.cells #[.string (bs rx), .map (some ux)] 77)).heap.size = w.heap.size + 1 by simp] at h2
      exact h2)
    have hx2 : MapIs w2 ux nx (blobsF kx) := hm1.same (hb2.block ux hm1.lt)
    have hy2 : MapIs w2 uy ny (blobsF ky) := hm2.same (hb2.block uy hm2.lt)
    clear Hdg ho hb2 hm1 hm2 hbA hx hy sr
    generalize hD : digsOf kx = ds at *
    have Hmem := hide hmem
    clear hmem
    go_wp2_with fail
    go_loopw [19] (fun i wr => ∃ k : Nat, k ≤ ds.length ∧ i = .int .i64 k ∧ Below w2.heap.size w2 wr ∧ (ds.take k).find? (difAt kx ky) = none) (fun i _ => ds.length - (intOf i).toNat)
    case atStart => exact ⟨0, Nat.zero_le _, rfl, Below.refl _ _, rfl⟩
    case round =>
      obtain ⟨k, hk, rfl, hb, hnone⟩ := hrel
      have Hn := hide hnone
      clear hnone
      by_cases hlt : k < ds.length
      · obtain ⟨b, o, rfl, hc⟩ : ∃ b o, a = some ⟨b, o, none⟩ ∧ ∀ i (h : i < ds.length), w2.cell? ⟨b, o + i, none⟩ = some (strVal ds[i]) := by
          rcases hta with h | h
          · subst h; simp at hlt
          · exact h
        have ck := (hb.cell (p := ⟨b, o + k, none⟩) (block_lt (hc k hlt))).trans (hc k hlt)
        have Hfk := hide (find_take_none (difAt kx ky) ds k hlt (unhide Hn))
        have Htk := hide (show (ds.take (k + 1)).find? (difAt kx ky) = if difAt kx ky ds[k] then some ds[k] else none by
          rw [List.take_succ_eq_append_getElem hlt, List.find?_append, unhide Hn, Option.none_or, List.find?_cons]
          cases difAt kx ky ds[k] <;> rfl)
        obtain ⟨d, hd⟩ : ∃ d, ds[k] = d := ⟨_, rfl⟩
        have hdm : d ∈ ds := by rw [← hd]; exact List.getElem_mem hlt
        obtain ⟨s, hs⟩ : ∃ y, lastR kx d = some y := Option.isSome_iff_exists.1 ((lastR_isSome kx d).2 ((unhide Hmem d).1 hdm))
        have hdl3 : d.length ≤ maxLen := by
          have := (lastR_some hs).2
          rw [← this, digest_len]; decide
        rw [hd] at ck Hfk Htk
        unfold strVal at ck
        have q2 : (k : Int) < (ds.length : Int) := by omega
        have hlx := (Array.getElem?_eq_some_iff.1 hsx).1
        have hly := (Array.getElem?_eq_some_iff.1 hsy).1
        have hw2 := hb.size
        have hsxr := (hb.block _ hlx).trans hsx
        have hsyr := (hb.block _ hly).trans hsy
        have x0 := cell_of_block (j := 0) hsxr
        have x1 := cell_of_block (j := 1) hsxr
        have y1 := cell_of_block (j := 1) hsyr
        simp only [List.getElem?_toArray, List.getElem?_cons_zero, List.getElem?_cons_succ] at x0 x1 y1
        have hyr : MapIs wr uy ny (blobsF ky) := hy2.same (hb.block uy hy2.lt)
        have hxr : MapIs wr ux nx (blobsF kx) := hx2.same (hb.block ux hx2.lt)
        have hbF : blobsF ky d = (lastR ky d).map blobV := rfl
        have hlx' : w.heap.size < wr.heap.size := by omega
        have hly' : w.heap.size + 1 < wr.heap.size := by omega
        have Hbw := hide (show Below w.heap.size w wr from hbb.trans (hb.mono hbb.size))
        clear hc hd hdm
        cases hty : lastR ky d with
        | none =>
          have Hdif := hide (show difAt kx ky d = false by unfold difAt; rw [hty])
          rw [hty] at hbF
          clear hty hs
          go_wp2_with (at_lookup; refine wp_look_ok rfl _ _ 75 rfl 107 under40 (.agg #[.string ⟨#[]⟩]) (zero_blob _) uy ny (blobsF ky) rfl hyr d rfl hdl3 ?_; rw [hbF]; simp only [Option.map_none, Option.getD_none, Option.isSome_none])
          go_quiet (fail)
          go_wp2_with fail
          go_roundw
          case rel =>
            exact ⟨k + 1, by omega, by go_num, below_drewN (hb.alloc hb.size _) _, by rw [unhide Htk, unhide Hdif]; rfl⟩
          case measure => simp [intOf]; omega
        | some t =>
          have hdf : difAt kx ky d = !(t == s) := by unfold difAt; rw [hty, hs]; rfl
          rw [hty] at hbF
          have st := str_eq2 t s
          have hA : MapIs (wr.alloc (.cells #[.string (bs t)] 107)) ux nx (blobsF kx) := hxr.alloc _
          have hby := bytes_any (bs rx) ux nx kx d s ((wr.alloc (.cells #[.string (bs t)] 107)).drew) hA.drew hdl3 hs
          unfold setV at hby
          have Hby := hide hby
          have kA : (wr.alloc (.cells #[.string (bs t)] 107)).cell? ⟨wr.heap.size, 0, none⟩ = some (.string (bs t)) := cell_of_block (heap_alloc_new wr _)
          have Hst := hide (And.intro hs hty)
          clear hby hs hty
          by_cases hts : t = s
          · subst hts
            have Hdif := hide (show difAt kx ky d = false by rw [hdf]; simp)
            clear hdf st
            go_wp2_with (at_lookup; refine wp_look_ok rfl _ _ 75 rfl 107 under40 (.agg #[.string ⟨#[]⟩]) (zero_blob _) uy ny (blobsF ky) rfl hyr d rfl hdl3 ?_; rw [hbF]; simp only [Option.map_some, Option.getD_some, Option.isSome_some, blobV])
            go_region_held3 (fun w' => w'.cell? ⟨w.heap.size, 0, none⟩ = some (.string (bs rx)) ∧ w'.cell? ⟨w.heap.size, 1, none⟩ = some (.map (some ux)) ∧ w'.cell? ⟨wr.heap.size, 0, none⟩ = some (.string (bs t)))
              ((first | exact ⟨by assumption, by assumption, by assumption⟩ | go_keep))
              ((go_at_call 68; refine (unhide Hby).mono ?_; rintro e w' ⟨rfl, hw'⟩; rw [hw']; clear hw' w'))
            all_goals go_wp2_with fail
            all_goals go_roundw
            all_goals first
              | (simp [intOf]; omega)
              | skip
            all_goals
              refine ⟨k + 1, by omega, by go_num, ?_, by rw [unhide Htk, unhide Hdif]; rfl⟩
              have h5 : Below w2.heap.size w2 ((wr.alloc (.cells #[.string (bs t)] 107)).drew) := by
                have := hb.alloc hb.size (.cells #[.string (bs t)] 107)
                exact ⟨this.os, this.tape, this.output, this.size, this.block⟩
              exact h5.alloc (by have := h5.size; simpa using this) _
          · have Hdif := hide (show difAt kx ky d = true by rw [hdf]; simpa using hts)
            have st' : ((bs t).toList == (bs s).toList) = false := by rw [st]; simpa using hts
            have st2 : ((bs t).toList != (bs s).toList) = true := by rw [bne, st']; rfl
            have hby2 := fun W hW => bytes_any (bs rx) ux nx kx d s W hW hdl3 (unhide Hst).1
            unfold setV at hby2
            have Hby2 := hide hby2
            clear hdf st hts hby2
            go_wp2_with (at_lookup; refine wp_look_ok rfl _ _ 75 rfl 107 under40 (.agg #[.string ⟨#[]⟩]) (zero_blob _) uy ny (blobsF ky) rfl hyr d rfl hdl3 ?_; rw [hbF]; simp only [Option.map_some, Option.getD_some, Option.isSome_some, blobV])
            go_region_held3 (fun w' => w'.cell? ⟨w.heap.size, 0, none⟩ = some (.string (bs rx)) ∧ w'.cell? ⟨w.heap.size, 1, none⟩ = some (.map (some ux)) ∧ w'.cell? ⟨wr.heap.size, 0, none⟩ = some (.string (bs t)))
              ((first | exact ⟨by assumption, by assumption, by assumption⟩ | go_keep))
              ((go_at_call 68; refine (unhide Hby).mono ?_; rintro e w5 ⟨rfl, hw5⟩;
                have hx5 : MapIs w5 ux nx (blobsF kx) := by rw [hw5]; exact hA.drew.alloc _;
                have hb5 : Below w2.heap.size w2 w5 := by
                  have h0 := hb.alloc hb.size (.cells #[.string (bs t)] 107)
                  have h5 : Below w2.heap.size w2 ((wr.alloc (.cells #[.string (bs t)] 107)).drew) := ⟨h0.os, h0.tape, h0.output, h0.size, h0.block⟩
                  rw [hw5]
                  exact h5.alloc (by have := h5.size; simpa using this) _;
                have s0 : w5.cell? ⟨w.heap.size, 0, none⟩ = some (.string (bs rx)) := (hb5.cell (p := ⟨w.heap.size, 0, none⟩) hlx).trans (cell_of_block hsx);
                have s1 : w5.cell? ⟨w.heap.size, 1, none⟩ = some (.map (some ux)) := (hb5.cell (p := ⟨w.heap.size, 1, none⟩) hlx).trans (cell_of_block hsx);
                have s2 : w5.cell? ⟨wr.heap.size, 0, none⟩ = some (.string (bs t)) := by
                  rw [hw5]
                  exact (cell_of_block (j := 0) ((Below.heap_alloc _ _ _ (by simp)).trans (heap_alloc_new wr (.cells #[.string (bs t)] 107))));
                clear hw5))
            all_goals go_wp2_with fail
            all_goals
              have hby3 := unhide Hby2 w5.drew hx5.drew
              have Hby3 := hide hby3
              clear hby3
            all_goals go_region_held3 (fun w' => w'.cell? ⟨w.heap.size, 0, none⟩ = some (.string (bs rx)) ∧ w'.cell? ⟨w.heap.size, 1, none⟩ = some (.map (some ux)) ∧ w'.cell? ⟨wr.heap.size, 0, none⟩ = some (.string (bs t)))
              ((first | exact ⟨by assumption, by assumption, by assumption⟩ | go_keep))
              ((go_at_call 68; refine (unhide Hby3).mono ?_; rintro e w6 ⟨rfl, hw6⟩;
                have hb6 : Below w2.heap.size w2 w6 := by
                  rw [hw6]
                  have h5 : Below w2.heap.size w2 w5.drew := ⟨hb5.os, hb5.tape, hb5.output, hb5.size, hb5.block⟩
                  exact h5.alloc h5.size _;
                have z0 : w6.cell? ⟨w.heap.size, 0, none⟩ = some (.string (bs rx)) := (hb6.cell (p := ⟨w.heap.size, 0, none⟩) hlx).trans (cell_of_block hsx);
                have z1 : w6.cell? ⟨w.heap.size, 1, none⟩ = some (.map (some ux)) := (hb6.cell (p := ⟨w.heap.size, 1, none⟩) hlx).trans (cell_of_block hsx);
                have z2 : w6.cell? ⟨wr.heap.size, 0, none⟩ = some (.string (bs t)) := by
                  rw [hw6]
                  have hl5 : wr.heap.size < w5.heap.size := World.block_lt_of_cell? _ _ s2
                  exact (World.cell?_of_block (a := ⟨wr.heap.size, 0, none⟩) (Below.heap_alloc w5.drew _ _ hl5)).trans s2;
                clear hw6))
            all_goals go_wp2_with fail
            all_goals go_ret3
            all_goals
              refine ⟨?_, hbb.trans (hb6.mono hbb.size)⟩
              rw [unhide HR, unhide Hfk, unhide Hdif, if_pos rfl]
              simp only [pickC, (unhide Hst).1, (unhide Hst).2, Option.getD_some]
              rfl
      · obtain rfl : k = ds.length := by omega
        have Hf := hide (show ds.find? (difAt kx ky) = none by have := unhide Hn; rwa [List.take_length] at this)
        have hbw : Below w.heap.size w wr := hbb.trans (hb.mono hbb.size)
        go_wp2_with fail
        go_ret3
        exact ⟨by rw [unhide HR, unhide Hf]; rfl, hbw⟩
  · have hne : ((bs rx).toList == (bs ry).toList) = false := by rw [sr]; simpa using hr
    have hne2 : ((bs rx).toList != (bs ry).toList) = true := by rw [bne, hne]; rfl
    have hc1 : clash1 rx ry kx ky = ([], [], 11) := by unfold clash1; rw [if_pos hr]
    rw [hc1]
    clear hc1 hr sr
    unfold setV
    go_enter Tryz.func43, Tryz.ntmps43
    go_wp2_with fail
    go_ret3
    exact ⟨rfl, ((Below.refl _ _).alloc (Nat.le_refl _) _).alloc (by simp) _⟩
end Go.Proofs.YtjmacegibchplaaGreatDoor

/-
  The program's Clash answers as the document asks.
-/
namespace Go.Proofs.YtjmacegibchplaaGreatDoor
open Go.RowKit Go.Maps
set_option linter.unusedVariables false

theorem of_err {l : List En} {base : Nat} {e : Ending} {w' : World} (h : OfEnd l base e w') :
    (errOf l ≠ 0 ∧ e = .returned (.tuple #[.agg #[.string ⟨#[]⟩, .map none], .int .i64 (errOf l)])) ∨
    (errOf l = 0 ∧ ∃ um n, n ≤ 5000000000 ∧ e = .returned (.tuple #[.agg #[.string (bs (rootOf l)), .map (some um)], .int .i64 0]) ∧ MapIs w' um n (blobsF (keptAll l))) := by
  rcases h with ⟨hnt, rfl⟩ | ⟨ht, hes, rfl⟩ | ⟨ht, hes, hcl, rfl⟩ | ⟨ht, hes, hcl, um, n, hn, hum, rfl, hm⟩
  · have he : errOf l = 1 := by unfold errOf; rw [wrong_no l hnt]; rfl
    exact .inl ⟨by rw [he]; decide, by rw [he]⟩
  · have he : errOf l = 2 := by unfold errOf; rw [wrong_yes l ht, hes]; rfl
    exact .inl ⟨by rw [he]; decide, by rw [he]⟩
  · have hw : wrongP l = 0 := by rw [wrong_yes l ht, hes]; rfl
    have he : errOf l = 3 := by unfold errOf; rw [if_neg (by simpa using hw), if_pos (built_none l ht hcl)]
    exact .inl ⟨by rw [he]; decide, by rw [he]⟩
  · have hw : wrongP l = 0 := by rw [wrong_yes l ht, hes]; rfl
    have he : errOf l = 0 := by unfold errOf; rw [if_neg (by simpa using hw), if_neg (by rw [built_some l ht hcl]; simp)]
    have hr : rootOf l = P.digest (blobP l 6 []) := by unfold rootOf; rw [if_pos he]
    exact .inr ⟨he, um, n, hn, by rw [hr], hm⟩
set_option maxRecDepth 100000 in
set_option maxHeartbeats 2000000 in
theorem progClash : ProgClash GlobOk clOf := by
  refine ⟨fun x y _ _ => clOf_ok x y, ?_⟩
  intro x y a1 a2 c1 c2 w hg hx hy hi1 hi2 hf1 hf2
  obtain ⟨R, hR⟩ : ∃ R, clOf x y = R := ⟨_, rfl⟩
  have HR := hide hR
  rw [hR]
  clear hR
  go_enter Tryz.func14, Tryz.ntmps14
  go_wp2_with fail
  refine (of_any x a1 c1 w hx hi1 hf1 hg).mono ?_
  rintro e w1 ⟨hb1, h1⟩
  rcases of_err h1 with ⟨he, rfl⟩ | ⟨he, um, n, hn, rfl, hm⟩
  · have g : (errOf x != 0) = true := by simpa using he
    have Hr := hide (show R = ([], [], errOf x) by rw [← unhide HR]; unfold clOf; rw [if_pos he])
    clear he h1
    generalize errOf x = E at *
    go_wp2_with fail
    go_ret3
    exact ⟨by rw [unhide Hr]; rfl, hb1.alloc hb1.size _⟩
  · clear h1
    have hbA : Below w.heap.size w (w1.alloc (.cells #[.string (bs (rootOf x)), .map (some um)] 77)) := hb1.alloc hb1.size _
    have hof := of_any y a2 c2 _ hy (hi2.below hbA (Nat.le_refl _)) hf2 (hg.below hbA (Nat.le_refl _))
    have Hof := hide hof
    have hmA : MapIs (w1.alloc (.cells #[.string (bs (rootOf x)), .map (some um)] 77)) um n (blobsF (keptAll x)) := hm.alloc _
    have hcA : (w1.alloc (.cells #[.string (bs (rootOf x)), .map (some um)] 77)).heap[w1.heap.size]? = some (.cells #[.string (bs (rootOf x)), .map (some um)] 77 (0, 0)) := heap_alloc_new w1 _
    have HA := hide (And.intro hbA (And.intro hmA hcA))
    have hkl := kept_len x (err_zero x he).1
    have Hr := hide (show R = if errOf y ≠ 0 then ([], [], errOf y) else clash1 (rootOf x) (rootOf y) (keptAll x) (keptAll y) by rw [← unhide HR]; unfold clOf; rw [if_neg (by simpa using he)])
    generalize rootOf x = rx at *
    clear hof he hm hbA hmA hcA
    go_wp2_with fail
    refine (unhide Hof).mono ?_
    rintro e w2 ⟨hb2, h2⟩
    have hbw : Below w.heap.size w w2 := (unhide HA).1.trans (hb2.mono (unhide HA).1.size)
    have hs2 := (hb2.block w1.heap.size (by simp)).trans (unhide HA).2.2
    have hm2 : MapIs w2 um n (blobsF (keptAll x)) := (unhide HA).2.1.same (hb2.block um (unhide HA).2.1.lt)
    rcases of_err h2 with ⟨he2, rfl⟩ | ⟨he2, um2, n2, hn2, rfl, hm3⟩
    · have g : (errOf y != 0) = true := by simpa using he2
      have Hr2 := hide (show R = ([], [], errOf y) by rw [unhide Hr, if_pos he2])
      clear he2 h2 Hof hb2 HA hs2 hm2
      generalize errOf y = E at *
      go_wp2_with fail
      go_ret3
      exact ⟨by rw [unhide Hr2]; rfl, hbw.alloc hbw.size _⟩
    · have Hr2 := hide (show R = clash1 rx (rootOf y) (keptAll x) (keptAll y) by rw [unhide Hr, if_neg (by simpa using he2)])
      generalize rootOf y = ry at *
      have c0 := cell_of_block (j := 0) hs2
      have c1' := cell_of_block (j := 1) hs2
      simp only [List.getElem?_toArray, List.getElem?_cons_zero, List.getElem?_cons_succ] at c0 c1'
      have hl2 : w1.heap.size < w2.heap.size := (Array.getElem?_eq_some_iff.1 hs2).1
      have hcl := clash_any rx ry um um2 n n2 (keptAll x) (keptAll y) (w2.alloc (.cells #[.string (bs ry), .map (some um2)] 77)) (hm2.alloc _) (hm3.alloc _) hn (by omega)
      rw [← unhide Hr2] at hcl
      unfold setV at hcl
      have Hcl := hide hcl
      have HbA := hide (show Below w.heap.size w (w2.alloc (.cells #[.string (bs ry), .map (some um2)] 77)) from hbw.alloc hbw.size _)
      clear he2 h2 Hof hb2 HA hs2 hm2 hm3 hcl
      go_wp2_with fail
      refine (unhide Hcl).mono ?_
      rintro e w4 ⟨rfl, hb4⟩
      have hbw4 : Below w.heap.size w w4 := (unhide HbA).trans (hb4.mono (unhide HbA).size)
      clear Hcl hb4
      go_wp2_with fail
      go_ret3
      exact ⟨rfl, hbw4⟩
end Go.Proofs.YtjmacegibchplaaGreatDoor

/-
  Small functions of the statements without the document's answer: one, digits.
-/
namespace Go.Proofs.YtjmacegibchplaaGreatDoor
open Go.RowKit
set_option linter.unusedVariables false

set_option maxHeartbeats 1000000 in
theorem keepOne (s : List UInt8) (l : List (List UInt8)) (a : Option Addr) (c : Nat) (w : World) (hl : l.length ≤ maxLen) (h : TextsAt w a l) :
    Calls Tryz.prog 35 #[.string (bs s), .slice a l.length c] w fun e w' => e = .returned (.bool (l.any (· == s))) ∧ w' = w := by
  unfold maxLen at hl
  go_enter Tryz.func35, Tryz.ntmps35
  go_wp2_with fail
  go_loop [5] (fun i => ∃ k : Nat, k ≤ l.length ∧ i = .int .i64 k ∧ (l.take k).any (· == s) = false) (fun i => l.length - (intOf i).toNat)
  case atStart => exact ⟨0, by omega, rfl, rfl⟩
  case round =>
    obtain ⟨k, hk, rfl, hany⟩ := hrel
    have Hany := hide hany
    clear hany
    by_cases hlt : k < l.length
    · obtain ⟨b, o, rfl, hct⟩ : ∃ b o, a = some ⟨b, o, none⟩ ∧ ∀ i (h : i < l.length), w.cell? ⟨b, o + i, none⟩ = some (strVal l[i]) := by
        rcases h with h | h
        · subst h; simp at hlt
        · exact h
      have ck := hct k hlt
      unfold strVal at ck
      have Hs := hide (any_take_succ (· == s) l k hlt)
      have Ha := hide (any_at (· == s) l k hlt)
      clear hct h
      generalize l[k] = x at *
      have hE := str_eq2 x s
      generalize (x == s) = E at *
      have q1 : (k : Int) < (l.length : Int) := by omega
      cases E with
      | true =>
        have Hr := hide (unhide Ha rfl)
        clear Hs Ha
        go_wp2_with fail
        go_ret
        exact ⟨ret_bool (unhide Hr).symm, rfl⟩
      | false =>
        have Hr := hide (show (l.take (k + 1)).any (· == s) = false by rw [unhide Hs, unhide Hany]; rfl)
        clear Hs Ha
        go_wp2_with fail
        go_round
        case rel => exact ⟨k + 1, by omega, by go_num, unhide Hr⟩
        case measure => simp [intOf]; omega
    · obtain rfl : k = l.length := by omega
      have Hr := hide (show l.any (· == s) = false by have := unhide Hany; rwa [List.take_length] at this)
      go_wp2_with fail
      go_ret
      exact ⟨ret_bool (unhide Hr).symm, rfl⟩

def digM (a b : Value) : Nat := match a, b with
  | .int _ m, .string s => 2 * m.toNat + (if s.size = 0 then 1 else 0)
  | _, _ => 0
theorem dig_num : ∀ r : Fin 10, strOfNums [48 + (r.val : Int)] = bs [UInt8.ofNat (48 + r.val)] := by decide
theorem dig_small (n : Nat) (h : n < 10) : digP n = [UInt8.ofNat (48 + n % 10)] := by unfold digP; rw [if_pos h, Nat.mod_eq_of_lt h]
theorem dig_great (n : Nat) (h : ¬ n < 10) (h2 : n < 30) : digP n = UInt8.ofNat (48 + n / 10 % 10) :: [UInt8.ofNat (48 + n % 10)] := by unfold digP; rw [if_neg h, Nat.mod_eq_of_lt (show n / 10 < 10 by omega)]
theorem bs_add (a b : List UInt8) : bs a ++ bs b = bs (a ++ b) := by
  apply ByteArray.ext
  simp [bs]
def DigSt (n m : Nat) (s : List UInt8) : Prop := (s = [] ∧ m = n) ∨ (s ≠ [] ∧ m = 0 ∧ s = digP n) ∨ (s ≠ [] ∧ 10 ≤ n ∧ m = n / 10 ∧ s = [UInt8.ofNat (48 + n % 10)])
theorem dig_round (n m : Nat) (s : List UInt8) (hn : n < 30) (hm : m < 30) (h : DigSt n m s) (hend : ¬ (s ≠ [] ∧ m = 0)) :
    (∃ m1 s1, Value.int .i64 ((m : Int) / 10) = Value.int .i64 (m1 : Nat) ∧ Value.string (strOfNums [48 + (m : Int) % 10] ++ bs s) = Value.string (bs s1) ∧ m1 < 30 ∧ DigSt n m1 s1) ∧
    digM (Value.int .i64 ((m : Int) / 10)) (Value.string (strOfNums [48 + (m : Int) % 10] ++ bs s)) < digM (Value.int .i64 (m : Nat)) (Value.string (bs s)) := by
  have hd := dig_num ⟨m % 10, by omega⟩
  simp only at hd
  rw [show ((m % 10 : Nat) : Int) = (m : Int) % 10 by omega] at hd
  rw [hd, bs_add, show (m : Int) / 10 = ((m / 10 : Nat) : Int) by omega]
  refine ⟨⟨m / 10, [UInt8.ofNat (48 + m % 10)] ++ s, rfl, rfl, by omega, ?_⟩, ?_⟩
  · rcases h with ⟨rfl, rfl⟩ | ⟨h1, h2, _⟩ | ⟨h1, h2, rfl, rfl⟩
    · by_cases h10 : m < 10
      · exact .inr (.inl ⟨by simp, by omega, (dig_small m h10).symm⟩)
      · exact .inr (.inr ⟨by simp, by omega, rfl, rfl⟩)
    · exact absurd ⟨h1, h2⟩ hend
    · exact .inr (.inl ⟨by simp, by omega, (dig_great n (by omega) hn).symm⟩)
  · have e1 : (bs ([UInt8.ofNat (48 + m % 10)] ++ s)).size = s.length + 1 := by rw [bs_size]; rfl
    have e2 := bs_size s
    simp only [digM, e1, e2, Int.toNat_natCast]
    rw [if_neg (by omega)]
    by_cases hs : s = []
    · subst hs
      simp
      try omega
    · have : ¬ m = 0 := fun e => hend ⟨hs, e⟩
      have hl : ¬ s.length = 0 := fun e => hs (List.eq_nil_of_length_eq_zero e)
      rw [if_neg hl]
      omega
set_option maxHeartbeats 1000000 in
theorem keepDigits (n : Nat) (w : World) (hn : n < 30) :
    Calls Tryz.prog 58 #[.int .i64 n] w fun e w' => e = .returned (.string (bs (digP n))) ∧ Below w.heap.size w w' := by
  have hcv := conv_one
  go_enter Tryz.func58, Tryz.ntmps58
  go_wp2_with fail
  go_loopw [0, 3] (fun mv sv wr => Below w.heap.size w wr ∧ ∃ (m : Nat) (s : List UInt8), mv = .int .i64 m ∧ sv = .string (bs s) ∧ m < 30 ∧ DigSt n m s) (fun mv sv _ => digM mv sv)
  case atStart => exact ⟨Below.refl _ _, n, [], rfl, rfl, hn, .inl ⟨rfl, rfl⟩⟩
  case round =>
    obtain ⟨hbel, m, s, rfl, rfl, hm, hst⟩ := hrel
    have Hst := hide hst
    clear hst
    have hsz := bs_size s
    have hz1 : ((bs s).toList == ([] : List UInt8)) = (s == []) := by rw [ByteArray.toList_eq, bs_data]
    have hz2 : ((bs s).toList == (⟨#[]⟩ : ByteArray).toList) = (s == []) := by rw [ByteArray.toList_eq, ByteArray.toList_eq, bs_data]
    by_cases hend : s ≠ [] ∧ m = 0
    · obtain ⟨hs, rfl⟩ := hend
      have he : (s == []) = false := by simpa using hs
      rw [he] at hz1 hz2
      have Hs := hide (show s = digP n by
        rcases unhide Hst with h | h | h
        · exact absurd h.1 hs
        · exact h.2.2
        · omega)
      go_wp2_with fail
      go_ret
      exact ⟨by rw [unhide Hs]; rfl, hbel⟩
    · have Hr := hide (dig_round n m s hn hm (unhide Hst) hend)
      have hal : ∀ x, Below w.heap.size w (wr.alloc x) := fun x => hbel.alloc hbel.size x
      by_cases h0 : m = 0
      · subst h0
        obtain rfl : s = [] := by
          by_cases e : s = []
          · exact e
          · exact absurd ⟨e, rfl⟩ hend
        have e0 : (bs ([] : List UInt8)) = ⟨#[]⟩ := rfl
        obtain rfl : n = 0 := by
          rcases unhide Hst with h | h | h
          · exact h.2.symm
          · exact absurd rfl h.1
          · exact absurd rfl h.1
        clear hend hz1 hz2
        go_wp2_with fail
        exact ⟨⟨hal _, 0, [48], rfl, rfl, by omega, .inr (.inl ⟨by simp, rfl, rfl⟩)⟩, by decide⟩
      · have hp : (0 : Int) < (m : Int) := by omega
        have hsl : s.length ≤ 2 := by
          rcases unhide Hst with h | h | h
          · rw [h.1]; simp
          · have := (dig_name ⟨n, hn⟩).1
            rw [h.2.2]; exact this
          · rw [h.2.2.2]; simp
        have hq : (strOfNums [48 + (m : Int) % 10]).size = 1 := rfl
        clear hend hz1 hz2
        go_wp2_with fail
        exact ⟨⟨hal _, (unhide Hr).1⟩, (unhide Hr).2⟩
end Go.Proofs.YtjmacegibchplaaGreatDoor
