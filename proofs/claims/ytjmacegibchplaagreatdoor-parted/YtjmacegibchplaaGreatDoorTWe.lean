/-
  The program's Walk: its recursion, for any visitor: the walk.
-/
import Derived.Test.YtjmacegibchplaaGreatDoorTWd
namespace Go.Proofs.YtjmacegibchplaaGreatDoor
open Go.RowKit
set_option linter.unusedVariables false
def ThrEnd (l : List En) (k : Nat) (cap : Array Value) (B0 B1 bi bt bv mb n : Nat) (F : List UInt8 → Option Value) (I : (Nat → Prop) → List Nat → World → Prop) (f : Nat) (d : List UInt8) (done : List Nat) (w : World) (G : List UInt8 → List En) (Own : Nat → Prop) (w' : World) : Prop :=
  ∃ Own' G', I Own' (done ++ walkP l f d) w' ∧ Wlk l k cap B0 B1 bi bt bv mb n F w' G' ∧ (∀ y, ¬ Under d y → G' y = G y) ∧ ThrK B0 B1 Own Own' w w'
set_option maxRecDepth 100000 in
set_option maxHeartbeats 4000000 in
theorem through_any (l : List En) (ht : Tree l) (hlp : ∀ i, i < l.length → (pathAt l i).length ≤ 1100000) (k : Nat) (cap : Array Value) (B0 B1 bi bt bv mb n : Nat) (F : List UInt8 → Option Value) (I : (Nat → Prop) → List Nat → World → Prop) (V : Visitor l k cap I) :
    ∀ (f : Nat) (d : List UInt8) (done : List Nat) (w : World) (G : List UInt8 → List En) (Own : Nat → Prop), dep (pre d) ≤ 5 → 6 ≤ dep (pre d) + f → d.length ≤ 1100000 → done.length + wb f ≤ 4201025640 → (∀ j ∈ done, ¬ Under d (upAt l j)) →
      Wlk l k cap B0 B1 bi bt bv mb n F w G → I Own done w → (∀ b, B0 ≤ b → b < B1 → ¬ Own b) →
      Calls Tryz.prog 148 #[.string (bs d), ptr bi, ptr bt, ptr bv] w fun e w' => e = .returned (.tuple #[]) ∧ ThrEnd l k cap B0 B1 bi bt bv mb n F I f d done w G Own w' := by
  intro f
  induction f with
  | zero => intro d done w G Own h1 h2; omega
  | succ f ih =>
    intro d done w G Own hd5 hdf hdl hwb hbef hW hI hOw
    have hdm : d.length ≤ maxLen := by unfold maxLen; omega
    have hB1 := hW.size
    have hat := hW.grp.at d
    have hmap := hW.grp.map
    have hci := cell_of_block (j := 0) hW.ci
    have hlen : (G d).length ≤ 1000000 := by
      have h1 := (hW.perm d).length_eq
      have h2 := inDir_len l d
      have h3 := ht.len
      omega
    obtain ⟨v, hv⟩ : ∃ v, (F d).getD (.slice none 0 0) = v := ⟨_, rfl⟩
    have hvO := fun g (hg : v.ownBlock = some g) => hW.grp.ownAt d g (by rw [hv]; exact hg)
    have Hs := hide (fun w' ys hp ho hg => hW.sorted (w' := w') d ys hp ho hg)
    rw [hv] at hat Hs
    simp only [List.getElem?_toArray, List.getElem?_cons_zero] at hci
    have Hv := hide hv
    unfold ptr
    go_enter Tryz.func148, Tryz.ntmps148
    go_wp2_with (at_lookup; refine wp_look rfl _ _ 193 rfl 22 under82 (.slice none 0 0) (zero_ents _) mb n F rfl hmap d rfl hdm ?_; rw [hv])
    refine (sort_any (G d) v w B0 hat hlen).mono ?_
    rintro e w1 ⟨rfl, ys, hp, hs, ho1, hg1⟩
    have hW1 := unhide Hs w1 ys hp ho1 hg1
    have hys := sorted_kids l ht d ys (hp.trans (hW.perm d)) hs
    have hK1 : OwnK Own w w1 := ⟨hg1.os, hg1.tape, hg1.output, hg1.size, fun b hb => hg1.block b (V.lt Own done w hI b hb) (fun e => by
      have := hvO b e.symm
      exact hOw b this.1 this.2 hb)⟩
    have hI1 := V.stable Own done w w1 hI hK1
    have hT1 : ThrK B0 B1 Own Own w w1 := ⟨hg1.size, fun b hb _ hn => hg1.block b hb (fun e => hn (hvO b e.symm)), fun _ h => .inl h⟩
    have hci1 := cell_of_block (j := 0) hW1.ci
    simp only [List.getElem?_toArray, List.getElem?_cons_zero] at hci1
    have hmap1 := hW1.grp.map
    obtain ⟨a, cc, hvs⟩ : ∃ a c, v = .slice a ys.length c := by
      rcases ho1.2 with ⟨h1, h2⟩ | ⟨g, c, _, h1, _⟩
      · exact ⟨none, 0, by rw [h1, h2]⟩
      · exact ⟨_, c, h1⟩
    have hG1 : (fun y => if y = d then ys else G y) d = ys := if_pos rfl
    have hG1' : ∀ y, ¬ Under d y → (fun y => if y = d then ys else G y) y = G y := fun y hy => if_neg (fun e => hy (by rw [e]; exact under_self d))
    generalize (fun y => if y = d then ys else G y) = G1 at *
    have HG := hide (And.intro hG1 hG1')
    generalize hKd : kidsP l d = K at *
    have hyl : ys.length = K.length := by rw [hys]; simp
    have hKl : K.length ≤ 40 := by
      have := insP_len l (pre d)
      have h3 := ht.len
      have : K.length ≤ l.length := by rw [← hKd]; exact this
      omega
    have Hbk := hide (before_kid l ht f d done hbef)
    rw [hKd] at Hbk
    clear hG1 hG1' hbef hat hmap hci Hs hv ho1 hg1 hp hs hI hW hK1 hlen
    subst hvs
    have e56 : ∀ args w, (callFunc 148 args).run Tryz.prog w = .ok (.enter 148 args) w := enters_of Tryz.func148 (by kernel_rfl) rfl
    have eV := V.enters
    go_wp2_with (at_lookup; refine wp_look rfl _ _ 193 rfl 22 under82 (.slice none 0 0) (zero_ents _) mb n F rfl hmap1 d rfl hdm ?_; rw [unhide Hv])
    go_loopw [15] (fun i wr => ∃ j : Nat, j ≤ K.length ∧ i = .int .i64 j ∧ ∃ Own' G', I Own' (done ++ (K.take j).flatMap (blk l f)) wr ∧ Wlk l k cap B0 B1 bi bt bv mb n F wr G' ∧ G' d = ys ∧ (∀ y, ¬ Under d y → G' y = G y) ∧ ThrK B0 B1 Own Own' w wr) (fun i _ => K.length - (intOf i).toNat)
    case atStart =>
      exact ⟨0, Nat.zero_le _, rfl, Own, G1, by simpa using hI1, hW1, (unhide HG).1, (unhide HG).2, hT1⟩
    case round =>
      obtain ⟨j, hj, rfl, Ow, Gj, hIj, hWj, hGd, hGn, hTj⟩ := hrel
      clear hmap1 hci1 hI1 hT1 hW1 HG
      have hOj : ∀ b, B0 ≤ b → b < B1 → ¬ Ow b := fun b h1 h2 h3 => (hTj.own b h3).elim (hOw b h1 h2) (fun h4 => by omega)
      by_cases hlt : j < K.length
      · have hjy : j < ys.length := by omega
        have hjy' : (j : Int) < (ys.length : Int) := by omega
        have hatj := hWj.grp.at d
        rw [unhide Hv, hGd] at hatj
        obtain ⟨g, rfl⟩ : ∃ g, a = some ⟨g, 0, none⟩ := by
          rcases hatj.2 with ⟨h1, h2⟩ | ⟨g, c, _, h1, _⟩
          · omega
          · exact ⟨g, by simp at h1; exact h1.1⟩
        obtain ⟨c0, c1, c2⟩ := row_ent hatj j hjy
        have hK0 := unhide Hbk j hlt
        have htl := take_len l ht f K hKl j hlt
        have hmem : K[j] ∈ kidsP l d := by rw [hKd]; exact List.getElem_mem hlt
        have hdk := dep_kid l ht d _ hmem
        have hul := under_len l ht d _ hmem
        have hil := ((kids_iff l ht d _).1 hmem).1
        have hyj : ys[j] = l.getD K[j] en0 := by simp only [hys]; rw [List.getElem_map]
        have Htk := hide (show (K.take (j + 1)).flatMap (blk l f) = (K.take j).flatMap (blk l f) ++ blk l f K[j] by rw [List.take_succ_eq_append_getElem hlt, List.flatMap_append]; simp)
        have Huk := hide (fun y (hy : ¬ Under d y) (h : Under (pathAt l K[j]) y) => hy (under_kid l ht d y _ hmem h))
        have hpl := hlp K[j] hil
        generalize hi : K[j] = i at *
        rw [hyj] at c0 c1 c2
        have hvis := V.visit
        have Hen := hide (show entV (l.getD i en0) = entV (l.getD i en0) from rfl)
        have Hpa := hide (show pathAt l i = (l.getD i en0).path.data.toList from rfl)
        have Hki := hide (show kindAt l i = (l.getD i en0).kind from rfl)
        have Hv2 := hide (fun Own done w => hvis Own done i w hil)
        have hdl2 : (done ++ (K.take j).flatMap (blk l f)).length + wb f < 4201025640 := by rw [List.length_append]; omega
        have Hdl := hide hdl2
        clear hdl2 htl
        generalize hx : l.getD i en0 = x at *
        have HK0 := hide hK0
        clear hx hyj hvis hatj hK0
        obtain ⟨pa, kd, dt⟩ := x
        obtain ⟨p, rfl⟩ : ∃ p, pa = bs p := ⟨pa.data.toList, (bs_of pa).symm⟩
        simp only [bs_data] at Hpa Hki
        simp only at c0 c1 c2
        have hbelA : Below wr.heap.size wr (wr.alloc (.cells #[.string (bs p), .int .i64 kd, .string dt] 32)) := (Below.refl _ _).alloc (Nat.le_refl _) _
        have hWa := hWj.below hbelA
        have hIa := V.stable Ow _ _ _ hIj ⟨hbelA.os, hbelA.tape, hbelA.output, hbelA.size, fun b hb => hbelA.block b (V.lt Ow _ wr hIj b hb)⟩
        have hne : ¬ Ow wr.heap.size := fun h => by have := V.lt Ow _ wr hIj _ h; omega
        have hTa := hTj.trans (ThrK.below (B0 := B0) (B1 := B1) (Own := Ow) hbelA)
        have hWs := hWj.size
        have hnw : ¬ (B0 ≤ wr.heap.size ∧ wr.heap.size < B1) := fun h => by omega
        have hct := cell_of_block (j := 0) hWj.ct
        have hcv := cell_of_block (j := 0) hWj.cv
        have hct' := cell_of_block (j := 0) hWa.ct
        have hcv' := cell_of_block (j := 0) hWa.cv
        simp only [List.getElem?_toArray, List.getElem?_cons_zero] at hct hcv hct' hcv'
        unfold ptr at hct hct'
        have hbt : bt < wr.heap.size := by have := hWj.lt.2; omega
        have hbv : bv < wr.heap.size := by have := hWj.lv.2; omega
        have HW := hide (And.intro hWa (And.intro hIa hTa))
        have hcn : (wr.alloc (.cells #[.string (bs p), .int .i64 kd, .string dt] 32)).heap[wr.heap.size]? = some (.cells #[.string (bs p), .int .i64 kd, .string dt] 32 (0, 0)) := heap_alloc_new wr _
        have Hcn := hide hcn
        rw [unhide Hpa] at hdk hul hpl Huk HK0
        clear hcn hWa hIa hTa hIj hWj hTj hys
        by_cases hk0 : kd = 0
        · subst hk0
          obtain ⟨f', rfl⟩ : ∃ f', f = f' + 1 := ⟨f - 1, by omega⟩
          have Hbl := hide (show blk l (f' + 1) i = walkP l (f' + 1) p ++ [i] by unfold blk; rw [unhide Hki, if_pos rfl, unhide Hpa])
          have Hfil := hide (filter_before l ht f' p _ (unhide HK0))
          go_wp2_with fail
          refine (ih p _ _ Gj Ow (by omega) (by omega) hpl (Nat.le_of_lt (unhide Hdl)) (unhide HK0) (unhide HW).1 (unhide HW).2.1 hOj).mono ?_
          rintro e w2 ⟨rfl, h2⟩
          obtain ⟨O2, G2, hI2, hW2, hG2, hT2⟩ := h2
          have hcn2 := (hT2.block wr.heap.size (by simp) hne hnw).trans (unhide Hcn)
          have e0 := cell_of_block (j := 0) hcn2
          have e1 := cell_of_block (j := 1) hcn2
          have e2 := cell_of_block (j := 2) hcn2
          have ev := cell_of_block (j := 0) hW2.cv
          simp only [List.getElem?_toArray, List.getElem?_cons_zero, List.getElem?_cons_succ] at e0 e1 e2 ev
          have hwl := walk_len l ht (f' + 1) p
          have hv3 := unhide Hv2 O2 _ w2 (by rw [List.length_append]; have := unhide Hdl; omega) hI2 (fun _ => by rw [unhide Hpa]; exact unhide Hfil)
          unfold entV at hv3
          simp only at hv3
          have hO2 : ∀ b, B0 ≤ b → b < B1 → ¬ O2 b := fun b h1 h2 h3 => (hT2.own b h3).elim (hOj b h1 h2) (fun h4 => by have := (unhide HW).1.size; omega)
          have HH := hide (And.intro hW2 (And.intro hG2 ((unhide HW).2.2.trans hT2)))
          clear hcn2 hI2 hW2 hG2 hT2 c0 c1 c2 hct hcv hct' hcv' hne hnw
          go_wp2_with fail
          refine hv3.mono ?_
          rintro e w3 ⟨rfl, O3, hI3, hV3⟩
          clear hv3 e0 e1 e2 ev
          go_wp2_with fail
          go_roundw
          case rel =>
            obtain ⟨hW2, hG2, hT⟩ := unhide HH
            refine ⟨j + 1, by omega, by go_num, O3, G2, ?_, hW2.kept hV3.size (fun b h1 h2 => hV3.block b (by have := hW2.size; omega) (hO2 b h1 h2)), ?_, fun y hy => ?_, hT.trans hV3.thr⟩
            · rw [unhide Htk, unhide Hbl]
              simpa only [List.append_assoc] using hI3
            · rw [hG2 d (fun h => hul d h rfl), hGd]
            · rw [hG2 y (fun h => unhide Huk y hy h), hGn y hy]
          case measure => simp [intOf]; omega
        · have b0 : (kd == 0) = false := by simpa using hk0
          have Hbl := hide (show blk l f i = [i] by unfold blk; rw [unhide Hki, if_neg hk0]; rfl)
          have hv3 := unhide Hv2 Ow _ _ (by have := unhide Hdl; omega) (unhide HW).2.1 (fun h => absurd (h.symm.trans (unhide Hki)) (fun e => hk0 e.symm))
          unfold entV at hv3
          simp only at hv3
          have hO2 : ∀ b, B0 ≤ b → b < B1 → ¬ Ow b := hOj
          clear hk0
          go_wp2_with fail
          refine hv3.mono ?_
          rintro e w3 ⟨rfl, O3, hI3, hV3⟩
          clear hv3 c0 c1 c2 hct hcv hct' hcv' hne hnw
          go_wp2_with fail
          go_roundw
          case rel =>
            obtain ⟨hW2, hI2, hT⟩ := unhide HW
            refine ⟨j + 1, by omega, by go_num, O3, Gj, ?_, hW2.kept hV3.size (fun b h1 h2 => hV3.block b (by have := hW2.size; omega) (hO2 b h1 h2)), hGd, hGn, hT.trans hV3.thr⟩
            rw [unhide Htk, unhide Hbl]
            simpa only [List.append_assoc] using hI3
          case measure => simp [intOf]; omega
      · obtain rfl : j = K.length := by omega
        have hct : (K.take K.length).flatMap (blk l f) = walkP l (f + 1) d := by rw [List.take_length, ← hKd]; rfl
        rw [hct] at hIj
        have HI := hide hIj
        clear hct hIj
        have hq : ¬ ((K.length : Nat) : Int) < (ys.length : Int) := by omega
        go_wp2_with fail
        go_end0
        exact ⟨rfl, Ow, Gj, unhide HI, hWj, hGn, hTj⟩
end Go.Proofs.YtjmacegibchplaaGreatDoor
