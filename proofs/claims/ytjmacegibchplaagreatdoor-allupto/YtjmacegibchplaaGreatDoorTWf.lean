import Derived.Test.YtjmacegibchplaaGreatDoorTWd
namespace Go.Proofs.YtjmacegibchplaaGreatDoor
open Go.RowKit
set_option linter.unusedVariables false
def ThrEnd (l : List En) (k : Nat) (cap : Array Value) (B0 B1 bi bt bv mb n : Nat) (F : List UInt8 → Option Value) (I : (Nat → Prop) → List Nat → World → Prop) (f : Nat) (d : List UInt8) (done : List Nat) (w : World) (G : List UInt8 → List En) (Own : Nat → Prop) (w' : World) : Prop :=
 ∃ Own' G', I Own' (done ++ walkP l f d) w' ∧ Wlk l k cap B0 B1 bi bt bv mb n F w' G' ∧ (∀ y, ¬ Under d y → G' y = G y) ∧ ThrK B0 B1 Own Own' w w'
set_option maxRecDepth 100000 in
set_option maxHeartbeats 4000000 in
theorem through_any (l : List En) (ht : Tree l) (hlp : ∀ i, i < l.length → (pathAt l i).length ≤ 1100000) (k : Nat) (cap : Array Value) (B0 B1 bi bt bv mb n : Nat) (F : List UInt8 → Option Value) (I : (Nat → Prop) → List Nat → World → Prop) (V : Visitor l k cap I) :
  ∀ (f : Nat) (d : List UInt8) (done : List Nat) (w : World) (G : List UInt8 → List En) (Own : Nat → Prop), dep (pre d) ≤ 5 → 6 ≤ dep (pre d) + f → d.length ≤ 1100000 → done.length + wb f ≤ 4201025640 → (∀ j ∈ done, ¬ Under d (upAt l j)) →
   Wlk l k cap B0 B1 bi bt bv mb n F w G → I Own done w → (∀ b, B0 ≤ b → b < B1 → ¬ Own b) →
   Calls Tryz.prog 148 #[.string (bs d), ptr bi, ptr bt, ptr bv] w fun e w' => e = .returned (.tuple #[]) ∧ ThrEnd l k cap B0 B1 bi bt bv mb n F I f d done w G Own w' := by
 intro f
 induction f with
 | zero => intro d done w G Own h1 h2; omega
 | succ f ih =>
  intro d done w G Own hd5 hdf hdl hwb hbef hW hI hOw
  have hdm : d.length ≤ maxLen := by unfold maxLen; omega
  have hB1 := hW.size
  have hat := hW.grp.at d
  have hmap := hW.grp.map
  have hci := cell_of_block (j := 0) hW.ci
  have hlen : (G d).length ≤ 1000000 := by
   have h1 := (hW.perm d).length_eq
   have h2 := inDir_len l d
   have h3 := ht.len
   omega
  obtain ⟨v, hv⟩ : ∃ v, (F d).getD (.slice none 0 0) = v := ⟨_, rfl⟩
  have hvO := fun g (hg : v.ownBlock = some g) => hW.grp.ownAt d g (by rw [hv]; exact hg)
  have Hs := hide (fun w' ys hp ho hg => hW.sorted (w' := w') d ys hp ho hg)
  rw [hv] at hat Hs
  simp only [List.getElem?_toArray, List.getElem?_cons_zero] at hci
  have Hv := hide hv
  unfold ptr
  go_enter Tryz.func148, Tryz.ntmps148
  go_wp2_with (at_lookup; refine wp_look rfl _ _ 193 rfl 22 under82 (.slice none 0 0) (zero_ents _) mb n F rfl hmap d rfl hdm ?_; rw [hv])
  refine (sort_any (G d) v w B0 hat hlen).mono ?_
  rintro e w1 ⟨rfl, ys, hp, hs, ho1, hg1⟩
  have hW1 := unhide Hs w1 ys hp ho1 hg1
  have hys := sorted_kids l ht d ys (hp.trans (hW.perm d)) hs
  have hK1 : OwnK Own w w1 := ⟨hg1.os, hg1.tape, hg1.output, hg1.size, fun b hb => hg1.block b (V.lt Own done w hI b hb) (fun e => by
   have := hvO b e.symm
   exact hOw b this.1 this.2 hb)⟩
  have hI1 := V.stable Own done w w1 hI hK1
  have hT1 : ThrK B0 B1 Own Own w w1 := ⟨hg1.size, fun b hb _ hn => hg1.block b hb (fun e => hn (hvO b e.symm)), fun _ h => .inl h⟩
  have hci1 := cell_of_block (j := 0) hW1.ci
  simp only [List.getElem?_toArray, List.getElem?_cons_zero] at hci1
  have hmap1 := hW1.grp.map
  obtain ⟨a, cc, hvs⟩ : ∃ a c, v = .slice a ys.length c := by
   rcases ho1.2 with ⟨h1, h2⟩ | ⟨g, c, _, h1, _⟩
   ·exact ⟨none, 0, by rw [h1, h2]⟩
   ·exact ⟨_, c, h1⟩
  have hG1 : (fun y => if y = d then ys else G y) d = ys := if_pos rfl
  have hG1' : ∀ y, ¬ Under d y → (fun y => if y = d then ys else G y) y = G y := fun y hy => if_neg (fun e => hy (by rw [e]; exact under_self d))
  generalize (fun y => if y = d then ys else G y) = G1 at *
  have HG := hide (And.intro hG1 hG1')
  generalize hKd : kidsP l d = K at *
  have hyl : ys.length = K.length := by rw [hys]; simp
  have hKl : K.length ≤ 40 := by
   have := insP_len l (pre d)
   have h3 := ht.len
   have : K.length ≤ l.length := by rw [← hKd]; exact this
   omega
  have Hbk := hide (before_kid l ht f d done hbef)
  rw [hKd] at Hbk
  clear hG1 hG1' hbef hat hmap hci Hs hv ho1 hg1 hp hs hI hW hK1 hlen
  subst hvs
  have e56 : ∀ args w, (callFunc 148 args).run Tryz.prog w = .ok (.enter 148 args) w := enters_of Tryz.func148 (by kernel_rfl) rfl
  have eV := V.enters
  go_wp2_with (at_lookup; refine wp_look rfl _ _ 193 rfl 22 under82 (.slice none 0 0) (zero_ents _) mb n F rfl hmap1 d rfl hdm ?_; rw [unhide Hv])
  go_loopw [15] (fun i wr => ∃ j : Nat, j ≤ K.length ∧ i = .int .i64 j ∧ ∃ Own' G', I Own' (done ++ (K.take j).flatMap (blk l f)) wr ∧ Wlk l k cap B0 B1 bi bt bv mb n F wr G' ∧ G' d = ys ∧ (∀ y, ¬ Under d y → G' y = G y) ∧ ThrK B0 B1 Own Own' w wr) (fun i _ => K.length - (intOf i).toNat)
  case atStart =>
   exact ⟨0, Nat.zero_le _, rfl, Own, G1, by simpa using hI1, hW1, (unhide HG).1, (unhide HG).2, hT1⟩
  case round =>
   obtain ⟨j, hj, rfl, Ow, Gj, hIj, hWj, hGd, hGn, hTj⟩ := hrel
   clear hmap1 hci1 hI1 hT1 hW1 HG
   have hOj : ∀ b, B0 ≤ b → b < B1 → ¬ Ow b := fun b h1 h2 h3 => (hTj.own b h3).elim (hOw b h1 h2) (fun h4 => by omega)
   by_cases hlt : j < K.length
   ·have hjy : j < ys.length := by omega
    have hjy' : (j : Int) < (ys.length : Int) := by omega
    have hatj := hWj.grp.at d
    rw [unhide Hv, hGd] at hatj
    obtain ⟨g, rfl⟩ : ∃ g, a = some ⟨g, 0, none⟩ := by
     rcases hatj.2 with ⟨h1, h2⟩ | ⟨g, c, _, h1, _⟩
     ·omega
     ·exact ⟨g, by simp at h1; exact h1.1⟩
    obtain ⟨c0, c1, c2⟩ := row_ent hatj j hjy
    have hK0 := unhide Hbk j hlt
    have htl := take_len l ht f K hKl j hlt
    have hmem : K[j] ∈ kidsP l d := by rw [hKd]; exact List.getElem_mem hlt
    have hdk := dep_kid l ht d _ hmem
    have hul := under_len l ht d _ hmem
    have hil := ((kids_iff l ht d _).1 hmem).1
    have hyj : ys[j] = l.getD K[j] en0 := by simp only [hys]; rw [List.getElem_map]
    have Htk := hide (show (K.take (j + 1)).flatMap (blk l f) = (K.take j).flatMap (blk l f) ++ blk l f K[j] by rw [List.take_succ_eq_append_getElem hlt, List.flatMap_append]; simp)
    have Huk := hide (fun y (hy : ¬ Under d y) (h : Under (pathAt l K[j]) y) => hy (under_kid l ht d y _ hmem h))
    have hpl := hlp K[j] hil
    generalize hi : K[j] = i at *
    rw [hyj] at c0 c1 c2
    have hvis := V.visit
    have Hen := hide (show entV (l.getD i en0) = entV (l.getD i en0) from rfl)
    have Hpa := hide (show pathAt l i = (l.getD i en0).path.data.toList from rfl)
    have Hki := hide (show kindAt l i = (l.getD i en0).kind from rfl)
    have Hv2 := hide (fun Own done w => hvis Own done i w hil)
    have hdl2 : (done ++ (K.take j).flatMap (blk l f)).length + wb f < 4201025640 := by rw [List.length_append]; omega
    have Hdl := hide hdl2
    clear hdl2 htl
    generalize hx : l.getD i en0 = x at *
    have HK0 := hide hK0
    clear hx hyj hvis hatj hK0
    obtain ⟨pa, kd, dt⟩ := x
    obtain ⟨p, rfl⟩ : ∃ p, pa = bs p := ⟨pa.data.toList, (bs_of pa).symm⟩
    simp only [bs_data] at Hpa Hki
    simp only at c0 c1 c2
    have hbelA : Below wr.heap.size wr (wr.alloc (.cells #[.string (bs p), .int .i64 kd, .string dt] 32)) := (Below.refl _ _).alloc (Nat.le_refl _) _
    have hWa := hWj.below hbelA
    have hIa := V.stable Ow _ _ _ hIj ⟨hbelA.os, hbelA.tape, hbelA.output, hbelA.size, fun b hb => hbelA.block b (V.lt Ow _ wr hIj b hb)⟩
    have hne : ¬ Ow wr.heap.size := fun h => by have := V.lt Ow _ wr hIj _ h; omega
    have hTa := hTj.trans (ThrK.below (B0 := B0) (B1 := B1) (Own := Ow) hbelA)
    have hWs := hWj.size
    have hnw : ¬ (B0 ≤ wr.heap.size ∧ wr.heap.size < B1) := fun h => by omega
    have hct := cell_of_block (j := 0) hWj.ct
    have hcv := cell_of_block (j := 0) hWj.cv
    have hct' := cell_of_block (j := 0) hWa.ct
    have hcv' := cell_of_block (j := 0) hWa.cv
    simp only [List.getElem?_toArray, List.getElem?_cons_zero] at hct hcv hct' hcv'
    unfold ptr at hct hct'
    have hbt : bt < wr.heap.size := by have := hWj.lt.2; omega
    have hbv : bv < wr.heap.size := by have := hWj.lv.2; omega
    have HW := hide (And.intro hWa (And.intro hIa hTa))
    have hcn : (wr.alloc (.cells #[.string (bs p), .int .i64 kd, .string dt] 32)).heap[wr.heap.size]? = some (.cells #[.string (bs p), .int .i64 kd, .string dt] 32 (0, 0)) := heap_alloc_new wr _
    have Hcn := hide hcn
    rw [unhide Hpa] at hdk hul hpl Huk HK0
    clear hcn hWa hIa hTa hIj hWj hTj hys
    by_cases hk0 : kd = 0
    ·subst hk0
     obtain ⟨f', rfl⟩ : ∃ f', f = f' + 1 := ⟨f - 1, by omega⟩
     have Hbl := hide (show blk l (f' + 1) i = walkP l (f' + 1) p ++ [i] by unfold blk; rw [unhide Hki, if_pos rfl, unhide Hpa])
     have Hfil := hide (filter_before l ht f' p _ (unhide HK0))
     go_wp2_with fail
     refine (ih p _ _ Gj Ow (by omega) (by omega) hpl (Nat.le_of_lt (unhide Hdl)) (unhide HK0) (unhide HW).1 (unhide HW).2.1 hOj).mono ?_
     rintro e w2 ⟨rfl, h2⟩
     obtain ⟨O2, G2, hI2, hW2, hG2, hT2⟩ := h2
     have hcn2 := (hT2.block wr.heap.size (by simp) hne hnw).trans (unhide Hcn)
     have e0 := cell_of_block (j := 0) hcn2
     have e1 := cell_of_block (j := 1) hcn2
     have e2 := cell_of_block (j := 2) hcn2
     have ev := cell_of_block (j := 0) hW2.cv
     simp only [List.getElem?_toArray, List.getElem?_cons_zero, List.getElem?_cons_succ] at e0 e1 e2 ev
     have hwl := walk_len l ht (f' + 1) p
     have hv3 := unhide Hv2 O2 _ w2 (by rw [List.length_append]; have := unhide Hdl; omega) hI2 (fun _ => by rw [unhide Hpa]; exact unhide Hfil)
     unfold entV at hv3
     simp only at hv3
     have hO2 : ∀ b, B0 ≤ b → b < B1 → ¬ O2 b := fun b h1 h2 h3 => (hT2.own b h3).elim (hOj b h1 h2) (fun h4 => by have := (unhide HW).1.size; omega)
     have HH := hide (And.intro hW2 (And.intro hG2 ((unhide HW).2.2.trans hT2)))
     clear hcn2 hI2 hW2 hG2 hT2 c0 c1 c2 hct hcv hct' hcv' hne hnw
     go_wp2_with fail
     refine hv3.mono ?_
     rintro e w3 ⟨rfl, O3, hI3, hV3⟩
     clear hv3 e0 e1 e2 ev
     go_wp2_with fail
     go_roundw
     case rel =>
      obtain ⟨hW2, hG2, hT⟩ := unhide HH
      refine ⟨j + 1, by omega, by go_num, O3, G2, ?_, hW2.kept hV3.size (fun b h1 h2 => hV3.block b (by have := hW2.size; omega) (hO2 b h1 h2)), ?_, fun y hy => ?_, hT.trans hV3.thr⟩
      ·rw [unhide Htk, unhide Hbl]
       simpa only [List.append_assoc] using hI3
      ·rw [hG2 d (fun h => hul d h rfl), hGd]
      ·rw [hG2 y (fun h => unhide Huk y hy h), hGn y hy]
     case measure => simp [intOf]; omega
    ·have b0 : (kd == 0) = false := by simpa using hk0
     have Hbl := hide (show blk l f i = [i] by unfold blk; rw [unhide Hki, if_neg hk0]; rfl)
     have hv3 := unhide Hv2 Ow _ _ (by have := unhide Hdl; omega) (unhide HW).2.1 (fun h => absurd (h.symm.trans (unhide Hki)) (fun e => hk0 e.symm))
     unfold entV at hv3
     simp only at hv3
     have hO2 : ∀ b, B0 ≤ b → b < B1 → ¬ Ow b := hOj
     clear hk0
     go_wp2_with fail
     refine hv3.mono ?_
     rintro e w3 ⟨rfl, O3, hI3, hV3⟩
     clear hv3 c0 c1 c2 hct hcv hct' hcv' hne hnw
     go_wp2_with fail
     go_roundw
     case rel =>
      obtain ⟨hW2, hI2, hT⟩ := unhide HW
      refine ⟨j + 1, by omega, by go_num, O3, Gj, ?_, hW2.kept hV3.size (fun b h1 h2 => hV3.block b (by have := hW2.size; omega) (hO2 b h1 h2)), hGd, hGn, hT.trans hV3.thr⟩
      rw [unhide Htk, unhide Hbl]
      simpa only [List.append_assoc] using hI3
     case measure => simp [intOf]; omega
   ·obtain rfl : j = K.length := by omega
    have hct : (K.take K.length).flatMap (blk l f) = walkP l (f + 1) d := by rw [List.take_length, ← hKd]; rfl
    rw [hct] at hIj
    have HI := hide hIj
    clear hct hIj
    have hq : ¬ ((K.length : Nat) : Int) < (ys.length : Int) := by omega
    go_wp2_with fail
    go_end0
    exact ⟨rfl, Ow, Gj, unhide HI, hWj, hGn, hTj⟩
theorem enCells_one1 (y : En) : ∀ u ∈ enCells y, u.oneCell' = true := fun u hu => enCells_one [y] u (by simpa [rowCells] using hu)
theorem inDir_take (l : List En) (k : Nat) (h : k < l.length) (d : List UInt8) (hd : upPath l[k].path.data.toList = d) : updG (inDir (l.take k)) d l[k] = inDir (l.take (k + 1)) := by
 rw [List.take_succ_eq_append_getElem h, inDir_snoc, hd]
 rfl
theorem grown_ad (w : World) (o : Obj) (row : Option Nat) : w.grownBy (w.alloc o).drew row := by
 have h := World.grownBy_alloc w o row
 exact ⟨h.os, h.tape, h.output, h.size, h.block⟩
theorem cell_grown {w w' : World} {row : Option Nat} {b j : Nat} {u : Value} (hg : w.grownBy w' row) (h : w.cell? ⟨b, j, none⟩ = some u) (hne : some b ≠ row) : w'.cell? ⟨b, j, none⟩ = some u := by
 have hl : b < w.heap.size := World.block_lt_of_cell? _ _ h
 exact (World.cell?_of_block (a := ⟨b, j, none⟩) (hg.block b hl hne)).trans h
set_option maxRecDepth 100000 in
set_option maxHeartbeats 4000000 in
theorem walk_any (l : List En) (ht : Tree l) (hf : TFit l) (a : Option Addr) (c : Nat) (k : Nat) (cap : Array Value) (I : (Nat → Prop) → List Nat → World → Prop) (V : Visitor l k cap I) (w : World) (hi : LiesE w a l) (Own : Nat → Prop) (hI : I Own [] w) :
  Calls Tryz.prog 100 #[.slice a l.length c, .func (.func k) #[] cap] w fun e w' => e = .returned (.tuple #[]) ∧ ∃ Own', I Own' (walkP l 6 []) w' ∧ VisK Own Own' w w' := by
 have hmm := @run_makeMap Tryz.prog
 have hl40 := ht.len
 obtain ⟨i0, hi0, hz0, hz1, hz2⟩ := info_parts info_ent
 have hlt0 := V.lt Own [] w hI
 go_enter Tryz.func100, Tryz.ntmps100
 go_wp2_with fail
 clear hmm
 go_loopw [13] (fun i wr => ∃ j : Nat, j ≤ l.length ∧ i = .int .i64 j ∧ Below w.heap.size w wr ∧ wr.heap[w.heap.size]? = some (.cells #[.func (.func k) #[] cap] 149 (0, 0)) ∧ wr.heap[w.heap.size + 2]? = some (.cells #[.map (some (w.heap.size + 1))] 193 (0, 0)) ∧ ∃ F, Grp 32 3 enCells wr w.heap.size (w.heap.size + 1) j (fun b => w.heap.size ≤ b) F (inDir (l.take j))) (fun i _ => l.length - (intOf i).toNat)
 case atStart =>
  refine ⟨0, Nat.zero_le _, rfl, (((Below.refl _ _).alloc (Nat.le_refl _) _).alloc (by simp) _).alloc (by simp; omega) _, ?_, ?_, fun _ => none, ?_⟩
  ·rw [Below.heap_alloc _ _ _ (by simp; omega), Below.heap_alloc _ _ _ (by simp)]; exact heap_alloc_new w _
  ·have h2 := heap_alloc_new ((w.alloc (.cells #[.func (.func k) #[] cap] 149)).alloc (.map #[] 0)) (.cells #[.map (some (w.heap.size + 1))] 193)
   rw [show ((w.alloc (.cells #[.func (.func k) #[] cap] 149)).alloc (.map #[] 0)).heap.size = w.heap.size + 2 by simp] at h2
   exact h2
  ·have h0 := Grp.made (α := En) 32 3 enCells (w.alloc (.cells #[.func (.func k) #[] cap] 149)) w.heap.size (fun b => w.heap.size ≤ b) (by simp)
   rw [show (w.alloc (.cells #[.func (.func k) #[] cap] 149)).heap.size = w.heap.size + 1 by simp] at h0
   exact h0.kept (fun b _ hbl => Below.heap_alloc _ _ _ hbl)
 case round =>
  obtain ⟨j, hj, rfl, hb, hcv, hci, F, hgrp⟩ := hrel
  by_cases hlt : j < l.length
  ·obtain ⟨b, o, rfl, i1⟩ : ∃ b o, a = some ⟨b, o, none⟩ ∧ EntsAt wr b o l := by
    rcases hi.below hb (Nat.le_refl _) with h | h
    ·subst h; simp at hlt
    ·exact h
   obtain ⟨c0, c1, c2⟩ := i1 j hlt
   have hfk := hf j hlt
   have hup := inDir_take l j hlt
   obtain ⟨x, hx⟩ : ∃ x, l[j] = x := ⟨_, rfl⟩
   rw [hx] at c0 c1 c2 hfk hup
   clear hx i1
   obtain ⟨pa, kd, dt⟩ := x
   obtain ⟨p, rfl⟩ : ∃ p, pa = bs p := ⟨pa.data.toList, (bs_of pa).symm⟩
   have hpl : p.length ≤ 1100000 := by have := hfk.1; simpa [bs_size] using this
   simp only [bs_data] at c0 c1 c2 hup
   have hsp := fun w' => tsplit p w' hpl
   have hul : (upPath p).length ≤ maxLen := by
    unfold upPath maxLen; rw [List.length_take]; omega
   have Hup := hide (hup (upPath p) rfl)
   have hlt' : (j : Int) < (l.length : Int) := by omega
   generalize upPath p = u at *
   generalize nameOf p = nn at *
   have hbelA : Below wr.heap.size wr (wr.alloc (.cells #[.string (bs p), .int .i64 kd, .string dt] 32)) := (Below.refl _ _).alloc (Nat.le_refl _) _
   have hcn : (wr.alloc (.cells #[.string (bs p), .int .i64 kd, .string dt] 32)).heap[wr.heap.size]? = some (.cells #[.string (bs p), .int .i64 kd, .string dt] 32 (0, 0)) := heap_alloc_new wr _
   have Hb := hide (And.intro hbelA hcn)
   clear hup hfk hbelA hcn
   go_wp2_with fail
   refine (hsp _).mono ?_
   rintro e w2 ⟨rfl, n2, hw2⟩
   have hb2 : Below wr.heap.size wr w2 := by rw [hw2]; exact below_drewN (unhide Hb).1 _
   have hcn2 : w2.heap[wr.heap.size]? = some (.cells #[.string (bs p), .int .i64 kd, .string dt] 32 (0, 0)) := by rw [hw2]; exact (unhide Hb).2
   clear hsp c0 c1 c2 hw2
   have hlc : w.heap.size + 2 < wr.heap.size := (Array.getElem?_eq_some_iff.1 hci).1
   have hci2 : w2.heap[w.heap.size + 2]? = some (.cells #[.map (some (w.heap.size + 1))] 193 (0, 0)) := (hb2.block _ hlc).trans hci
   have hcv2 : w2.heap[w.heap.size]? = some (.cells #[.func (.func k) #[] cap] 149 (0, 0)) := (hb2.block _ (by omega)).trans hcv
   have hgrp2 := hgrp.kept (w' := w2) (fun b _ hbl => hb2.block b hbl)
   have hat0 := hgrp.at u
   have hat := hgrp2.at u
   obtain ⟨v, hv⟩ : ∃ v, (F u).getD (.slice none 0 0) = v := ⟨_, rfl⟩
   have hlk : ∀ W : World, W.heap[w.heap.size + 1]? = w2.heap[w.heap.size + 1]? → (Instr.lookup 193 (.map (some (w.heap.size + 1))) (.string (bs u)) false).run Tryz.prog W = .ok v W := fun W hW => by
    have := (hgrp2.map.same hW).look 193 22 under82 (.slice none 0 0) (zero_ents _) u hul
    rw [hv] at this; exact this
   have hml : w.heap.size + 1 < w2.heap.size := hgrp2.map.lt
   have hlkA := hlk w2.drew rfl
   have hlkB := hlk ((w2.alloc (.cells #[.string (bs p), .int .i64 kd, .string dt] 32)).drew) (Below.heap_alloc w2 _ _ hml)
   have hput := fun (w4 : World) (v' : Value) hg ho hl => hgrp2.put (w1 := w4) 193 22 under82 (by unfold maxLen; omega) u hul ⟨bs p, kd, dt⟩ v' hg ho hl (fun b hbl => by show w.heap.size ≤ b; have := hb2.size; have := hb.size; omega)
   rw [hv] at hat hat0 hput
   have hgl : ∀ g, v.ownBlock = some g → g < wr.heap.size := fun g hg => own_lt hat0 hg
   have hlen : (inDir (l.take j) u).length ≤ 40 := by
    have := inDir_len (l.take j) u
    rw [List.length_take] at this
    omega
   have hownA : ((w2.alloc (.cells #[.string (bs p), .int .i64 kd, .string dt] 32)).drew).ownsRow w.heap.size 32 3 v (inDir (l.take j) u).length (rowCells enCells (inDir (l.take j) u)) := World.ownsRow.drew (World.ownsRow.alloc hat _)
   have hnew : ∀ q y, (enCells ⟨bs p, kd, dt⟩)[q]? = some y → ((w2.alloc (.cells #[.string (bs p), .int .i64 kd, .string dt] 32)).drew).cell? ((⟨w2.heap.size, 0, none⟩ : Addr).add q) = some y := by
    intro q y hq
    rw [add_off0]
    exact (cell_of_block (heap_alloc_new w2 _)).trans (by simpa [enCells] using hq)
   have e0 := cell_of_block (j := 0) hcn2
   have e1 := cell_of_block (j := 1) hcn2
   have e2 := cell_of_block (j := 2) hcn2
   have ci2 := cell_of_block (j := 0) hci2
   simp only [List.getElem?_toArray, List.getElem?_cons_zero, List.getElem?_cons_succ] at e0 e1 e2 ci2
   have hri := row_not_cell hat hci2 (by decide)
   have hrv := row_not_cell hat hcv2 (by decide)
   have hre : some wr.heap.size ≠ v.ownBlock := fun e => by have := hgl _ e.symm; omega
   have H := hide (And.intro hlk (And.intro hput (And.intro hownA (And.intro hnew (And.intro hgl (And.intro hci2 (And.intro hcv2 hcn2)))))))
   have hb0 : w.heap.size ≤ (w2.alloc (.cells #[.string (bs p), .int .i64 kd, .string dt] 32)).drew.heap.size := by have := hb.size; have := hb2.size; simp; omega
   have k3i := cell_of_block (j := 0) ((Below.heap_alloc w2 (.cells #[.string (bs p), .int .i64 kd, .string dt] 32) _ (by have := hb2.size; omega)).trans hci2)
   have k30 := cell_of_block (j := 0) ((Below.heap_alloc w2 (.cells #[.string (bs p), .int .i64 kd, .string dt] 32) _ (Array.getElem?_eq_some_iff.1 hcn2).1).trans hcn2)
   have k31 := cell_of_block (j := 1) ((Below.heap_alloc w2 (.cells #[.string (bs p), .int .i64 kd, .string dt] 32) _ (Array.getElem?_eq_some_iff.1 hcn2).1).trans hcn2)
   have k32 := cell_of_block (j := 2) ((Below.heap_alloc w2 (.cells #[.string (bs p), .int .i64 kd, .string dt] 32) _ (Array.getElem?_eq_some_iff.1 hcn2).1).trans hcn2)
   simp only [List.getElem?_toArray, List.getElem?_cons_zero, List.getElem?_cons_succ] at k3i k30 k31 k32
   have HK := hide (And.intro k3i (And.intro k30 (And.intro k31 k32)))
   clear hlk hput hgl hat hat0 k3i k30 k31 k32
   go_wp2_with fail
   go_region_held3 (fun w' => w'.cell? ⟨w.heap.size + 2, 0, none⟩ = some (.map (some (w.heap.size + 1))) ∧ w'.cell? ⟨wr.heap.size, 0, none⟩ = some (.string (bs p)) ∧ w'.cell? ⟨wr.heap.size, 1, none⟩ = some (.int .i64 kd) ∧ w'.cell? ⟨wr.heap.size, 2, none⟩ = some (.string dt))
    ((first | exact ⟨by assumption, by assumption, by assumption, by assumption⟩ | go_keep))
    ((refine step_app (enc := enCells) (bytes := 40) rfl (.tmp 27) (.tmp 29) 22 rfl i0 _ under22 hi0 hz0 hz1 hz2 rfl (by decide) enCells_len enCells_one1 w.heap.size v (inDir (l.take j) u) rfl hownA ⟨w2.heap.size, 0, none⟩ ⟨bs p, kd, dt⟩ rfl hnew (by unfold maxLen; omega) (by omega) hb0 ?_; intro v' w4 ho4 hg4 hl4; have s4i := cell_grown hg4 (unhide HK).1 hri; have s40 := cell_grown hg4 (unhide HK).2.1 hre; have s41 := cell_grown hg4 (unhide HK).2.2.1 hre; have s42 := cell_grown hg4 (unhide HK).2.2.2 hre; obtain ⟨w5, hrun5, hgrp5, hg5⟩ := (unhide H).2.1 w4 v' ((grown_ad _ _ _).trans hg4) ho4 (hl4.imp id (fun h => ⟨_, h, by simp⟩)); have s5i := cell_grown hg5 s4i (by simp); have s50 := cell_grown hg5 s40 (by simp; omega); have s51 := cell_grown hg5 s41 (by simp; omega); have s52 := cell_grown hg5 s42 (by simp; omega)))
   all_goals go_wp2_with fail
   all_goals go_roundw
   all_goals first
    | (simp [intOf]; omega)
    | skip
   all_goals
    obtain ⟨_, _, _, _, hgl, hci2, hcv2, hcn2⟩ := unhide H
    have hgA : w2.grownBy w4 v.ownBlock := (grown_ad w2 (.cells #[.string (bs p), .int .i64 kd, .string dt] 32) v.ownBlock).trans hg4
    have hw2l := hb2.size
    have hbk : ∀ b, b < w2.heap.size → some b ≠ v.ownBlock → some b ≠ some (w.heap.size + 1) → w5.heap[b]? = w2.heap[b]? := fun b h1 h2 h3 => (hg5.block b (Nat.lt_of_lt_of_le h1 hgA.size) h3).trans (hgA.block b h1 h2)
    have hb5 : Below w.heap.size w w5 := by
     have hbw : Below w.heap.size w w2 := hb.trans (hb2.mono hb.size)
     refine ⟨(hg5.os.trans hgA.os).trans hbw.os, (hg5.tape.trans hgA.tape).trans hbw.tape, (hg5.output.trans hgA.output).trans hbw.output, Nat.le_trans hbw.size (Nat.le_trans hgA.size hg5.size), fun b hbl => ?_⟩
     refine (hbk b (Nat.lt_of_lt_of_le hbl hbw.size) (fun e => ?_) (by simp; omega)).trans (hbw.block b hbl)
     have := World.ownsRow.lt hownA b e.symm
     omega
    refine ⟨j + 1, by omega, by go_num, hb5, (hbk _ (by omega) hrv (by simp)).trans hcv2, (hbk _ (by omega) hri (by simp)).trans hci2, updF F u v', ?_⟩
    rw [← unhide Hup]
    exact hgrp5
  ·obtain rfl : j = l.length := by omega
   rw [List.take_length] at hgrp
   have hmf : ∀ (fn : Fn) (first cap : Array Value) (w : World), (Instr.makeFunc fn first cap).run Tryz.prog w = .ok (.func fn first cap) w := fun _ _ _ _ => rfl
   have hsf : ∀ (a : Addr) (fn : Fn) (x y : Array Value) (m : Mode) (w : World), (store a (.func fn x y) m).run Tryz.prog w = stored Tryz.prog w a (.func fn x y) m := fun a fn x y m w => run_store Tryz.prog w a _ m rfl
   have e56 : ∀ args w, (callFunc 148 args).run Tryz.prog w = .ok (.enter 148 args) w := enters_of Tryz.func148 (by kernel_rfl) rfl
   have hlc : w.heap.size + 2 < wr.heap.size := (Array.getElem?_eq_some_iff.1 hci).1
   have hwalk : Wlk l k cap w.heap.size (wr.heap.size + 1) (w.heap.size + 2) wr.heap.size w.heap.size (w.heap.size + 1) l.length F (wr.alloc (.cells #[.func (.func 148) #[] #[ptr (w.heap.size + 2), ptr wr.heap.size, ptr w.heap.size]] 142)) (inDir l) :=
    ⟨(Below.heap_alloc wr _ _ hlc).trans hci, heap_alloc_new wr _, (Below.heap_alloc wr _ _ (by omega)).trans hcv, ⟨by omega, by omega⟩, ⟨by omega, by omega⟩, ⟨by omega, by omega⟩, by simp,
     (hgrp.own (Own' := fun b => w.heap.size ≤ b ∧ b < wr.heap.size + 1) (fun b h1 h2 => ⟨h1, by omega⟩)).kept (fun b _ hbl => Below.heap_alloc wr _ _ hbl), fun d => List.Perm.refl _⟩
   have hba : Below w.heap.size w (wr.alloc (.cells #[.func (.func 148) #[] #[ptr (w.heap.size + 2), ptr wr.heap.size, ptr w.heap.size]] 142)) := hb.alloc hb.size _
   have hIa := V.stable Own [] _ _ hI ⟨hba.os, hba.tape, hba.output, hba.size, fun b h => hba.block b (hlt0 b h)⟩
   have hthr := through_any l ht (fun i h => by unfold pathAt; rw [en_getD l i h]; have := (hf i h).1; simpa using this) k cap w.heap.size (wr.heap.size + 1) (w.heap.size + 2) wr.heap.size w.heap.size (w.heap.size + 1) l.length F I V 6 [] [] _ (inDir l) Own (by decide) (by decide) (by simp) (by decide) (by simp) hwalk hIa (fun b h1 _ h3 => by have := hlt0 b h3; omega)
   have hbs : bs [] = ⟨#[]⟩ := rfl
   rw [hbs] at hthr
   have Hba := hide hba
   clear hwalk hIa hba hgrp
   unfold ptr at hthr
   go_wp2_with fail
   refine hthr.mono ?_
   rintro e w5 ⟨rfl, h5⟩
   clear hthr
   have H5 := hide h5
   clear h5
   go_wp2_with fail
   go_end0
   obtain ⟨Own', G', hI5, _, _, hT5⟩ := unhide H5
   refine ⟨rfl, Own', by simpa using hI5, ⟨Nat.le_trans (unhide Hba).size hT5.size, fun b h1 h2 => (hT5.block b (Nat.lt_of_lt_of_le h1 (unhide Hba).size) h2 (fun h => by omega)).trans ((unhide Hba).block b h1), fun b h => (hT5.own b h).imp id (fun h => Nat.le_trans (unhide Hba).size h)⟩⟩
end Go.Proofs.YtjmacegibchplaaGreatDoor