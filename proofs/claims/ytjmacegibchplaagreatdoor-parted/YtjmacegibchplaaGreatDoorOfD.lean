/-
  The program's gather and Of: the blobs of a tree, under their digests.
-/
import Derived.Test.YtjmacegibchplaaGreatDoorOfC
import Derived.Test.YtjmacegibchplaaGreatDoorTurnP
import Derived.Laws.ResultCell
namespace Go.Proofs.YtjmacegibchplaaGreatDoor
open Go.RowKit
set_option linter.unusedVariables false
theorem visitG (l : List En) (ht : Tree l) (hf : TFit l) (base : Nat) (wB : World) (bit bk im bu bc um : Nat) (hne : um ≠ im) : Visitor l 103 #[ptr bit, ptr bk] (IG l base wB bit bk im bu bc um) where
  enters := enters_of Tryz.func103 (by kernel_rfl) rfl
  lt := fun Own done w h => h.lt
  stable := fun Own done w w' h hk => h.stable hk
  visit := fun Own done i w hi hlen hI hfil => gath1 l ht hf base wB bit bk im bu bc um hne Own done i w hi hlen hI hfil
def keptAll (l : List En) : List (List UInt8) := blobP l 6 [] :: keptR l (walkP l 6 [])
theorem wb6 : wb 6 = 4201025640 := rfl
set_option maxRecDepth 100000 in
set_option maxHeartbeats 2000000 in
theorem gather_any (l : List En) (ht : Tree l) (hf : TFit l) (a : Option Addr) (c : Nat) (w : World) (hi : LiesE w a l) (base : Nat) (wB : World) (hb : Below base wB w) (hbs : base ≤ w.heap.size) (bu bc um : Nat) (hk : KeepIs w bu bc um 0 []) (hbc : base ≤ bc) (hum : base ≤ um) :
    Calls Tryz.prog 64 #[.slice a l.length c, .func (.func 65) #[] #[ptr bu, ptr bc]] w fun e w' => e = .returned (.string (bs (P.digest (blobP l 6 [])))) ∧ (∃ n, n ≤ 5000000000 ∧ KeepIs w' bu bc um n (keptAll l)) ∧ Below base wB w' := by
  have hmm := @run_makeMap Tryz.prog
  have hmf : ∀ (fn : Fn) (first cap : Array Value) (w : World), (Instr.makeFunc fn first cap).run Tryz.prog w = .ok (.func fn first cap) w := fun _ _ _ _ => rfl
  have hlu := hk.lt
  have humlt : um < w.heap.size := hlu um (.inr (.inr rfl))
  have hb3 : Below w.heap.size w (((w.alloc (.cells #[.func (.func 65) #[] #[ptr bu, ptr bc]] 38)).alloc (.map #[] 0)).alloc (.cells #[.map (some (w.heap.size + 1))] 150)) :=
    (((Below.refl _ _).alloc (Nat.le_refl _) _).alloc (by simp) _).alloc (by simp; omega) _
  have hIG : IG l base wB (w.heap.size + 2) w.heap.size (w.heap.size + 1) bu bc um (fun b => b < w.heap.size + 3) [] (((w.alloc (.cells #[.func (.func 65) #[] #[ptr bu, ptr bc]] 38)).alloc (.map #[] 0)).alloc (.cells #[.map (some (w.heap.size + 1))] 150)) := by
    refine ⟨fun b h => by simpa using h, fun b h => by omega, ?_, ?_, by omega, by omega, fun b h => by have := hlu b h; omega, ⟨hbc, hum, by omega⟩, ⟨fun _ => none, ?_⟩, ?_, hb.trans (hb3.mono hbs)⟩
    · have h2 := heap_alloc_new ((w.alloc (.cells #[.func (.func 65) #[] #[ptr bu, ptr bc]] 38)).alloc (.map #[] 0)) (.cells #[.map (some (w.heap.size + 1))] 150)
      rw [show ((w.alloc (.cells #[.func (.func 65) #[] #[ptr bu, ptr bc]] 38)).alloc (.map #[] 0)).heap.size = w.heap.size + 2 by simp] at h2
      exact h2
    · rw [Below.heap_alloc _ _ _ (by simp; omega), Below.heap_alloc _ _ _ (by simp)]; exact heap_alloc_new w _
    · have h0 := Grp.made (α := P.It) 47 5 itCells (w.alloc (.cells #[.func (.func 65) #[] #[ptr bu, ptr bc]] 38)) base (fun b => b < w.heap.size + 3) (by simp)
      rw [show (w.alloc (.cells #[.func (.func 65) #[] #[ptr bu, ptr bc]] 38)).heap.size = w.heap.size + 1 by simp] at h0
      exact h0.kept (fun b _ hbl => Below.heap_alloc _ _ _ hbl)
    · exact hk.same (fun b h => hb3.block b (hlu b h))
  have hwalk := walk_any l ht hf a c 103 #[ptr (w.heap.size + 2), ptr w.heap.size] _ (visitG l ht hf base wB (w.heap.size + 2) w.heap.size (w.heap.size + 1) bu bc um (by omega)) _ (hi.below hb3 (Nat.le_refl _)) _ hIG
  have Hwalk := hide hwalk
  have e27 : ∀ args w, (callFunc 65 args).run Tryz.prog w = .ok (.enter 65 args) w := enters_of Tryz.func65 (by kernel_rfl) rfl
  have hblob := blob_dir l ht []
  rw [pre_nil] at hblob
  have hok := kids_ok l ht []
  have hsm := blob_small l ht 6 [] (.inl rfl)
  have hfl := walk_filter l ht 5 []
  have hwl := walk_len l ht 6 []
  rw [wb6] at hwl
  clear hwalk hIG hb3 hk hi
  unfold ptr at *
  go_enter Tryz.func64, Tryz.ntmps64
  go_wp2_with fail
  refine (unhide Hwalk).mono ?_
  rintro e w1 ⟨rfl, Own, hI, -⟩
  clear Hwalk
  obtain ⟨FI, hgrp⟩ := hI.grp
  have hitm : itemsF l (walkP l 6 []) [] = (kidsP l []).map (itemQ l) := by unfold itemsF; rw [hfl]
  have hat := hgrp.at []
  obtain ⟨v, hv⟩ : ∃ v, (FI []).getD (.slice none 0 0) = v := ⟨_, rfl⟩
  rw [hv, hitm] at hat
  have hatd : w1.drew.ownsRow base 47 5 v ((kidsP l []).map (itemQ l)).length (rowCells itCells ((kidsP l []).map (itemQ l))) := World.ownsRow.drew hat
  have henc := encode_any _ v w1.drew base hatd (fit_of_ok _ hok) hok
  rw [← hblob] at henc
  have hlk := hgrp.map.drew.look 150 43 under72 (.slice none 0 0) (zero_items _) [] (by simp)
  rw [hv] at hlk
  rw [show bs [] = ⟨#[]⟩ from rfl] at hlk
  have ci := cell_of_block (j := 0) hI.ci
  have ck := cell_of_block (j := 0) hI.ck
  simp only [List.getElem?_toArray, List.getElem?_cons_zero] at ci ck
  unfold ptr at ck
  have HI := hide hI
  have hbil : w.heap.size + 2 < w1.heap.size := (Array.getElem?_eq_some_iff.1 hI.ci).1
  generalize hB : blobP l 6 [] = B at *
  have HB := hide hB
  have Henc := hide henc
  have hkeep := fun (w2 : World) (h2 : KeepIs w2 bu bc um (walkP l 6 []).length (keptR l (walkP l 6 []))) => keep_any B (keptR l (walkP l 6 [])) w2 bu bc um (walkP l 6 []).length h2 (by omega) (by unfold maxLen; omega)
  unfold ptr at hkeep
  have Hkeep := hide hkeep
  clear hkeep henc hB hI hgrp hat hatd hitm hblob hok hfl hv
  go_wp2_with fail
  go_region_held3 (fun w' => w'.cell? ⟨w.heap.size + 2, 0, none⟩ = some (.map (some (w.heap.size + 1))) ∧ w'.cell? ⟨w.heap.size, 0, none⟩ = some (.func (.func 65) #[] #[.pointer (some ⟨bu, 0, none⟩), .pointer (some ⟨bc, 0, none⟩)]))
    ((first | exact ⟨by assumption, by assumption⟩ | go_keep))
    ((first | (go_at_call 104; refine (unhide Henc).mono ?_; rintro e w2 ⟨rfl, hb2⟩;
               have s0 := ((bcell hb2).1 (w.heap.size + 2) 0 (by simpa using hbil)).trans ci;
               have s1 := ((bcell hb2).1 w.heap.size 0 (by show w.heap.size < w1.heap.size; omega)).trans ck)
            | (go_at_call 65; refine (unhide Hkeep w2 ((unhide HI).keep.same (fun b hb => hb2.block b ((unhide HI).keep.lt b hb)))).mono ?_; rintro e w3 ⟨rfl, hk3, hf3⟩;
               have r0 := (World.cell?_of_block (a := ⟨w.heap.size + 2, 0, none⟩) (hf3.block (w.heap.size + 2) (by have := hb2.size; simp at this; omega) (fun h => by have := hlu bc (.inr (.inl rfl)); omega))).trans s0;
               have r1 := (World.cell?_of_block (a := ⟨w.heap.size, 0, none⟩) (hf3.block w.heap.size (by have := hb2.size; simp at this; omega) (fun h => by have := hlu bc (.inr (.inl rfl)); omega))).trans s1)))
  all_goals go_wp2_with fail
  all_goals go_ret
  all_goals
    refine ⟨by rw [unhide HB]; rfl, ⟨(walkP l 6 []).length + 1, by omega, by unfold keptAll; rw [unhide HB]; exact hk3⟩, ?_⟩
    have hbw := (unhide HI).below
    refine ⟨(hf3.os.trans hb2.os).trans hbw.os, (hf3.tape.trans hb2.tape).trans hbw.tape, (hf3.output.trans hb2.output).trans hbw.output, Nat.le_trans hbw.size (Nat.le_trans hb2.size hf3.size), fun b hbl => ?_⟩
    have h1 : b < w1.heap.size := by omega
    exact ((hf3.block b (Nat.lt_of_lt_of_le h1 hb2.size) (fun h => by omega)).trans (hb2.block b h1)).trans (hbw.block b hbl)
theorem ret_set (br : Nat) (tmps : Array Value) (w : World) (s : ByteArray) (m : Option Nat) (e : Int) (R : Ending → World → Prop) (h2 : tmps.getD 2 undef = .pointer (some ⟨br, 0, none⟩)) (h3 : tmps.getD 3 undef = .int .i64 e) (hb : w.heap[br]? = some (.cells #[.string s, .map m] 77 (0, 0)))
    (hR : R (.returned (.tuple #[.agg #[.string s, .map m], .int .i64 e])) w) : bodyPost Tryz.prog Tryz.f42 R .ret { tmps := tmps, defers := [] } w := by
  have c0 := cell_of_block (j := 0) hb
  have c1 := cell_of_block (j := 1) hb
  simp only [List.getElem?_toArray, List.getElem?_cons_zero, List.getElem?_cons_succ] at c0 c1
  refine ⟨rfl, _, ?_, hR⟩
  rw [results_cell_tmp (p := 2) (u := 3) (ty := 77) (by kernel_rfl), h2, h3]
  go_simp
def OfEnd (l : List En) (base : Nat) (e : Ending) (w' : World) : Prop :=
  (¬ Tree l ∧ e = .returned (.tuple #[.agg #[.string ⟨#[]⟩, .map none], .int .i64 1])) ∨
  (Tree l ∧ l.any escP = true ∧ e = .returned (.tuple #[.agg #[.string ⟨#[]⟩, .map none], .int .i64 2])) ∨
  (Tree l ∧ l.any escP = false ∧ clashR (keptAll l) = true ∧ e = .returned (.tuple #[.agg #[.string ⟨#[]⟩, .map none], .int .i64 3])) ∨
  (Tree l ∧ l.any escP = false ∧ clashR (keptAll l) = false ∧ ∃ um n, n ≤ 5000000000 ∧ base ≤ um ∧ e = .returned (.tuple #[.agg #[.string (bs (P.digest (blobP l 6 []))), .map (some um)], .int .i64 0]) ∧ MapIs w' um n (blobsF (keptAll l)))
set_option maxRecDepth 100000 in
set_option maxHeartbeats 2000000 in
theorem of_any (l : List En) (a : Option Addr) (c : Nat) (w : World) (hl : l.length ≤ maxLen) (hi : LiesE w a l) (hf : TFit l) (hg : GlobOk w) :
    Calls Tryz.prog 42 #[.slice a l.length c] w fun e w' => Below w.heap.size w w' ∧ OfEnd l w.heap.size e w' := by
  have hmm := @run_makeMap Tryz.prog
  have hmf : ∀ (fn : Fn) (first cap : Array Value) (w : World), (Instr.makeFunc fn first cap).run Tryz.prog w = .ok (.func fn first cap) w := fun _ _ _ _ => rfl
  have hbA : Below w.heap.size w (w.alloc (.cells #[.string ⟨#[]⟩, .map none] 77)) := (Below.refl _ _).alloc (Nat.le_refl _) _
  have his := is_any l a c _ hl (hi.below hbA (Nat.le_refl _)) hf (hg.below hbA (Nat.le_refl _))
  have His := hide his
  clear his
  go_enter Tryz.func42, Tryz.ntmps42
  go_wp2_with fail
  refine (unhide His).mono ?_
  rintro e w1 ⟨rfl, hb1⟩
  have hbw1 : Below w.heap.size w w1 := hbA.trans (hb1.mono hbA.size)
  have hr1 : w1.heap[w.heap.size]? = some (.cells #[.string ⟨#[]⟩, .map none] 77 (0, 0)) := (hb1.block w.heap.size (by simp)).trans (heap_alloc_new w _)
  have r0 := cell_of_block (j := 0) hr1
  have r1 := cell_of_block (j := 1) hr1
  have f0 := free_block (j := 0) hr1
  have f1 := free_block (j := 1) hr1
  simp only [List.getElem?_toArray, List.getElem?_cons_zero, List.getElem?_cons_succ] at r0 r1
  clear His hb1
  cases htb : treeB l with
  | false =>
    have hnt : ¬ Tree l := fun h => by rw [(treeB_iff l).2 h] at htb; simp at htb
    have Hnt := hide hnt
    clear hnt htb
    go_wp2_with fail
    refine ret_set w.heap.size _ _ ⟨#[]⟩ none 1 _ rfl rfl ?_ ?_
    · exact heap_setCell_same _ _ 1 _ _ _ (heap_setCell_same _ _ 0 _ _ _ hr1)
    · refine ⟨?_, .inl ⟨unhide Hnt, rfl⟩⟩
      exact ⟨hbw1.os, hbw1.tape, hbw1.output, by simp [hbw1.size], fun b hb => (Below.heap_setCell _ _ _ _ (by show b ≠ w.heap.size; omega)).trans ((Below.heap_setCell _ _ _ _ (by show b ≠ w.heap.size; omega)).trans (hbw1.block b hb))⟩
  | true =>
    have ht := (treeB_iff l).1 htb
    have hlead := anyLeads_any l ht hf a c w1 (hi.below hbw1 (Nat.le_refl _)) (hg.below hbw1 (Nat.le_refl _))
    have Hlead := hide hlead
    clear hlead htb
    go_wp2_with fail
    refine (unhide Hlead).mono ?_
    rintro e w2 ⟨rfl, hb2⟩
    have hbw2 : Below w.heap.size w w2 := hbw1.trans (hb2.mono hbw1.size)
    have hr2 : w2.heap[w.heap.size]? = some (.cells #[.string ⟨#[]⟩, .map none] 77 (0, 0)) := (hb2.block w.heap.size (Array.getElem?_eq_some_iff.1 hr1).1).trans hr1
    clear r0 r1 f0 f1 hr1 hb2 Hlead hbw1
    have r0 := cell_of_block (j := 0) hr2
    have r1 := cell_of_block (j := 1) hr2
    have f0 := free_block (j := 0) hr2
    have f1 := free_block (j := 1) hr2
    simp only [List.getElem?_toArray, List.getElem?_cons_zero, List.getElem?_cons_succ] at r0 r1
    generalize hes : l.any escP = es at *
    have Hes := hide hes
    clear hes
    cases es with
    | true =>
      go_wp2_with fail
      refine ret_set w.heap.size _ _ ⟨#[]⟩ none 2 _ rfl rfl ?_ ?_
      · exact heap_setCell_same _ _ 1 _ _ _ (heap_setCell_same _ _ 0 _ _ _ hr2)
      · refine ⟨?_, .inr (.inl ⟨ht, unhide Hes, rfl⟩)⟩
        exact ⟨hbw2.os, hbw2.tape, hbw2.output, by simp [hbw2.size], fun b hb => (Below.heap_setCell _ _ _ _ (by show b ≠ w.heap.size; omega)).trans ((Below.heap_setCell _ _ _ _ (by show b ≠ w.heap.size; omega)).trans (hbw2.block b hb))⟩
    | false =>
      have hb5 : Below w2.heap.size w2 (((w2.alloc (.map #[] 0)).alloc (.cells #[.map (some w2.heap.size)] 75)).alloc (.cells #[.bool false] 4)) := (((Below.refl _ _).alloc (Nat.le_refl _) _).alloc (by simp) _).alloc (by simp; omega) _
      have hbw5 := hbw2.trans (hb5.mono hbw2.size)
      have hw2s := hbw2.size
      have hk : KeepIs (((w2.alloc (.map #[] 0)).alloc (.cells #[.map (some w2.heap.size)] 75)).alloc (.cells #[.bool false] 4)) (w2.heap.size + 1) (w2.heap.size + 2) w2.heap.size 0 [] := by
        refine ⟨?_, ?_, ((MapIs.made w2).alloc _).alloc _⟩
        · have h2 := heap_alloc_new (w2.alloc (.map #[] 0)) (.cells #[.map (some w2.heap.size)] 75)
          rw [show (w2.alloc (.map #[] 0)).heap.size = w2.heap.size + 1 by simp] at h2
          exact (Below.heap_alloc _ _ _ (by simp)).trans h2
        · have h2 := heap_alloc_new ((w2.alloc (.map #[] 0)).alloc (.cells #[.map (some w2.heap.size)] 75)) (.cells #[.bool false] 4)
          rw [show ((w2.alloc (.map #[] 0)).alloc (.cells #[.map (some w2.heap.size)] 75)).heap.size = w2.heap.size + 2 by simp] at h2
          exact h2
      have hgat := gather_any l ht hf a c _ (hi.below hbw5 (Nat.le_refl _)) (w.heap.size + 1) (((w2.alloc (.map #[] 0)).alloc (.cells #[.map (some w2.heap.size)] 75)).alloc (.cells #[.bool false] 4)) (Below.refl _ _) (by simp; omega) (w2.heap.size + 1) (w2.heap.size + 2) w2.heap.size hk (by omega) (by have := (Array.getElem?_eq_some_iff.1 hr2).1; omega)
      unfold ptr at hgat
      have Hgat := hide hgat
      have Hb5 := hide (And.intro hb5 hbw5)
      clear hgat hk hb5 hbw5
      go_wp2_with fail
      refine (unhide Hgat).mono ?_
      rintro e w6 ⟨rfl, ⟨n6, hn6, hk6⟩, hb6⟩
      have hlr := (Array.getElem?_eq_some_iff.1 hr2).1
      have hr6 : w6.heap[w.heap.size]? = some (.cells #[.string ⟨#[]⟩, .map none] 77 (0, 0)) := (hb6.block w.heap.size (by omega)).trans (((unhide Hb5).1.block _ hlr).trans hr2)
      have hbw6 : Below w.heap.size w w6 := (unhide Hb5).2.trans (hb6.mono (by omega))
      clear r0 r1 f0 f1 Hgat hb6
      have r0 := cell_of_block (j := 0) hr6
      have r1 := cell_of_block (j := 1) hr6
      have f0 := free_block (j := 0) hr6
      have f1 := free_block (j := 1) hr6
      have cc := cell_of_block (j := 0) hk6.c
      have cu := cell_of_block (j := 0) hk6.u
      simp only [List.getElem?_toArray, List.getElem?_cons_zero, List.getElem?_cons_succ] at r0 r1 cc cu
      generalize hcl : clashR (keptAll l) = cl at *
      have Hcl := hide hcl
      have Hk6 := hide hk6
      clear hcl hk6
      cases cl with
      | true =>
        go_wp2_with fail
        refine ret_set w.heap.size _ _ ⟨#[]⟩ none 3 _ rfl rfl ?_ ?_
        · exact heap_setCell_same _ _ 1 _ _ _ (heap_setCell_same _ _ 0 _ _ _ hr6)
        · refine ⟨?_, .inr (.inr (.inl ⟨ht, unhide Hes, unhide Hcl, rfl⟩))⟩
          exact ⟨hbw6.os, hbw6.tape, hbw6.output, by simp [hbw6.size], fun b hb => (Below.heap_setCell _ _ _ _ (by show b ≠ w.heap.size; omega)).trans ((Below.heap_setCell _ _ _ _ (by show b ≠ w.heap.size; omega)).trans (hbw6.block b hb))⟩
      | false =>
        generalize hRt : bs (P.digest (blobP l 6 [])) = Rt at *
        have HRt := hide hRt
        clear hRt
        go_wp2_with fail
        refine ret_set w.heap.size _ _ Rt (some w2.heap.size) 0 _ rfl rfl ?_ ?_
        · exact heap_setCell_same _ _ 1 _ _ _ (heap_setCell_same _ _ 0 _ _ _ hr6)
        · refine ⟨?_, .inr (.inr (.inr ⟨ht, unhide Hes, unhide Hcl, w2.heap.size, n6, hn6, by omega, by rw [unhide HRt], (unhide Hk6).m.same ?_⟩))⟩
          · exact ⟨hbw6.os, hbw6.tape, hbw6.output, by simp [hbw6.size], fun b hb => (Below.heap_setCell _ _ _ _ (by show b ≠ w.heap.size; omega)).trans ((Below.heap_setCell _ _ _ _ (by show b ≠ w.heap.size; omega)).trans (hbw6.block b hb))⟩
          · exact (Below.heap_setCell _ _ _ _ (by show w2.heap.size ≠ w.heap.size; omega)).trans (Below.heap_setCell _ _ _ _ (by show w2.heap.size ≠ w.heap.size; omega))
end Go.Proofs.YtjmacegibchplaaGreatDoor
