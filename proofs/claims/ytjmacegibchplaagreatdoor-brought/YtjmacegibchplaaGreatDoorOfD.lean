import Derived.Test.YtjmacegibchplaaGreatDoorTWc
import Derived.Test.YtjmacegibchplaaGreatDoorOfC
import Derived.Laws.ResultCell
/-
  The program's test of a tree is the document's. Plain lists, no walk.
-/
namespace Go.Proofs.YtjmacegibchplaaGreatDoor
set_option linter.unusedVariables false
theorem dataOk_bad (x : En) : dataOk x.kind x.data.data.toList = !kindBad x := by
  obtain ⟨pa, k, d⟩ := x
  unfold dataOk kindBad
  simp only
  by_cases h0 : k = 0
  · subst h0
    rw [ByteArray.toList_eq]
    cases d.data.toList <;> simp
  · rw [if_neg h0]
    by_cases h12 : k = 1 ∨ k = 2
    · rw [if_pos h12]
      have hs : (d.data.toList.length : Int) = (d.size : Int) := by simp
      rw [hs]
      rcases h12 with rfl | rfl <;> simp <;> (by_cases h : (d.size : Int) ≤ 60 <;> simp [h] <;> omega)
    · rw [if_neg h12]
      have h1 : ¬ k = 1 := fun h => h12 (.inl h)
      have h2 : ¬ k = 2 := fun h => h12 (.inr h)
      by_cases h3 : k = 3
      · subst h3; simp
      · rw [if_neg h3]
        have : k < 0 ∨ 3 < k := by omega
        rcases this with h | h <;> simp [h]
theorem find_at (l : List En) (p : List UInt8) : (∃ j, ∃ h : j < l.length, findP l p = (j : Int) ∧ l[j].path.data.toList = p ∧ l.find? (fun e => e.path.data.toList == p) = some l[j] ∧ ∀ k (hk : k < j), l[k].path.data.toList ≠ p) ∨ (findP l p = -1 ∧ l.find? (fun e => e.path.data.toList == p) = none) := by
  unfold findP
  cases hf : l.findIdx? (fun e => e.path.data.toList == p) with
  | none =>
    right
    refine ⟨rfl, ?_⟩
    rw [List.findIdx?_eq_none_iff] at hf
    rw [List.find?_eq_none]
    intro x hx
    simpa using hf x hx
  | some j =>
    left
    have hj := List.findIdx?_eq_some_iff_getElem.1 hf
    obtain ⟨h, h1, h2⟩ := hj
    refine ⟨j, h, rfl, by simpa using h1, ?_, fun k hk => by simpa using h2 k hk⟩
    rw [List.find?_eq_some_iff_getElem]
    exact ⟨h1, j, h, rfl, fun k hk => by simpa using h2 k hk⟩
theorem treeB_iff (l : List En) : treeB l = true ↔ Tree l := by
  constructor
  · intro h
    simp only [treeB, Bool.and_eq_true, decide_eq_true_eq, List.all_eq_true, List.mem_range] at h
    obtain ⟨⟨h40, h1⟩, h2⟩ := h
    refine ⟨h40, fun i hi => ?_⟩
    have g1 := h1 i hi
    have g2 := h2 i hi
    simp only [ok1, entOk, Bool.and_eq_true, pathOk, decide_eq_true_eq, dataOk_bad] at g1
    obtain ⟨gk, ⟨gp, gn⟩, gd⟩ := g1
    have hpi : pathAt l i = (l.getD i en0).path.data.toList := rfl
    have hfind : findP l (pathAt l i) = (i : Int) := by
      rcases find_at l (pathAt l i) with ⟨j, hj, e, ep, _, hlt⟩ | ⟨_, hn⟩
      · rw [e]
        have hji : ¬ j < i := fun hji => by
          have : kindOf (l.take i) (pathAt l i) = none := by simpa using gk
          unfold kindOf at this
          simp only [Option.map_eq_none_iff, List.find?_eq_none] at this
          exact this l[j] (List.mem_take_iff_getElem.2 ⟨j, by omega, rfl⟩) (by simpa using ep)
        have hij : ¬ i < j := fun hij => hlt i hij (by rw [hpi, en_getD l i hi])
        have : i = j := by omega
        rw [this]
      · rw [List.find?_eq_none] at hn
        exact absurd (show (l[i].path.data.toList == pathAt l i) = true by rw [hpi, en_getD l i hi]; simp) (hn l[i] (List.getElem_mem hi))
    have hup : upBad l (pathAt l i) = false := by
      unfold upBad
      rcases cut_cases (pathAt l i) with ⟨_, e1, _, _⟩ | ⟨a, n, e, _, e1, e2, _⟩
      · rw [if_pos (by rw [e1]; simp)]
      · have hane : a ≠ [] := by
          intro h0
          subst h0
          have : ([] : List UInt8) ∈ sp (pathAt l i) := by rw [e1]; simp [sp]
          rw [List.all_eq_true] at gn
          have := gn [] this
          simp [P.isName] at this
        have hlen : ¬ (sp (pathAt l i)).length ≤ 1 := by rw [e1]; simp; exact sp_ne a
        rw [if_neg hlen, e2]
        have hk0 : kindOf l a = some 0 := by
          simp only [ok2, Bool.or_eq_true] at g2
          unfold upAt at g2
          rw [e2] at g2
          rcases g2 with g2 | g2
          · exact absurd (List.isEmpty_iff.1 g2) hane
          · simpa using g2
        unfold kindOf at hk0
        rcases find_at l a with ⟨j, hj, ej, _, hs, _⟩ | ⟨_, hn⟩
        · rw [hs] at hk0
          rw [ej, if_neg (by omega), Int.toNat_natCast, en_getD l j hj]
          have hk : l[j].kind = 0 := by simpa using hk0
          simp [hk]
        · rw [hn] at hk0; simp at hk0
    simp only [fineP, Bool.and_eq_true, decide_eq_true_eq, beq_iff_eq, Bool.not_eq_true']
    exact ⟨⟨⟨⟨gp, gn⟩, by simpa using gd⟩, hup⟩, hfind⟩
  · intro ht
    simp only [treeB, Bool.and_eq_true, decide_eq_true_eq, List.all_eq_true, List.mem_range]
    refine ⟨⟨ht.len, fun i hi => ?_⟩, fun i hi => ?_⟩
    · have hf := ht.fine i hi
      have hpi : pathAt l i = (l.getD i en0).path.data.toList := rfl
      simp only [fineP, Bool.and_eq_true, decide_eq_true_eq, beq_iff_eq, Bool.not_eq_true'] at hf
      obtain ⟨⟨⟨⟨gp, gn⟩, gd⟩, gu⟩, gf⟩ := hf
      simp only [ok1, entOk, Bool.and_eq_true, pathOk, decide_eq_true_eq, dataOk_bad]
      refine ⟨?_, ⟨gp, gn⟩, by rw [gd]; rfl⟩
      rw [Option.isNone_iff_eq_none]
      unfold kindOf
      rw [Option.map_eq_none_iff, List.find?_eq_none]
      intro x hx hp
      obtain ⟨j, hj, rfl⟩ := List.getElem_of_mem hx
      rw [List.length_take] at hj
      rw [List.getElem_take] at hp
      have hjl : j < l.length := by omega
      have := tree_inj l ht j i hjl hi (by have : l[j].path.data.toList = pathAt l i := by simpa using hp
                                           rw [this, hpi, en_getD l i hi])
      omega
    · simp only [ok2, Bool.or_eq_true]
      have hf := ht.fine i hi
      simp only [fineP, Bool.and_eq_true, Bool.not_eq_true'] at hf
      have gu : upBad l (pathAt l i) = false := hf.1.2
      unfold upBad at gu
      rcases cut_cases (pathAt l i) with ⟨_, _, e2, _⟩ | ⟨a, n, e, _, e1, e2, _⟩
      · left; unfold upAt; rw [e2]; rfl
      · right
        have hlen : ¬ (sp (pathAt l i)).length ≤ 1 := by rw [e1]; simp; exact sp_ne a
        rw [if_neg hlen, e2] at gu
        unfold upAt
        rw [e2]
        rcases find_at l a with ⟨j, hj, ej, _, hs, _⟩ | ⟨hn, _⟩
        · rw [ej, if_neg (by omega), Int.toNat_natCast, en_getD l j hj] at gu
          have hk : l[j].kind = 0 := by simpa using gu
          unfold kindOf
          rw [hs]
          simp [hk]
        · rw [hn, if_pos (by omega)] at gu; simp at gu
theorem wrong_no (l : List En) (h : ¬ Tree l) : wrongP l = 1 := by
  rw [wrongP_eq]
  by_cases h40 : 40 < l.length
  · rw [if_pos h40]
  · rw [if_neg h40]
    by_cases ha : (List.range l.length).all (fineP l) = false
    · rw [if_pos ha]
    · exfalso
      refine h ⟨by omega, fun i hi => ?_⟩
      have : (List.range l.length).all (fineP l) = true := by simpa using ha
      exact List.all_eq_true.1 this i (by simpa using hi)
theorem wrong_yes (l : List En) (h : Tree l) : wrongP l = if l.any escP then 2 else 0 := by
  rw [wrongP_eq, if_neg (by have := h.len; omega), if_neg]
  have : (List.range l.length).all (fineP l) = true := List.all_eq_true.2 (fun i hi => h.fine i (by simpa using hi))
  rw [this]; simp
end Go.Proofs.YtjmacegibchplaaGreatDoor

/-
  The program's gather and Of: the blobs of a tree, under their digests.
-/
namespace Go.Proofs.YtjmacegibchplaaGreatDoor
open Go.RowKit
set_option linter.unusedVariables false
theorem visitG (l : List En) (ht : Tree l) (hf : TFit l) (base : Nat) (wB : World) (bit bk im bu bc um : Nat) (hne : um ≠ im) : Visitor l 103 #[ptr bit, ptr bk] (IG l base wB bit bk im bu bc um) where
  enters := enters_of Tryz.func103 (by kernel_rfl) rfl
  lt := fun Own done w h => h.lt
  stable := fun Own done w w' h hk => h.stable hk
  visit := fun Own done i w hi hlen hI hfil => gath1 l ht hf base wB bit bk im bu bc um hne Own done i w hi hlen hI hfil
def keptAll (l : List En) : List (List UInt8) := blobP l 6 [] :: keptR l (walkP l 6 [])
theorem wb6 : wb 6 = 4201025640 := rfl
set_option maxRecDepth 100000 in
set_option maxHeartbeats 2000000 in
theorem gather_any (l : List En) (ht : Tree l) (hf : TFit l) (a : Option Addr) (c : Nat) (w : World) (hi : LiesE w a l) (base : Nat) (wB : World) (hb : Below base wB w) (hbs : base ≤ w.heap.size) (bu bc um : Nat) (hk : KeepIs w bu bc um 0 []) (hbc : base ≤ bc) (hum : base ≤ um) :
    Calls Tryz.prog 64 #[.slice a l.length c, .func (.func 65) #[] #[ptr bu, ptr bc]] w fun e w' => e = .returned (.string (bs (P.digest (blobP l 6 [])))) ∧ (∃ n, n ≤ 5000000000 ∧ KeepIs w' bu bc um n (keptAll l)) ∧ Below base wB w' := by
  have hmm := @run_makeMap Tryz.prog
  have hmf : ∀ (fn : Fn) (first cap : Array Value) (w : World), (Instr.makeFunc fn first cap).run Tryz.prog w = .ok (.func fn first cap) w := fun _ _ _ _ => rfl
  have hlu := hk.lt
  have humlt : um < w.heap.size := hlu um (.inr (.inr rfl))
  have hb3 : Below w.heap.size w (((w.alloc (.cells #[.func (.func 65) #[] #[ptr bu, ptr bc]] 38)).alloc (.map #[] 0)).alloc (.cells #[.map (some (w.heap.size + 1))] 150)) :=
    (((Below.refl _ _).alloc (Nat.le_refl _) _).alloc (by simp) _).alloc (by simp; omega) _
  have hIG : IG l base wB (w.heap.size + 2) w.heap.size (w.heap.size + 1) bu bc um (fun b => b < w.heap.size + 3) [] (((w.alloc (.cells #[.func (.func 65) #[] #[ptr bu, ptr bc]] 38)).alloc (.map #[] 0)).alloc (.cells #[.map (some (w.heap.size + 1))] 150)) := by
    refine ⟨fun b h => by simpa using h, fun b h => by omega, ?_, ?_, by omega, by omega, fun b h => by have := hlu b h; omega, ⟨hbc, hum, by omega⟩, ⟨fun _ => none, ?_⟩, ?_, hb.trans (hb3.mono hbs)⟩
    · have h2 := heap_alloc_new ((w.alloc (.cells #[.func (.func 65) #[] #[ptr bu, ptr bc]] 38)).alloc (.map #[] 0)) (.cells #[.map (some (w.heap.size + 1))] 150)
      rw [show ((w.alloc (.cells #[.func (.func 65) #[] #[ptr bu, ptr bc]] 38)).alloc (.map #[] 0)).heap.size = w.heap.size + 2 by simp] at h2
      exact h2
    · rw [Below.heap_alloc _ _ _ (by simp; omega), Below.heap_alloc _ _ _ (by simp)]; exact heap_alloc_new w _
    · have h0 := Grp.made (α := P.It) 47 5 itCells (w.alloc (.cells #[.func (.func 65) #[] #[ptr bu, ptr bc]] 38)) base (fun b => b < w.heap.size + 3) (by simp)
      rw [show (w.alloc (.cells #[.func (.func 65) #[] #[ptr bu, ptr bc]] 38)).heap.size = w.heap.size + 1 by simp] at h0
      exact h0.kept (fun b _ hbl => Below.heap_alloc _ _ _ hbl)
    · exact hk.same (fun b h => hb3.block b (hlu b h))
  have hwalk := walk_any l ht hf a c 103 #[ptr (w.heap.size + 2), ptr w.heap.size] _ (visitG l ht hf base wB (w.heap.size + 2) w.heap.size (w.heap.size + 1) bu bc um (by omega)) _ (hi.below hb3 (Nat.le_refl _)) _ hIG
  have Hwalk := hide hwalk
  have e27 : ∀ args w, (callFunc 65 args).run Tryz.prog w = .ok (.enter 65 args) w := enters_of Tryz.func65 (by kernel_rfl) rfl
  have hblob := blob_dir l ht []
  rw [pre_nil] at hblob
  have hok := kids_ok l ht []
  have hsm := blob_small l ht 6 [] (.inl rfl)
  have hfl := walk_filter l ht 5 []
  have hwl := walk_len l ht 6 []
  rw [wb6] at hwl
  clear hwalk hIG hb3 hk hi
  unfold ptr at *
  go_enter Tryz.func64, Tryz.ntmps64
  go_wp2_with fail
  refine (unhide Hwalk).mono ?_
  rintro e w1 ⟨rfl, Own, hI, -⟩
  clear Hwalk
  obtain ⟨FI, hgrp⟩ := hI.grp
  have hitm : itemsF l (walkP l 6 []) [] = (kidsP l []).map (itemQ l) := by unfold itemsF; rw [hfl]
  have hat := hgrp.at []
  obtain ⟨v, hv⟩ : ∃ v, (FI []).getD (.slice none 0 0) = v := ⟨_, rfl⟩
  rw [hv, hitm] at hat
  have hatd : w1.drew.ownsRow base 47 5 v ((kidsP l []).map (itemQ l)).length (rowCells itCells ((kidsP l []).map (itemQ l))) := World.ownsRow.drew hat
  have henc := encode_any _ v w1.drew base hatd (fit_of_ok _ hok) hok
  rw [← hblob] at henc
  have hlk := hgrp.map.drew.look 150 43 under72 (.slice none 0 0) (zero_items _) [] (by simp)
  rw [hv] at hlk
  rw [show bs [] = ⟨#[]⟩ from rfl] at hlk
  have ci := cell_of_block (j := 0) hI.ci
  have ck := cell_of_block (j := 0) hI.ck
  simp only [List.getElem?_toArray, List.getElem?_cons_zero] at ci ck
  unfold ptr at ck
  have HI := hide hI
  have hbil : w.heap.size + 2 < w1.heap.size := (Array.getElem?_eq_some_iff.1 hI.ci).1
  generalize hB : blobP l 6 [] = B at *
  have HB := hide hB
  have Henc := hide henc
  have hkeep := fun (w2 : World) (h2 : KeepIs w2 bu bc um (walkP l 6 []).length (keptR l (walkP l 6 []))) => keep_any B (keptR l (walkP l 6 [])) w2 bu bc um (walkP l 6 []).length h2 (by omega) (by unfold maxLen; omega)
  unfold ptr at hkeep
  have Hkeep := hide hkeep
  clear hkeep henc hB hI hgrp hat hatd hitm hblob hok hfl hv
  go_wp2_with fail
  go_region_held3 (fun w' => w'.cell? ⟨w.heap.size + 2, 0, none⟩ = some (.map (some (w.heap.size + 1))) ∧ w'.cell? ⟨w.heap.size, 0, none⟩ = some (.func (.func 65) #[] #[.pointer (some ⟨bu, 0, none⟩), .pointer (some ⟨bc, 0, none⟩)]))
    ((first | exact ⟨by assumption, by assumption⟩ | go_keep))
    ((first | (go_at_call 104; refine (unhide Henc).mono ?_; rintro e w2 ⟨rfl, hb2⟩;
               have s0 := ((bcell hb2).1 (w.heap.size + 2) 0 (by simpa using hbil)).trans ci;
               have s1 := ((bcell hb2).1 w.heap.size 0 (by show w.heap.size < w1.heap.size; omega)).trans ck)
            | (go_at_call 65; refine (unhide Hkeep w2 ((unhide HI).keep.same (fun b hb => hb2.block b ((unhide HI).keep.lt b hb)))).mono ?_; rintro e w3 ⟨rfl, hk3, hf3⟩;
               have r0 := (World.cell?_of_block (a := ⟨w.heap.size + 2, 0, none⟩) (hf3.block (w.heap.size + 2) (by have := hb2.size; simp at this; omega) (fun h => by have := hlu bc (.inr (.inl rfl)); omega))).trans s0;
               have r1 := (World.cell?_of_block (a := ⟨w.heap.size, 0, none⟩) (hf3.block w.heap.size (by have := hb2.size; simp at this; omega) (fun h => by have := hlu bc (.inr (.inl rfl)); omega))).trans s1)))
  all_goals go_wp2_with fail
  all_goals go_ret
  all_goals
    refine ⟨by rw [unhide HB]; rfl, ⟨(walkP l 6 []).length + 1, by omega, by unfold keptAll; rw [unhide HB]; exact hk3⟩, ?_⟩
    have hbw := (unhide HI).below
    refine ⟨(hf3.os.trans hb2.os).trans hbw.os, (hf3.tape.trans hb2.tape).trans hbw.tape, (hf3.output.trans hb2.output).trans hbw.output, Nat.le_trans hbw.size (Nat.le_trans hb2.size hf3.size), fun b hbl => ?_⟩
    have h1 : b < w1.heap.size := by omega
    exact ((hf3.block b (Nat.lt_of_lt_of_le h1 hb2.size) (fun h => by omega)).trans (hb2.block b h1)).trans (hbw.block b hbl)
theorem ret_set (br : Nat) (tmps : Array Value) (w : World) (s : ByteArray) (m : Option Nat) (e : Int) (R : Ending → World → Prop) (h2 : tmps.getD 2 undef = .pointer (some ⟨br, 0, none⟩)) (h3 : tmps.getD 3 undef = .int .i64 e) (hb : w.heap[br]? = some (.cells #[.string s, .map m] 77 (0, 0)))
    (hR : R (.returned (.tuple #[.agg #[.string s, .map m], .int .i64 e])) w) : bodyPost Tryz.prog Tryz.f42 R .ret { tmps := tmps, defers := [] } w := by
  have c0 := cell_of_block (j := 0) hb
  have c1 := cell_of_block (j := 1) hb
  simp only [List.getElem?_toArray, List.getElem?_cons_zero, List.getElem?_cons_succ] at c0 c1
  refine ⟨rfl, _, ?_, hR⟩
  rw [results_cell_tmp (p := 2) (u := 3) (ty := 77) (by kernel_rfl), h2, h3]
  go_simp
def OfEnd (l : List En) (base : Nat) (e : Ending) (w' : World) : Prop :=
  (¬ Tree l ∧ e = .returned (.tuple #[.agg #[.string ⟨#[]⟩, .map none], .int .i64 1])) ∨
  (Tree l ∧ l.any escP = true ∧ e = .returned (.tuple #[.agg #[.string ⟨#[]⟩, .map none], .int .i64 2])) ∨
  (Tree l ∧ l.any escP = false ∧ clashR (keptAll l) = true ∧ e = .returned (.tuple #[.agg #[.string ⟨#[]⟩, .map none], .int .i64 3])) ∨
  (Tree l ∧ l.any escP = false ∧ clashR (keptAll l) = false ∧ ∃ um n, n ≤ 5000000000 ∧ base ≤ um ∧ e = .returned (.tuple #[.agg #[.string (bs (P.digest (blobP l 6 []))), .map (some um)], .int .i64 0]) ∧ MapIs w' um n (blobsF (keptAll l)))
set_option maxRecDepth 100000 in
set_option maxHeartbeats 2000000 in
theorem of_any (l : List En) (a : Option Addr) (c : Nat) (w : World) (hl : l.length ≤ maxLen) (hi : LiesE w a l) (hf : TFit l) (hg : GlobOk w) :
    Calls Tryz.prog 42 #[.slice a l.length c] w fun e w' => Below w.heap.size w w' ∧ OfEnd l w.heap.size e w' := by
  have hmm := @run_makeMap Tryz.prog
  have hmf : ∀ (fn : Fn) (first cap : Array Value) (w : World), (Instr.makeFunc fn first cap).run Tryz.prog w = .ok (.func fn first cap) w := fun _ _ _ _ => rfl
  have hbA : Below w.heap.size w (w.alloc (.cells #[.string ⟨#[]⟩, .map none] 77)) := (Below.refl _ _).alloc (Nat.le_refl _) _
  have his := is_any l a c _ hl (hi.below hbA (Nat.le_refl _)) hf (hg.below hbA (Nat.le_refl _))
  have His := hide his
  clear his
  go_enter Tryz.func42, Tryz.ntmps42
  go_wp2_with fail
  refine (unhide His).mono ?_
  rintro e w1 ⟨rfl, hb1⟩
  have hbw1 : Below w.heap.size w w1 := hbA.trans (hb1.mono hbA.size)
  have hr1 : w1.heap[w.heap.size]? = some (.cells #[.string ⟨#[]⟩, .map none] 77 (0, 0)) := (hb1.block w.heap.size (by simp)).trans (heap_alloc_new w _)
  have r0 := cell_of_block (j := 0) hr1
  have r1 := cell_of_block (j := 1) hr1
  have f0 := free_block (j := 0) hr1
  have f1 := free_block (j := 1) hr1
  simp only [List.getElem?_toArray, List.getElem?_cons_zero, List.getElem?_cons_succ] at r0 r1
  clear His hb1
  cases htb : treeB l with
  | false =>
    have hnt : ¬ Tree l := fun h => by rw [(treeB_iff l).2 h] at htb; simp at htb
    have Hnt := hide hnt
    clear hnt htb
    go_wp2_with fail
    refine ret_set w.heap.size _ _ ⟨#[]⟩ none 1 _ rfl rfl ?_ ?_
    · exact heap_setCell_same _ _ 1 _ _ _ (heap_setCell_same _ _ 0 _ _ _ hr1)
    · refine ⟨?_, .inl ⟨unhide Hnt, rfl⟩⟩
      exact ⟨hbw1.os, hbw1.tape, hbw1.output, by simp [hbw1.size], fun b hb => (Below.heap_setCell _ _ _ _ (by show b ≠ w.heap.size; omega)).trans ((Below.heap_setCell _ _ _ _ (by show b ≠ w.heap.size; omega)).trans (hbw1.block b hb))⟩
  | true =>
    have ht := (treeB_iff l).1 htb
    have hlead := anyLeads_any l ht hf a c w1 (hi.below hbw1 (Nat.le_refl _)) (hg.below hbw1 (Nat.le_refl _))
    have Hlead := hide hlead
    clear hlead htb
    go_wp2_with fail
    refine (unhide Hlead).mono ?_
    rintro e w2 ⟨rfl, hb2⟩
    have hbw2 : Below w.heap.size w w2 := hbw1.trans (hb2.mono hbw1.size)
    have hr2 : w2.heap[w.heap.size]? = some (.cells #[.string ⟨#[]⟩, .map none] 77 (0, 0)) := (hb2.block w.heap.size (Array.getElem?_eq_some_iff.1 hr1).1).trans hr1
    clear r0 r1 f0 f1 hr1 hb2 Hlead hbw1
    have r0 := cell_of_block (j := 0) hr2
    have r1 := cell_of_block (j := 1) hr2
    have f0 := free_block (j := 0) hr2
    have f1 := free_block (j := 1) hr2
    simp only [List.getElem?_toArray, List.getElem?_cons_zero, List.getElem?_cons_succ] at r0 r1
    generalize hes : l.any escP = es at *
    have Hes := hide hes
    clear hes
    cases es with
    | true =>
      go_wp2_with fail
      refine ret_set w.heap.size _ _ ⟨#[]⟩ none 2 _ rfl rfl ?_ ?_
      · exact heap_setCell_same _ _ 1 _ _ _ (heap_setCell_same _ _ 0 _ _ _ hr2)
      · refine ⟨?_, .inr (.inl ⟨ht, unhide Hes, rfl⟩)⟩
        exact ⟨hbw2.os, hbw2.tape, hbw2.output, by simp [hbw2.size], fun b hb => (Below.heap_setCell _ _ _ _ (by show b ≠ w.heap.size; omega)).trans ((Below.heap_setCell _ _ _ _ (by show b ≠ w.heap.size; omega)).trans (hbw2.block b hb))⟩
    | false =>
      have hb5 : Below w2.heap.size w2 (((w2.alloc (.map #[] 0)).alloc (.cells #[.map (some w2.heap.size)] 75)).alloc (.cells #[.bool false] 4)) := (((Below.refl _ _).alloc (Nat.le_refl _) _).alloc (by simp) _).alloc (by simp; omega) _
      have hbw5 := hbw2.trans (hb5.mono hbw2.size)
      have hw2s := hbw2.size
      have hk : KeepIs (((w2.alloc (.map #[] 0)).alloc (.cells #[.map (some w2.heap.size)] 75)).alloc (.cells #[.bool false] 4)) (w2.heap.size + 1) (w2.heap.size + 2) w2.heap.size 0 [] := by
        refine ⟨?_, ?_, ((MapIs.made w2).alloc _).alloc _⟩
        · have h2 := heap_alloc_new (w2.alloc (.map #[] 0)) (.cells #[.map (some w2.heap.size)] 75)
          rw [show (w2.alloc (.map #[] 0)).heap.size = w2.heap.size + 1 by simp] at h2
          exact (Below.heap_alloc _ _ _ (by simp)).trans h2
        · have h2 := heap_alloc_new ((w2.alloc (.map #[] 0)).alloc (.cells #[.map (some w2.heap.size)] 75)) (.cells #[.bool false] 4)
          rw [show ((w2.alloc (.map #[] 0)).alloc (.cells #[.map (some w2.heap.size)] 75)).heap.size = w2.heap.size + 2 by simp] at h2
          exact h2
      have hgat := gather_any l ht hf a c _ (hi.below hbw5 (Nat.le_refl _)) (w.heap.size + 1) (((w2.alloc (.map #[] 0)).alloc (.cells #[.map (some w2.heap.size)] 75)).alloc (.cells #[.bool false] 4)) (Below.refl _ _) (by simp; omega) (w2.heap.size + 1) (w2.heap.size + 2) w2.heap.size hk (by omega) (by have := (Array.getElem?_eq_some_iff.1 hr2).1; omega)
      unfold ptr at hgat
      have Hgat := hide hgat
      have Hb5 := hide (And.intro hb5 hbw5)
      clear hgat hk hb5 hbw5
      go_wp2_with fail
      refine (unhide Hgat).mono ?_
      rintro e w6 ⟨rfl, ⟨n6, hn6, hk6⟩, hb6⟩
      have hlr := (Array.getElem?_eq_some_iff.1 hr2).1
      have hr6 : w6.heap[w.heap.size]? = some (.cells #[.string ⟨#[]⟩, .map none] 77 (0, 0)) := (hb6.block w.heap.size (by omega)).trans (((unhide Hb5).1.block _ hlr).trans hr2)
      have hbw6 : Below w.heap.size w w6 := (unhide Hb5).2.trans (hb6.mono (by omega))
      clear r0 r1 f0 f1 Hgat hb6
      have r0 := cell_of_block (j := 0) hr6
      have r1 := cell_of_block (j := 1) hr6
      have f0 := free_block (j := 0) hr6
      have f1 := free_block (j := 1) hr6
      have cc := cell_of_block (j := 0) hk6.c
      have cu := cell_of_block (j := 0) hk6.u
      simp only [List.getElem?_toArray, List.getElem?_cons_zero, List.getElem?_cons_succ] at r0 r1 cc cu
      generalize hcl : clashR (keptAll l) = cl at *
      have Hcl := hide hcl
      have Hk6 := hide hk6
      clear hcl hk6
      cases cl with
      | true =>
        go_wp2_with fail
        refine ret_set w.heap.size _ _ ⟨#[]⟩ none 3 _ rfl rfl ?_ ?_
        · exact heap_setCell_same _ _ 1 _ _ _ (heap_setCell_same _ _ 0 _ _ _ hr6)
        · refine ⟨?_, .inr (.inr (.inl ⟨ht, unhide Hes, unhide Hcl, rfl⟩))⟩
          exact ⟨hbw6.os, hbw6.tape, hbw6.output, by simp [hbw6.size], fun b hb => (Below.heap_setCell _ _ _ _ (by show b ≠ w.heap.size; omega)).trans ((Below.heap_setCell _ _ _ _ (by show b ≠ w.heap.size; omega)).trans (hbw6.block b hb))⟩
      | false =>
        generalize hRt : bs (P.digest (blobP l 6 [])) = Rt at *
        have HRt := hide hRt
        clear hRt
        go_wp2_with fail
        refine ret_set w.heap.size _ _ Rt (some w2.heap.size) 0 _ rfl rfl ?_ ?_
        · exact heap_setCell_same _ _ 1 _ _ _ (heap_setCell_same _ _ 0 _ _ _ hr6)
        · refine ⟨?_, .inr (.inr (.inr ⟨ht, unhide Hes, unhide Hcl, w2.heap.size, n6, hn6, by omega, by rw [unhide HRt], (unhide Hk6).m.same ?_⟩))⟩
          · exact ⟨hbw6.os, hbw6.tape, hbw6.output, by simp [hbw6.size], fun b hb => (Below.heap_setCell _ _ _ _ (by show b ≠ w.heap.size; omega)).trans ((Below.heap_setCell _ _ _ _ (by show b ≠ w.heap.size; omega)).trans (hbw6.block b hb))⟩
          · exact (Below.heap_setCell _ _ _ _ (by show w2.heap.size ≠ w.heap.size; omega)).trans (Below.heap_setCell _ _ _ _ (by show w2.heap.size ≠ w.heap.size; omega))
end Go.Proofs.YtjmacegibchplaaGreatDoor
