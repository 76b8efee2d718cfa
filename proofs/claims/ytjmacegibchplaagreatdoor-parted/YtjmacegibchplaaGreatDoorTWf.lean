/-
  The program's Walk, for any visitor.
-/
import Derived.Test.YtjmacegibchplaaGreatDoorTWe
namespace Go.Proofs.YtjmacegibchplaaGreatDoor
open Go.RowKit
set_option linter.unusedVariables false
theorem enCells_one1 (y : En) : ∀ u ∈ enCells y, u.oneCell' = true := fun u hu => enCells_one [y] u (by simpa [rowCells] using hu)
theorem inDir_take (l : List En) (k : Nat) (h : k < l.length) (d : List UInt8) (hd : upPath l[k].path.data.toList = d) : updG (inDir (l.take k)) d l[k] = inDir (l.take (k + 1)) := by
  rw [List.take_succ_eq_append_getElem h, inDir_snoc, hd]
  rfl
theorem grown_ad (w : World) (o : Obj) (row : Option Nat) : w.grownBy (w.alloc o).drew row := by
  have h := World.grownBy_alloc w o row
  exact ⟨h.os, h.tape, h.output, h.size, h.block⟩
theorem cell_grown {w w' : World} {row : Option Nat} {b j : Nat} {u : Value} (hg : w.grownBy w' row) (h : w.cell? ⟨b, j, none⟩ = some u) (hne : some b ≠ row) : w'.cell? ⟨b, j, none⟩ = some u := by
  have hl : b < w.heap.size := World.block_lt_of_cell? _ _ h
  exact (World.cell?_of_block (a := ⟨b, j, none⟩) (hg.block b hl hne)).trans h
set_option maxRecDepth 100000 in
set_option maxHeartbeats 4000000 in
theorem walk_any (l : List En) (ht : Tree l) (hf : TFit l) (a : Option Addr) (c : Nat) (k : Nat) (cap : Array Value) (I : (Nat → Prop) → List Nat → World → Prop) (V : Visitor l k cap I) (w : World) (hi : LiesE w a l) (Own : Nat → Prop) (hI : I Own [] w) :
    Calls Tryz.prog 100 #[.slice a l.length c, .func (.func k) #[] cap] w fun e w' => e = .returned (.tuple #[]) ∧ ∃ Own', I Own' (walkP l 6 []) w' ∧ VisK Own Own' w w' := by
  have hmm := @run_makeMap Tryz.prog
  have hl40 := ht.len
  obtain ⟨i0, hi0, hz0, hz1, hz2⟩ := info_parts info_ent
  have hlt0 := V.lt Own [] w hI
  go_enter Tryz.func100, Tryz.ntmps100
  go_wp2_with fail
  clear hmm
  go_loopw [13] (fun i wr => ∃ j : Nat, j ≤ l.length ∧ i = .int .i64 j ∧ Below w.heap.size w wr ∧ wr.heap[w.heap.size]? = some (.cells #[.func (.func k) #[] cap] 149 (0, 0)) ∧ wr.heap[w.heap.size + 2]? = some (.cells #[.map (some (w.heap.size + 1))] 193 (0, 0)) ∧ ∃ F, Grp 32 3 enCells wr w.heap.size (w.heap.size + 1) j (fun b => w.heap.size ≤ b) F (inDir (l.take j))) (fun i _ => l.length - (intOf i).toNat)
  case atStart =>
    refine ⟨0, Nat.zero_le _, rfl, (((Below.refl _ _).alloc (Nat.le_refl _) _).alloc (by simp) _).alloc (by simp; omega) _, ?_, ?_, fun _ => none, ?_⟩
    · rw [Below.heap_alloc _ _ _ (by simp; omega), Below.heap_alloc _ _ _ (by simp)]; exact heap_alloc_new w _
    · have h2 := heap_alloc_new ((w.alloc (.cells #[.func (.func k) #[] cap] 149)).alloc (.map #[] 0)) (.cells #[.map (some (w.heap.size + 1))] 193)
      rw [show ((w.alloc (.cells #[.func (.func k) #[] cap] 149)).alloc (.map #[] 0)).heap.size = w.heap.size + 2 by simp] at h2
      exact h2
    · have h0 := Grp.made (α := En) 32 3 enCells (w.alloc (.cells #[.func (.func k) #[] cap] 149)) w.heap.size (fun b => w.heap.size ≤ b) (by simp)
      rw [show (w.alloc (.cells #[.func (.func k) #[] cap] 149)).heap.size = w.heap.size + 1 by simp] at h0
      exact h0.kept (fun b _ hbl => Below.heap_alloc _ _ _ hbl)
  case round =>
    obtain ⟨j, hj, rfl, hb, hcv, hci, F, hgrp⟩ := hrel
    by_cases hlt : j < l.length
    · obtain ⟨b, o, rfl, i1⟩ : ∃ b o, a = some ⟨b, o, none⟩ ∧ EntsAt wr b o l := by
        rcases hi.below hb (Nat.le_refl _) with h | h
        · subst h; simp at hlt
        · exact h
      obtain ⟨c0, c1, c2⟩ := i1 j hlt
      have hfk := hf j hlt
      have hup := inDir_take l j hlt
      obtain ⟨x, hx⟩ : ∃ x, l[j] = x := ⟨_, rfl⟩
      rw [hx] at c0 c1 c2 hfk hup
      clear hx i1
      obtain ⟨pa, kd, dt⟩ := x
      obtain ⟨p, rfl⟩ : ∃ p, pa = bs p := ⟨pa.data.toList, (bs_of pa).symm⟩
      have hpl : p.length ≤ 1100000 := by have := hfk.1; simpa [bs_size] using this
      simp only [bs_data] at c0 c1 c2 hup
      have hsp := fun w' => tsplit p w' hpl
      have hul : (upPath p).length ≤ maxLen := by
        unfold upPath maxLen; rw [List.length_take]; omega
      have Hup := hide (hup (upPath p) rfl)
      have hlt' : (j : Int) < (l.length : Int) := by omega
      generalize upPath p = u at *
      generalize nameOf p = nn at *
      have hbelA : Below wr.heap.size wr (wr.alloc (.cells #[.string (bs p), .int .i64 kd, .string dt] 32)) := (Below.refl _ _).alloc (Nat.le_refl _) _
      have hcn : (wr.alloc (.cells #[.string (bs p), .int .i64 kd, .string dt] 32)).heap[wr.heap.size]? = some (.cells #[.string (bs p), .int .i64 kd, .string dt] 32 (0, 0)) := heap_alloc_new wr _
      have Hb := hide (And.intro hbelA hcn)
      clear hup hfk hbelA hcn
      go_wp2_with fail
      refine (hsp _).mono ?_
      rintro e w2 ⟨rfl, n2, hw2⟩
      have hb2 : Below wr.heap.size wr w2 := by rw [hw2]; exact below_drewN (unhide Hb).1 _
      have hcn2 : w2.heap[wr.heap.size]? = some (.cells #[.string (bs p), .int .i64 kd, .string dt] 32 (0, 0)) := by rw [hw2]; exact (unhide Hb).2
      clear hsp c0 c1 c2 hw2
      have hlc : w.heap.size + 2 < wr.heap.size := (Array.getElem?_eq_some_iff.1 hci).1
      have hci2 : w2.heap[w.heap.size + 2]? = some (.cells #[.map (some (w.heap.size + 1))] 193 (0, 0)) := (hb2.block _ hlc).trans hci
      have hcv2 : w2.heap[w.heap.size]? = some (.cells #[.func (.func k) #[] cap] 149 (0, 0)) := (hb2.block _ (by omega)).trans hcv
      have hgrp2 := hgrp.kept (w' := w2) (fun b _ hbl => hb2.block b hbl)
      have hat0 := hgrp.at u
      have hat := hgrp2.at u
      obtain ⟨v, hv⟩ : ∃ v, (F u).getD (.slice none 0 0) = v := ⟨_, rfl⟩
      have hlk : ∀ W : World, W.heap[w.heap.size + 1]? = w2.heap[w.heap.size + 1]? → (Instr.lookup 193 (.map (some (w.heap.size + 1))) (.string (bs u)) false).run Tryz.prog W = .ok v W := fun W hW => by
        have := (hgrp2.map.same hW).look 193 22 under82 (.slice none 0 0) (zero_ents _) u hul
        rw [hv] at this; exact this
      have hml : w.heap.size + 1 < w2.heap.size := hgrp2.map.lt
      have hlkA := hlk w2.drew rfl
      have hlkB := hlk ((w2.alloc (.cells #[.string (bs p), .int .i64 kd, .string dt] 32)).drew) (Below.heap_alloc w2 _ _ hml)
      have hput := fun (w4 : World) (v' : Value) hg ho hl => hgrp2.put (w1 := w4) 193 22 under82 (by unfold maxLen; omega) u hul ⟨bs p, kd, dt⟩ v' hg ho hl (fun b hbl => by show w.heap.size ≤ b; have := hb2.size; have := hb.size; omega)
      rw [hv] at hat hat0 hput
      have hgl : ∀ g, v.ownBlock = some g → g < wr.heap.size := fun g hg => own_lt hat0 hg
      have hlen : (inDir (l.take j) u).length ≤ 40 := by
        have := inDir_len (l.take j) u
        rw [List.length_take] at this
        omega
      have hownA : ((w2.alloc (.cells #[.string (bs p), .int .i64 kd, .string dt] 32)).drew).ownsRow w.heap.size 32 3 v (inDir (l.take j) u).length (rowCells enCells (inDir (l.take j) u)) := World.ownsRow.drew (World.ownsRow.alloc hat _)
      have hnew : ∀ q y, (enCells ⟨bs p, kd, dt⟩)[q]? = some y → ((w2.alloc (.cells #[.string (bs p), .int .i64 kd, .string dt] 32)).drew).cell? ((⟨w2.heap.size, 0, none⟩ : Addr).add q) = some y := by
        intro q y hq
        rw [add_off0]
        exact (cell_of_block (heap_alloc_new w2 _)).trans (by simpa [enCells] using hq)
      have e0 := cell_of_block (j := 0) hcn2
      have e1 := cell_of_block (j := 1) hcn2
      have e2 := cell_of_block (j := 2) hcn2
      have ci2 := cell_of_block (j := 0) hci2
      simp only [List.getElem?_toArray, List.getElem?_cons_zero, List.getElem?_cons_succ] at e0 e1 e2 ci2
      have hri := row_not_cell hat hci2 (by decide)
      have hrv := row_not_cell hat hcv2 (by decide)
      have hre : some wr.heap.size ≠ v.ownBlock := fun e => by have := hgl _ e.symm; omega
      have H := hide (And.intro hlk (And.intro hput (And.intro hownA (And.intro hnew (And.intro hgl (And.intro hci2 (And.intro hcv2 hcn2)))))))
      have hb0 : w.heap.size ≤ (w2.alloc (.cells #[.string (bs p), .int .i64 kd, .string dt] 32)).drew.heap.size := by have := hb.size; have := hb2.size; simp; omega
      have k3i := cell_of_block (j := 0) ((Below.heap_alloc w2 (.cells #[.string (bs p), .int .i64 kd, .string dt] 32) _ (by have := hb2.size; omega)).trans hci2)
      have k30 := cell_of_block (j := 0) ((Below.heap_alloc w2 (.cells #[.string (bs p), .int .i64 kd, .string dt] 32) _ (Array.getElem?_eq_some_iff.1 hcn2).1).trans hcn2)
      have k31 := cell_of_block (j := 1) ((Below.heap_alloc w2 (.cells #[.string (bs p), .int .i64 kd, .string dt] 32) _ (Array.getElem?_eq_some_iff.1 hcn2).1).trans hcn2)
      have k32 := cell_of_block (j := 2) ((Below.heap_alloc w2 (.cells #[.string (bs p), .int .i64 kd, .string dt] 32) _ (Array.getElem?_eq_some_iff.1 hcn2).1).trans hcn2)
      simp only [List.getElem?_toArray, List.getElem?_cons_zero, List.getElem?_cons_succ] at k3i k30 k31 k32
      have HK := hide (And.intro k3i (And.intro k30 (And.intro k31 k32)))
      clear hlk hput hgl hat hat0 k3i k30 k31 k32
      go_wp2_with fail
      go_region_held3 (fun w' => w'.cell? ⟨w.heap.size + 2, 0, none⟩ = some (.map (some (w.heap.size + 1))) ∧ w'.cell? ⟨wr.heap.size, 0, none⟩ = some (.string (bs p)) ∧ w'.cell? ⟨wr.heap.size, 1, none⟩ = some (.int .i64 kd) ∧ w'.cell? ⟨wr.heap.size, 2, none⟩ = some (.string dt))
        ((first | exact ⟨by assumption, by assumption, by assumption, by assumption⟩ | go_keep))
        ((refine step_app (enc := enCells) (bytes := 40) rfl (.tmp 27) (.tmp 29) 22 rfl i0 _ under22 hi0 hz0 hz1 hz2 rfl (by decide) enCells_len enCells_one1 w.heap.size v (inDir (l.take j) u) rfl hownA ⟨w2.heap.size, 0, none⟩ ⟨bs p, kd, dt⟩ rfl hnew (by unfold maxLen; omega) (by omega) hb0 ?_; intro v' w4 ho4 hg4 hl4;
          have s4i := cell_grown hg4 (unhide HK).1 hri;
          have s40 := cell_grown hg4 (unhide HK).2.1 hre;
          have s41 := cell_grown hg4 (unhide HK).2.2.1 hre;
          have s42 := cell_grown hg4 (unhide HK).2.2.2 hre;
          obtain ⟨w5, hrun5, hgrp5, hg5⟩ := (unhide H).2.1 w4 v' ((grown_ad _ _ _).trans hg4) ho4 (hl4.imp id (fun h => ⟨_, h, by simp⟩));
          have s5i := cell_grown hg5 s4i (by simp);
          have s50 := cell_grown hg5 s40 (by simp; omega);
          have s51 := cell_grown hg5 s41 (by simp; omega);
          have s52 := cell_grown hg5 s42 (by simp; omega)))
      all_goals go_wp2_with fail
      all_goals go_roundw
      all_goals first
        | (simp [intOf]; omega)
        | skip
      all_goals
        obtain ⟨_, _, _, _, hgl, hci2, hcv2, hcn2⟩ := unhide H
        have hgA : w2.grownBy w4 v.ownBlock := (grown_ad w2 (.cells #[.string (bs p), .int .i64 kd, .string dt] 32) v.ownBlock).trans hg4
        have hw2l := hb2.size
        have hbk : ∀ b, b < w2.heap.size → some b ≠ v.ownBlock → some b ≠ some (w.heap.size + 1) → w5.heap[b]? = w2.heap[b]? := fun b h1 h2 h3 => (hg5.block b (Nat.lt_of_lt_of_le h1 hgA.size) h3).trans (hgA.block b h1 h2)
        have hb5 : Below w.heap.size w w5 := by
          have hbw : Below w.heap.size w w2 := hb.trans (hb2.mono hb.size)
          refine ⟨(hg5.os.trans hgA.os).trans hbw.os, (hg5.tape.trans hgA.tape).trans hbw.tape, (hg5.output.trans hgA.output).trans hbw.output, Nat.le_trans hbw.size (Nat.le_trans hgA.size hg5.size), fun b hbl => ?_⟩
          refine (hbk b (Nat.lt_of_lt_of_le hbl hbw.size) (fun e => ?_) (by simp; omega)).trans (hbw.block b hbl)
          have := World.ownsRow.lt hownA b e.symm
          omega
        refine ⟨j + 1, by omega, by go_num, hb5, (hbk _ (by omega) hrv (by simp)).trans hcv2, (hbk _ (by omega) hri (by simp)).trans hci2, updF F u v', ?_⟩
        rw [← unhide Hup]
        exact hgrp5
    · obtain rfl : j = l.length := by omega
      rw [List.take_length] at hgrp
      have hmf : ∀ (fn : Fn) (first cap : Array Value) (w : World), (Instr.makeFunc fn first cap).run Tryz.prog w = .ok (.func fn first cap) w := fun _ _ _ _ => rfl
      have hsf : ∀ (a : Addr) (fn : Fn) (x y : Array Value) (m : Mode) (w : World), (store a (.func fn x y) m).run Tryz.prog w = stored Tryz.prog w a (.func fn x y) m := fun a fn x y m w => run_store Tryz.prog w a _ m rfl
      have e56 : ∀ args w, (callFunc 148 args).run Tryz.prog w = .ok (.enter 148 args) w := enters_of Tryz.func148 (by kernel_rfl) rfl
      have hlc : w.heap.size + 2 < wr.heap.size := (Array.getElem?_eq_some_iff.1 hci).1
      have hwalk : Wlk l k cap w.heap.size (wr.heap.size + 1) (w.heap.size + 2) wr.heap.size w.heap.size (w.heap.size + 1) l.length F (wr.alloc (.cells #[.func (.func 148) #[] #[ptr (w.heap.size + 2), ptr wr.heap.size, ptr w.heap.size]] 142)) (inDir l) :=
        ⟨(Below.heap_alloc wr _ _ hlc).trans hci, heap_alloc_new wr _, (Below.heap_alloc wr _ _ (by omega)).trans hcv, ⟨by omega, by omega⟩, ⟨by omega, by omega⟩, ⟨by omega, by omega⟩, by simp,
          (hgrp.own (Own' := fun b => w.heap.size ≤ b ∧ b < wr.heap.size + 1) (fun b h1 h2 => ⟨h1, by omega⟩)).kept (fun b _ hbl => Below.heap_alloc wr _ _ hbl), fun d => List.Perm.refl _⟩
      have hba : Below w.heap.size w (wr.alloc (.cells #[.func (.func 148) #[] #[ptr (w.heap.size + 2), ptr wr.heap.size, ptr w.heap.size]] 142)) := hb.alloc hb.size _
      have hIa := V.stable Own [] _ _ hI ⟨hba.os, hba.tape, hba.output, hba.size, fun b h => hba.block b (hlt0 b h)⟩
      have hthr := through_any l ht (fun i h => by unfold pathAt; rw [en_getD l i h]; have := (hf i h).1; simpa using this) k cap w.heap.size (wr.heap.size + 1) (w.heap.size + 2) wr.heap.size w.heap.size (w.heap.size + 1) l.length F I V 6 [] [] _ (inDir l) Own (by decide) (by decide) (by simp) (by decide) (by simp) hwalk hIa (fun b h1 _ h3 => by have := hlt0 b h3; omega)
      have hbs : bs [] = ⟨#[]⟩ := rfl
      rw [hbs] at hthr
      have Hba := hide hba
      clear hwalk hIa hba hgrp
      unfold ptr at hthr
      go_wp2_with fail
      refine hthr.mono ?_
      rintro e w5 ⟨rfl, h5⟩
      clear hthr
      have H5 := hide h5
      clear h5
      go_wp2_with fail
      go_end0
      obtain ⟨Own', G', hI5, _, _, hT5⟩ := unhide H5
      refine ⟨rfl, Own', by simpa using hI5, ⟨Nat.le_trans (unhide Hba).size hT5.size, fun b h1 h2 => (hT5.block b (Nat.lt_of_lt_of_le h1 (unhide Hba).size) h2 (fun h => by omega)).trans ((unhide Hba).block b h1), fun b h => (hT5.own b h).imp id (fun h => Nat.le_trans (unhide Hba).size h)⟩⟩
end Go.Proofs.YtjmacegibchplaaGreatDoor
