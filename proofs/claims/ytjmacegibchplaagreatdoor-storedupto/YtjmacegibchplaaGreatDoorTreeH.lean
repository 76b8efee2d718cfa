import Derived.Test.YtjmacegibchplaaGreatDoorUplP
import Derived.Test.YtjmacegibchplaaGreatDoorOfA
import Derived.Test.YtjmacegibchplaaGreatDoorTreeF
import Derived.OwnWalk
/-
  The program's store: what it holds in memory; New, has, lay, drop.
-/
namespace Go.Proofs.YtjmacegibchplaaGreatDoor
open Go.RowKit Go.Maps Go.WideMaps
set_option linter.unusedVariables false
def Keyd (st : List (List UInt8 × List UInt8)) : Prop := (st.map (·.1)).Nodup
theorem at_none_iff : ∀ (st : List (List UInt8 × List UInt8)) (d : List UInt8), atP st d = none ↔ d ∉ st.map (·.1)
  | [], d => by simp [atP]
  | (k, b) :: r, d => by
    simp only [atP, List.map_cons, List.mem_cons, not_or]
    by_cases h : k = d
    · simp [h]
    · rw [if_neg h, at_none_iff r d]
      exact ⟨fun h2 => ⟨fun e => h e.symm, h2⟩, fun h2 => h2.2⟩
theorem at_filter : ∀ (st : List (List UInt8 × List UInt8)) (d x : List UInt8), atP (st.filter (fun p => !(p.1 == d))) x = if x = d then none else atP st x
  | [], d, x => by simp [atP]
  | (k, b) :: r, d, x => by
    have ih := at_filter r d x
    by_cases h : k = d
    · rw [List.filter_cons_of_neg (by simpa using h), ih]
      split
      · rfl
      · rename_i hx
        simp only [atP]
        rw [if_neg (fun e => hx (by rw [← e, h]))]
    · rw [List.filter_cons_of_pos (by simpa using h)]
      simp only [atP]
      by_cases hx : k = x
      · rw [if_pos hx, if_neg (fun e => h (by rw [hx, e])), if_pos hx]
      · rw [if_neg hx, ih, if_neg hx]
theorem sum_filter : ∀ (st : List (List UInt8 × List UInt8)) (d : List UInt8), Keyd st → sumP (st.filter (fun p => !(p.1 == d))) + ((atP st d).getD []).length = sumP st
  | [], d, _ => by simp [sumP, atP]
  | (k, b) :: r, d, hk => by
    have hk2 : k ∉ r.map (·.1) ∧ Keyd r := by unfold Keyd at hk ⊢; rw [List.map_cons, List.nodup_cons] at hk; exact hk
    have ih := sum_filter r d hk2.2
    by_cases h : k = d
    · rw [List.filter_cons_of_neg (by simpa using h)]
      have hn : atP r d = none := (at_none_iff r d).2 (by rw [← h]; exact hk2.1)
      rw [hn] at ih
      simp only [atP, sumP, if_pos h, Option.getD_some]
      simp only [Option.getD_none, List.length_nil] at ih
      omega
    · rw [List.filter_cons_of_pos (by simpa using h)]
      simp only [atP, sumP, if_neg h]
      omega
theorem keyd_filter {st : List (List UInt8 × List UInt8)} (h : Keyd st) (q : List UInt8 × List UInt8 → Bool) : Keyd (st.filter q) :=
  List.Nodup.sublist (List.Sublist.map _ List.filter_sublist) h
theorem keyd_app {st : List (List UInt8 × List UInt8)} (h : Keyd st) {d b : List UInt8} (hn : atP st d = none) : Keyd (st ++ [(d, b)]) := by
  unfold Keyd at *
  rw [List.map_append, List.nodup_append]
  refine ⟨h, by simp, ?_⟩
  intro x hx y hy
  simp at hy
  subst hy
  intro e
  exact (at_none_iff st y).1 hn (by rw [← e]; exact hx)
def storeF (st : List (List UInt8 × List UInt8)) : List UInt8 → Option Value := fun d => (atP st d).map blobV
theorem storeF_app (st : List (List UInt8 × List UInt8)) (d b : List UInt8) (hn : atP st d = none) : updF (storeF st) d (blobV b) = storeF (st ++ [(d, b)]) := by
  funext x
  unfold updF storeF
  rw [atP_app]
  by_cases h : x = d
  · rw [if_pos h, h, hn]; simp
  · rw [if_neg h]
    cases hx : atP st x with
    | none => rw [if_neg (by simp), if_neg (fun e => h e.symm)]
    | some y => simp
def dropF (f : List UInt8 → Option Value) (k : List UInt8) : List UInt8 → Option Value := fun x => if x = k then none else f x
theorem storeF_drop (st : List (List UInt8 × List UInt8)) (d : List UInt8) : dropF (storeF st) d = storeF (st.filter (fun p => !(p.1 == d))) := by
  funext x
  unfold dropF storeF
  rw [at_filter]
  split <;> rfl
theorem MapIs.of_del {w : World} {b n : Nat} {f : List UInt8 → Option Value} {D : DataW Value} (hf : ∀ k, Maps.has D (.string k) = (f k).isSome ∧ ∀ v, f k = some v → ∀ z, D.atKey (.string k) z = .held v) (k : List UInt8) (h : w.ownsMap Tryz.prog 9 rawElem b n (D.del (.string k))) : MapIs w b n (dropF f k) := by
  refine ⟨_, h, fun x => ?_⟩
  unfold dropF
  by_cases hx : x = k
  · subst hx
    rw [if_pos rfl]
    exact ⟨has_del_same, fun u hu => by simp at hu⟩
  · rw [if_neg hx]
    have hne : (Lit.string x) ≠ (Lit.string k) := by simpa using hx
    exact ⟨by rw [has_del_other hne]; exact (hf x).1, fun u hu z => by rw [atKey_del_other hne]; exact (hf x).2 u hu z⟩
structure PStore (w : World) (pb um n : Nat) (room : Int) (st : List (List UInt8 × List UInt8)) : Prop where
  s : w.heap[pb]? = some (.cells #[.int .i64 room, .int .i64 (sumP st : Int), .map (some um)] 128 (0, 0))
  m : MapIs w um n (storeF st)
  k : Keyd st
theorem PStore.same {w w' : World} {pb um n : Nat} {room : Int} {st : List (List UInt8 × List UInt8)} (h : PStore w pb um n room st) (hs : ∀ b, b = pb ∨ b = um → w'.heap[b]? = w.heap[b]?) : PStore w' pb um n room st :=
  ⟨(hs pb (.inl rfl)).trans h.s, h.m.same (hs um (.inr rfl)), h.k⟩
theorem PStore.lt {w : World} {pb um n : Nat} {room : Int} {st : List (List UInt8 × List UInt8)} (h : PStore w pb um n room st) : ∀ b, b = pb ∨ b = um → b < w.heap.size := by
  rintro b (rfl | rfl)
  · exact (Array.getElem?_eq_some_iff.1 h.s).1
  · exact h.m.lt
theorem PStore.ne {w : World} {pb um n : Nat} {room : Int} {st : List (List UInt8 × List UInt8)} (h : PStore w pb um n room st) : pb ≠ um := map_ne_cells h.m h.s
theorem PStore.below {w w' : World} {pb um n B : Nat} {room : Int} {st : List (List UInt8 × List UInt8)} (h : PStore w pb um n room st) (hb : Below B w w') (hB : w.heap.size ≤ B) : PStore w' pb um n room st :=
  h.same (fun b hbb => hb.block b (Nat.lt_of_lt_of_le (h.lt b hbb) hB))
theorem PStore.fr {w w' : World} {S : Nat → Prop} {pb um n : Nat} {room : Int} {st : List (List UInt8 × List UInt8)} (h : PStore w pb um n room st) (hf : Fr S w w') (h1 : ¬ S pb) (h2 : ¬ S um) : PStore w' pb um n room st :=
  h.same (fun b hbb => hf.block b (h.lt b hbb) (by rcases hbb with rfl | rfl <;> assumption))
theorem PStore.c0 {w : World} {pb um n : Nat} {room : Int} {st : List (List UInt8 × List UInt8)} (h : PStore w pb um n room st) : w.cell? ⟨pb, 0, none⟩ = some (.int .i64 room) := cell_of_block h.s
theorem PStore.c1 {w : World} {pb um n : Nat} {room : Int} {st : List (List UInt8 × List UInt8)} (h : PStore w pb um n room st) : w.cell? ⟨pb, 1, none⟩ = some (.int .i64 (sumP st : Int)) := cell_of_block h.s
theorem PStore.c2 {w : World} {pb um n : Nat} {room : Int} {st : List (List UInt8 × List UInt8)} (h : PStore w pb um n room st) : w.cell? ⟨pb, 2, none⟩ = some (.map (some um)) := cell_of_block h.s
theorem under126 : Tryz.prog.underlying 126 = some (.map 9 190) := by kernel_rfl
theorem zero_sblob (w : World) : (zeroValue 190).run Tryz.prog w = .ok (.agg #[.string ⟨#[]⟩]) w := by kernel_rfl
theorem field_sblob (s : ByteArray) (w : World) : (Instr.field 190 (.agg #[.string s]) 0).run Tryz.prog w = .ok (.string s) w := by kernel_rfl
theorem storeNew_no (room : Int) (w : World) (h : room < 0 ∨ 100000 < room) :
    Calls Tryz.prog 54 #[.int .i64 room] w fun e w' => e = .returned (.tuple #[.pointer none, .int .i64 5]) ∧ w' = w := by
  have hw := within_any room 0 100000 w (by decide)
  have hP : P.within room 0 100000 = false := by unfold P.within; simp; omega
  rw [hP] at hw
  go_enter Tryz.func54, Tryz.ntmps54
  go_wp2_with (go_at_call 86; refine hw.mono ?_; rintro e w' ⟨rfl, hw'⟩; rw [hw']; clear hw' w')
  go_ret2
  exact ⟨rfl, rfl⟩
theorem storeNew_ok (room : Int) (w : World) (h0 : 0 ≤ room) (h1 : room ≤ 100000) :
    Calls Tryz.prog 54 #[.int .i64 room] w fun e w' => e = .returned (.tuple #[.pointer (some ⟨w.heap.size + 1, 0, none⟩), .int .i64 0]) ∧ PStore w' (w.heap.size + 1) w.heap.size 0 room [] ∧ Below w.heap.size w w' := by
  have hw := within_any room 0 100000 w (by decide)
  have hP : P.within room 0 100000 = true := by unfold P.within; simp; omega
  rw [hP] at hw
  have hmm := @run_makeMap Tryz.prog
  go_enter Tryz.func54, Tryz.ntmps54
  go_wp2_with (go_at_call 86; refine hw.mono ?_; rintro e w' ⟨rfl, hw'⟩; rw [hw']; clear hw' w')
  go_ret2
  have hm := (MapIs.made w).alloc (.cells #[.int .i64 room, .int .i64 0, .map (some w.heap.size)] 128)
  refine ⟨by simp, ⟨?_, hm, List.nodup_nil⟩, ((Below.refl _ _).alloc (Nat.le_refl _) _).alloc (by simp) _⟩
  have hb := heap_alloc_new (w.alloc (.map #[] 0)) (.cells #[.int .i64 room, .int .i64 0, .map (some w.heap.size)] 128)
  rw [show (w.alloc (.map #[] 0)).heap.size = w.heap.size + 1 by simp] at hb
  exact hb
set_option maxRecDepth 100000 in
set_option maxHeartbeats 1000000 in
theorem has_any (st : List (List UInt8 × List UInt8)) (pb um n : Nat) (room : Int) (d : List UInt8) (w : World) (h : PStore w pb um n room st) (hd : d.length ≤ maxLen) :
    Calls Tryz.prog 97 #[.pointer (some ⟨pb, 0, none⟩), .string (bs d)] w fun e w' => e = .returned (.bool (atP st d).isSome) ∧ Below w.heap.size w w' := by
  have c2 := h.c2
  have hm := h.m
  have hF : storeF st d = (atP st d).map blobV := rfl
  cases ha : atP st d with
  | none =>
    rw [ha] at hF
    clear h ha
    go_enter Tryz.func97, Tryz.ntmps97
    go_wp2_with (at_lookup; refine wp_look_ok rfl _ _ 126 rfl 190 under126 (.agg #[.string ⟨#[]⟩]) (zero_sblob _) um n (storeF st) rfl hm d rfl hd ?_; rw [hF]; simp only [Option.map_none, Option.getD_none, Option.isSome_none])
    go_ret
    exact ⟨rfl, (Below.refl _ _).alloc (Nat.le_refl _) _⟩
  | some y =>
    rw [ha] at hF
    clear h ha
    go_enter Tryz.func97, Tryz.ntmps97
    go_wp2_with (at_lookup; refine wp_look_ok rfl _ _ 126 rfl 190 under126 (.agg #[.string ⟨#[]⟩]) (zero_sblob _) um n (storeF st) rfl hm d rfl hd ?_; rw [hF]; simp only [Option.map_some, Option.getD_some, Option.isSome_some, blobV])
    go_ret
    exact ⟨rfl, (Below.refl _ _).alloc (Nat.le_refl _) _⟩
end Go.Proofs.YtjmacegibchplaaGreatDoor

/-
  The program's store: lay, drop.
-/
namespace Go.Proofs.YtjmacegibchplaaGreatDoor
open Go.RowKit Go.Maps Go.WideMaps
set_option linter.unusedVariables false
theorem MapIs.more {w : World} {b n m : Nat} {f : List UInt8 → Option Value} (h : MapIs w b n f) (hnm : n ≤ m) : MapIs w b m f := by
  obtain ⟨D, ⟨es, clock, hb, F, hs, hD⟩, hf⟩ := h
  exact ⟨D, ⟨es, clock, hb, F, Nat.le_trans hs hnm, hD⟩, hf⟩
theorem PStore.more {w : World} {pb um n m : Nat} {room : Int} {st : List (List UInt8 × List UInt8)} (h : PStore w pb um n room st) (hnm : n ≤ m) : PStore w pb um m room st := ⟨h.s, h.m.more hnm, h.k⟩
theorem storeF_getD (st : List (List UInt8 × List UInt8)) (d : List UInt8) : (storeF st d).getD (.agg #[.string ⟨#[]⟩]) = .agg #[.string (bs ((atP st d).getD []))] := by
  unfold storeF
  cases atP st d <;> rfl
set_option maxRecDepth 100000 in
set_option maxHeartbeats 2000000 in
theorem lay_any (st : List (List UInt8 × List UInt8)) (pb um n : Nat) (room : Int) (d b : List UInt8) (w : World) (h : PStore w pb um n room st) (hd : d.length ≤ 10000000) (hb : b.length ≤ 10000000) (hn : n < maxLen) (hsum : sumP st ≤ 1000000000000) (hno : atP st d = none) :
    Calls Tryz.prog 96 #[.pointer (some ⟨pb, 0, none⟩), .string (bs d), .string (bs b)] w fun e w' => e = .returned (.tuple #[]) ∧ PStore w' pb um (n + 1) room (st ++ [(d, b)]) ∧ Fr (fun x => x = pb ∨ x = um) w w' := by
  have hcd := fun w' => clone3 d w' hd
  have hcb := fun w' => clone3 b w' hb
  have c2 := h.c2
  have hlp := h.lt pb (.inl rfl)
  have hlm := h.lt um (.inr rfl)
  have hne := h.ne
  have hdm : d.length ≤ maxLen := by unfold maxLen; omega
  have hbz := bs_size b
  have H := hide h
  have HF := hide (storeF_app st d b hno)
  have HS := hide (sumP_app st d b)
  have HK := hide (keyd_app (b := b) h.k hno)
  have Hs := hide h.s
  clear h hno
  generalize sumP st = sm at *
  go_enter Tryz.func96, Tryz.ntmps96
  go_wp2_with fail
  go_region_held3 (fun w' => w'.cell? ⟨pb, 2, none⟩ = some (.map (some um)))
    ((first | assumption | go_keep))
    ((first
      | (go_at_call 66; refine (hcd _).mono ?_; rintro e w4 ⟨rfl, hb4⟩;
         have s4 := ((bcell hb4).1 pb 2 (by simpa using hlp)).trans c2)
      | (go_at_call 66; refine (hcb _).mono ?_; rintro e w5 ⟨rfl, hb5⟩;
         have s5 := ((bcell hb5).1 pb 2 (Nat.lt_of_lt_of_le hlp (by simpa using hb4.size))).trans s4;
         obtain ⟨w6, hrun6, hm6, hg6⟩ := MapIs.store (MapIs.same (w' := w5) (unhide H).m ((hb5.block um (Nat.lt_of_lt_of_le hlm (by simpa using hb4.size))).trans (hb4.block um hlm))) 126 190 under126 hn d hdm (.agg #[.string (bs b)]);
         have s6 := cell_grown hg6 s5 (by simpa using hne))))
  all_goals
    have hz4 : w.heap.size ≤ w4.heap.size := by simpa using hb4.size
    have hz5 : w4.heap.size ≤ w5.heap.size := hb5.size
    have hp5 : w5.heap[pb]? = _ := (hb5.block pb (Nat.lt_of_lt_of_le hlp hz4)).trans ((hb4.block pb hlp).trans (unhide Hs))
    have hp6 : w6.heap[pb]? = _ := (hg6.block pb (Nat.lt_of_lt_of_le hlp (Nat.le_trans hz4 hz5)) (by simpa using hne)).trans hp5
    have k1 := cell_of_block (j := 1) hp6
    have f1 := free_block (j := 1) hp6
    simp only [List.getElem?_toArray, List.getElem?_cons_zero, List.getElem?_cons_succ] at k1
    have Hb := hide (And.intro hb4 (And.intro hb5 (And.intro hg6 (And.intro hp6 hm6))))
    clear hb4 hb5 hg6 hp5 hp6 hm6 s4 s5
  all_goals go_wp2_with fail
  all_goals go_end0
  all_goals
    obtain ⟨hb4, hb5, hg6, hp6, hm6⟩ := unhide Hb
    have hs7 := heap_setCell_same w6 pb 1 _ _ (.int .i64 ((sm : Int) + (b.length : Int))) hp6
    refine ⟨rfl, ⟨?_, ?_, unhide HK⟩, ?_⟩
    · rw [unhide HS]
      exact hs7
    · rw [← unhide HF]
      exact hm6.same (Below.heap_setCell _ _ _ _ (Ne.symm hne))
    · have h4 : Fr (fun x => x = pb ∨ x = um) w w4 := ⟨hb4.os, hb4.tape, hb4.output, by simpa using hb4.size, fun x hx _ => hb4.block x (by simpa using hx)⟩
      have h5 : Fr (fun x => x = pb ∨ x = um) w4 w5 := Fr.below hb5
      exact h4.trans (h5.trans ((Fr.grown hg6 (fun g hg => by cases hg; exact Or.inr rfl)).trans (Fr.set _ _ _ _ (Or.inl rfl))))
set_option maxRecDepth 100000 in
set_option maxHeartbeats 2000000 in
theorem drop_any (st : List (List UInt8 × List UInt8)) (pb um n : Nat) (room : Int) (d : List UInt8) (w : World) (h : PStore w pb um n room st) (hd : d.length ≤ 10000000) (hsum : sumP st ≤ 1000000000000) :
    Calls Tryz.prog 95 #[.pointer (some ⟨pb, 0, none⟩), .string (bs d)] w fun e w' => e = .returned (.tuple #[]) ∧ PStore w' pb um n room (st.filter (fun p => !(p.1 == d))) ∧ Fr (fun x => x = pb ∨ x = um) w w' := by
  have c1 := h.c1
  have c2 := h.c2
  have f1 := free_block (j := 1) h.s
  have hlp := h.lt pb (.inl rfl)
  have hlm := h.lt um (.inr rfl)
  have hne := h.ne
  have hdm : d.length ≤ maxLen := by unfold maxLen; omega
  have hlk := MapIs.look (w := w.drew) h.m.drew 126 190 under126 (.agg #[.string ⟨#[]⟩]) (zero_sblob _) d hdm
  rw [storeF_getD] at hlk
  have hfd := field_sblob
  have hsf := sum_filter st d h.k
  have HK := hide (keyd_filter h.k (fun p => !(p.1 == d)))
  have Hs := hide h.s
  have HD := hide (storeF_drop st d)
  have hbz := bs_size ((atP st d).getD [])
  obtain ⟨D, hown, hf⟩ := h.m
  clear h
  generalize hY : (atP st d).getD [] = y at *
  generalize hS : sumP st = sm at *
  generalize hG : sumP (st.filter (fun p => !(p.1 == d))) = sg at *
  have Hf := hide hf
  clear hf hS hY
  have hsub : (sm : Int) - (y.length : Int) = (sg : Int) := by omega
  have q1 : y.length ≤ sm := by omega
  go_enter Tryz.func95, Tryz.ntmps95
  go_wp2_with fail
  go_region
  have hp7 : ((w.setCell ⟨pb, 1, none⟩ (.int .i64 (sg : Int))).drew).heap[pb]? = some (.cells #[.int .i64 room, .int .i64 (sg : Int), .map (some um)] 128 (0, 0)) := heap_setCell_same w pb 1 _ _ (.int .i64 (sg : Int)) (unhide Hs)
  have hown7 : ((w.setCell ⟨pb, 1, none⟩ (.int .i64 (sg : Int))).drew).ownsMap Tryz.prog 9 rawElem um n D := by
    obtain ⟨es, clock, hb, F, hs, hD⟩ := hown
    exact ⟨es, clock, (Below.heap_setCell _ _ _ _ (Ne.symm hne)).trans hb, F, hs, hD⟩
  have k2 := cell_of_block (j := 2) hp7
  simp only [List.getElem?_toArray, List.getElem?_cons_zero, List.getElem?_cons_succ] at k2
  have HP := hide hp7
  clear hp7 hown hlk
  go_wp2_with (at_delete; refine wpList_delete_own _ rfl _ _ 126 9 rfl 190 strKeyed under126 _ um n D rfl hown7 _ _ rfl (key_bs d hdm) ?_; intro w1 hown1 hturn1)
  go_end0
  have hg1 := hturn1.grown
  refine ⟨rfl, ⟨?_, ?_, unhide HK⟩, ?_⟩
  · rw [hG]
    exact (hg1.block pb (by simpa using hlp) (by simpa using hne)).trans (unhide HP)
  · rw [← unhide HD]
    exact MapIs.of_del (unhide Hf) d hown1
  · have h0 : Fr (fun x => x = pb ∨ x = um) w (w.setCell ⟨pb, 1, none⟩ (.int .i64 (sg : Int))) := Fr.set _ _ _ _ (Or.inl rfl)
    have h1 : Fr (fun x => x = pb ∨ x = um) w ((w.setCell ⟨pb, 1, none⟩ (.int .i64 (sg : Int))).drew) := ⟨h0.os, h0.tape, h0.output, h0.size, h0.block⟩
    exact h1.trans (Fr.grown hg1 (fun g hg => by cases hg; exact Or.inr rfl))
end Go.Proofs.YtjmacegibchplaaGreatDoor

/-
  The document's Build: its contract.
-/
namespace Go.Proofs.YtjmacegibchplaaGreatDoor
open Go.RowKit
set_option linter.unusedVariables false
theorem tree_of (l : List En) (h : wrongP l = 0) : Tree l := by
  rw [wrongP_eq] at h
  split at h
  · simp at h
  · rename_i h40
    split at h
    · simp at h
    · rename_i ha
      refine ⟨by omega, fun i hi => ?_⟩
      have : (List.range l.length).all (fineP l) = true := by simpa using ha
      exact List.all_eq_true.1 this i (by simpa using hi)
def BuildEnd (l : List En) (base : Nat) (e : Ending) (w' : World) : Prop :=
  (wrongP l ≠ 0 ∧ e = .returned (.tuple #[.string ⟨#[]⟩, .slice none 0 0, .int .i64 (wrongP l)])) ∨
  (wrongP l = 0 ∧ builtP l = none ∧ e = .returned (.tuple #[.string ⟨#[]⟩, .slice none 0 0, .int .i64 3])) ∨
  ∃ out v, wrongP l = 0 ∧ builtP l = some out ∧ e = .returned (.tuple #[.string (bs (P.digest (blobP l 6 []))), v, .int .i64 0]) ∧ OwnsS w' base v out
set_option maxHeartbeats 1000000 in
theorem refBuild_any (l : List En) (a : Option Addr) (c : Nat) (w : World) (hl : l.length ≤ maxLen) (hi : LiesE w a l) (hf : TFit l) :
    Calls Tryz.prog 17 #[.slice a l.length c] w fun e w' => Below w.heap.size w w' ∧ BuildEnd l w.heap.size e w' := by
  go_enter Tryz.func17, Tryz.ntmps17
  go_wp2_with fail
  refine (wrong_any l a c w hl hi hf).mono ?_
  rintro e w1 ⟨rfl, hb1⟩
  obtain ⟨W, hW⟩ : ∃ W, wrongP l = W := ⟨_, rfl⟩
  by_cases h0 : W = 0
  · subst h0
    have ht := tree_of l hW
    have HW := hide hW
    rw [hW]
    clear hW
    go_wp2_with fail
    refine (built_any l ht (fun i h => (hf i h).2) a c w1 (hi.below hb1 (Nat.le_refl _))).mono ?_
    rintro e w2 ⟨hb2, h2⟩
    have hw2 := hb1.trans (hb2.mono hb1.size)
    rcases h2 with ⟨hn, rfl⟩ | ⟨out, v, hs, rfl, ho⟩
    · have Hn := hide hn
      clear hn
      go_wp2_with fail
      go_ret3
      exact ⟨hw2, .inr (.inl ⟨unhide HW, unhide Hn, rfl⟩)⟩
    · have Hs := hide hs
      clear hs
      go_wp2_with fail
      refine (blob_any l ht (fun i h => (hf i h).2) 6 [] a c w2 (hi.below hw2 (Nat.le_refl _)) (.inl rfl) (by simp) (by rw [dep_nil]; omega) (by rw [dep_nil]; omega)).mono ?_
      rintro e w3 ⟨rfl, hb3⟩
      have hw3 := hw2.trans (hb3.mono hw2.size)
      have ho3 := (ho.below hb3).weak hb1.size
      have hsm := blob_small l ht 6 [] (.inl rfl)
      clear ho hb3
      generalize hB : blobP l 6 [] = B at *
      have HB := hide hB
      clear hB
      go_wp2_with fail
      refine (refDigest_bs B _ (by omega)).mono ?_
      rintro e w4 ⟨rfl, n4, hw4⟩
      subst hw4
      go_wp2_with fail
      go_ret3
      exact ⟨below_drewN hw3 _, .inr (.inr ⟨out, v, unhide HW, unhide Hs, by rw [unhide HB]; rfl, ho3.below (below_drewN (Below.refl _ _) _)⟩)⟩
  · have g : (W != 0) = true := by simpa using h0
    have HW := hide hW
    rw [hW]
    clear hW
    go_wp2_with fail
    go_ret3
    exact ⟨hb1, .inl ⟨by rw [unhide HW]; exact h0, by rw [unhide HW]; rfl⟩⟩
set_option maxHeartbeats 1000000 in
theorem sameTexts_same (l : List (List UInt8)) (a1 a2 : Option Addr) (c1 c2 : Nat) (w : World) (hl : l.length ≤ maxLen) (h1 : TextsAt w a1 l) (h2 : TextsAt w a2 l) :
    Calls Tryz.prog 41 #[.slice a1 l.length c1, .slice a2 l.length c2] w fun e w' => e = .returned (.bool true) ∧ ∃ n, w' = w.drewN n := by
  unfold maxLen at hl
  have hb : ((l.length : Int) != (l.length : Int)) = false := by simp
  go_enter Tryz.func41, Tryz.ntmps41
  go_wp2_with fail
  go_loopw [5] (fun i wr => ∃ k : Nat, k ≤ l.length ∧ i = .int .i64 k ∧ ∃ n, wr = w.drewN n) (fun i _ => l.length - (intOf i).toNat)
  case atStart => exact ⟨0, by omega, rfl, 0, rfl⟩
  case round =>
    obtain ⟨k, hk, rfl, n, hwr⟩ := hrel
    subst hwr
    by_cases hlt : k < l.length
    · obtain ⟨b1, o1, rfl, i1⟩ : ∃ b o, a1 = some ⟨b, o, none⟩ ∧ ∀ i (h : i < l.length), w.cell? ⟨b, o + i, none⟩ = some (strVal l[i]) := by
        rcases h1 with h | h
        · subst h; simp at hlt
        · exact h
      obtain ⟨b2, o2, rfl, i2⟩ : ∃ b o, a2 = some ⟨b, o, none⟩ ∧ ∀ i (h : i < l.length), w.cell? ⟨b, o + i, none⟩ = some (strVal l[i]) := by
        rcases h2 with h | h
        · subst h; simp at hlt
        · exact h
      have p0 := i1 k hlt
      have r0 := i2 k hlt
      clear i1 i2
      generalize l[k] = x at *
      unfold strVal at p0 r0
      have hlt' : (k : Int) < (l.length : Int) := by omega
      have heq : ((bs x).toList == (bs x).toList) = true := by simp
      go_wp2_with fail
      go_quiet (fail)
      go_wp2
      go_roundw
      case rel => exact ⟨k + 1, by omega, by go_num, _, rfl⟩
      case measure => simp [intOf]; omega
    · obtain rfl : k = l.length := by omega
      go_wp2_with fail
      go_ret
      exact ⟨rfl, n, rfl⟩
end Go.Proofs.YtjmacegibchplaaGreatDoor

/-
  Are two trees the same (the document's own test); is a text one of some (the statements' own).
-/
namespace Go.Proofs.YtjmacegibchplaaGreatDoor
open Go.RowKit
set_option linter.unusedVariables false
end Go.Proofs.YtjmacegibchplaaGreatDoor
