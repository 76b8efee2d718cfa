import Derived.Test.YtjmacegibchplaaGreatDoorGrpV
import Derived.Test.YtjmacegibchplaaGreatDoorOfA
import Derived.Test.YtjmacegibchplaaGreatDoorBldLaw
/-
  The program's store: what it holds in memory; New, has, lay, drop.
-/
namespace Go.Proofs.YtjmacegibchplaaGreatDoor
open Go.RowKit Go.Maps Go.WideMaps
set_option linter.unusedVariables false

/-- under each digest stands one blob -/
def Keyd (st : List (List UInt8 × List UInt8)) : Prop := (st.map (·.1)).Nodup
theorem at_none_iff : ∀ (st : List (List UInt8 × List UInt8)) (d : List UInt8), atP st d = none ↔ d ∉ st.map (·.1)
  | [], d => by simp [atP]
  | (k, b) :: r, d => by
    simp only [atP, List.map_cons, List.mem_cons, not_or]
    by_cases h : k = d
    · simp [h]
    · rw [if_neg h, at_none_iff r d]
      exact ⟨fun h2 => ⟨fun e => h e.symm, h2⟩, fun h2 => h2.2⟩
theorem at_filter : ∀ (st : List (List UInt8 × List UInt8)) (d x : List UInt8), atP (st.filter (fun p => !(p.1 == d))) x = if x = d then none else atP st x
  | [], d, x => by simp [atP]
  | (k, b) :: r, d, x => by
    have ih := at_filter r d x
    by_cases h : k = d
    · rw [List.filter_cons_of_neg (by simpa using h), ih]
      split
      · rfl
      · rename_i hx
        simp only [atP]
        rw [if_neg (fun e => hx (by rw [← e, h]))]
    · rw [List.filter_cons_of_pos (by simpa using h)]
      simp only [atP]
      by_cases hx : k = x
      · rw [if_pos hx, if_neg (fun e => h (by rw [hx, e])), if_pos hx]
      · rw [if_neg hx, ih, if_neg hx]
theorem sum_filter : ∀ (st : List (List UInt8 × List UInt8)) (d : List UInt8), Keyd st → sumP (st.filter (fun p => !(p.1 == d))) + ((atP st d).getD []).length = sumP st
  | [], d, _ => by simp [sumP, atP]
  | (k, b) :: r, d, hk => by
    have hk2 : k ∉ r.map (·.1) ∧ Keyd r := by unfold Keyd at hk ⊢; rw [List.map_cons, List.nodup_cons] at hk; exact hk
    have ih := sum_filter r d hk2.2
    by_cases h : k = d
    · rw [List.filter_cons_of_neg (by simpa using h)]
      have hn : atP r d = none := (at_none_iff r d).2 (by rw [← h]; exact hk2.1)
      rw [hn] at ih
      simp only [atP, sumP, if_pos h, Option.getD_some]
      simp only [Option.getD_none, List.length_nil] at ih
      omega
    · rw [List.filter_cons_of_pos (by simpa using h)]
      simp only [atP, sumP, if_neg h]
      omega
theorem keyd_filter {st : List (List UInt8 × List UInt8)} (h : Keyd st) (q : List UInt8 × List UInt8 → Bool) : Keyd (st.filter q) :=
  List.Nodup.sublist (List.Sublist.map _ List.filter_sublist) h
theorem keyd_app {st : List (List UInt8 × List UInt8)} (h : Keyd st) {d b : List UInt8} (hn : atP st d = none) : Keyd (st ++ [(d, b)]) := by
  unfold Keyd at *
  rw [List.map_append, List.nodup_append]
  refine ⟨h, by simp, ?_⟩
  intro x hx y hy
  simp at hy
  subst hy
  intro e
  exact (at_none_iff st y).1 hn (by rw [← e]; exact hx)
theorem keyd_plant {st : List (List UInt8 × List UInt8)} (h : Keyd st) (d b : List UInt8) : Keyd (plantP st d b) := by
  unfold plantP
  split
  · rw [List.append_nil]; exact keyd_filter h _
  · exact keyd_app (keyd_filter h _) (by rw [at_filter, if_pos rfl])
theorem keyd_put {st : List (List UInt8 × List UInt8)} (h : Keyd st) (room : Int) (b : List UInt8) : Keyd (putP room st b).2 := by
  unfold putP
  split
  · exact h
  · rename_i hn
    split
    · exact h
    · exact keyd_app h (by simpa using hn)
def storeF (st : List (List UInt8 × List UInt8)) : List UInt8 → Option Value := fun d => (atP st d).map blobV
theorem storeF_app (st : List (List UInt8 × List UInt8)) (d b : List UInt8) (hn : atP st d = none) : updF (storeF st) d (blobV b) = storeF (st ++ [(d, b)]) := by
  funext x
  unfold updF storeF
  rw [atP_app]
  by_cases h : x = d
  · rw [if_pos h, h, hn]; simp
  · rw [if_neg h]
    cases hx : atP st x with
    | none => rw [if_neg (by simp), if_neg (fun e => h e.symm)]
    | some y => simp
def dropF (f : List UInt8 → Option Value) (k : List UInt8) : List UInt8 → Option Value := fun x => if x = k then none else f x
theorem storeF_drop (st : List (List UInt8 × List UInt8)) (d : List UInt8) : dropF (storeF st) d = storeF (st.filter (fun p => !(p.1 == d))) := by
  funext x
  unfold dropF storeF
  rw [at_filter]
  split <;> rfl
theorem MapIs.of_del {w : World} {b n : Nat} {f : List UInt8 → Option Value} {D : DataW Value} (hf : ∀ k, Maps.has D (.string k) = (f k).isSome ∧ ∀ v, f k = some v → ∀ z, D.atKey (.string k) z = .held v) (k : List UInt8) (h : w.ownsMap Tryz.prog 9 rawElem b n (D.del (.string k))) : MapIs w b n (dropF f k) := by
  refine ⟨_, h, fun x => ?_⟩
  unfold dropF
  by_cases hx : x = k
  · subst hx
    rw [if_pos rfl]
    exact ⟨has_del_same, fun u hu => by simp at hu⟩
  · rw [if_neg hx]
    have hne : (Lit.string x) ≠ (Lit.string k) := by simpa using hx
    exact ⟨by rw [has_del_other hne]; exact (hf x).1, fun u hu z => by rw [atKey_del_other hne]; exact (hf x).2 u hu z⟩
structure PStore (w : World) (pb um n : Nat) (room : Int) (st : List (List UInt8 × List UInt8)) : Prop where
  s : w.heap[pb]? = some (.cells #[.int .i64 room, .int .i64 (sumP st : Int), .map (some um)] 128 (0, 0))
  m : MapIs w um n (storeF st)
  k : Keyd st
theorem PStore.same {w w' : World} {pb um n : Nat} {room : Int} {st : List (List UInt8 × List UInt8)} (h : PStore w pb um n room st) (hs : ∀ b, b = pb ∨ b = um → w'.heap[b]? = w.heap[b]?) : PStore w' pb um n room st :=
  ⟨(hs pb (.inl rfl)).trans h.s, h.m.same (hs um (.inr rfl)), h.k⟩
theorem PStore.lt {w : World} {pb um n : Nat} {room : Int} {st : List (List UInt8 × List UInt8)} (h : PStore w pb um n room st) : ∀ b, b = pb ∨ b = um → b < w.heap.size := by
  rintro b (rfl | rfl)
  · exact (Array.getElem?_eq_some_iff.1 h.s).1
  · exact h.m.lt
theorem PStore.ne {w : World} {pb um n : Nat} {room : Int} {st : List (List UInt8 × List UInt8)} (h : PStore w pb um n room st) : pb ≠ um := map_ne_cells h.m h.s
theorem PStore.below {w w' : World} {pb um n B : Nat} {room : Int} {st : List (List UInt8 × List UInt8)} (h : PStore w pb um n room st) (hb : Below B w w') (hB : w.heap.size ≤ B) : PStore w' pb um n room st :=
  h.same (fun b hbb => hb.block b (Nat.lt_of_lt_of_le (h.lt b hbb) hB))
theorem PStore.fr {w w' : World} {S : Nat → Prop} {pb um n : Nat} {room : Int} {st : List (List UInt8 × List UInt8)} (h : PStore w pb um n room st) (hf : Fr S w w') (h1 : ¬ S pb) (h2 : ¬ S um) : PStore w' pb um n room st :=
  h.same (fun b hbb => hf.block b (h.lt b hbb) (by rcases hbb with rfl | rfl <;> assumption))
theorem PStore.c0 {w : World} {pb um n : Nat} {room : Int} {st : List (List UInt8 × List UInt8)} (h : PStore w pb um n room st) : w.cell? ⟨pb, 0, none⟩ = some (.int .i64 room) := cell_of_block h.s
theorem PStore.c1 {w : World} {pb um n : Nat} {room : Int} {st : List (List UInt8 × List UInt8)} (h : PStore w pb um n room st) : w.cell? ⟨pb, 1, none⟩ = some (.int .i64 (sumP st : Int)) := cell_of_block h.s
theorem PStore.c2 {w : World} {pb um n : Nat} {room : Int} {st : List (List UInt8 × List UInt8)} (h : PStore w pb um n room st) : w.cell? ⟨pb, 2, none⟩ = some (.map (some um)) := cell_of_block h.s
theorem under126 : Tryz.prog.underlying 126 = some (.map 9 190) := by kernel_rfl
theorem zero_sblob (w : World) : (zeroValue 190).run Tryz.prog w = .ok (.agg #[.string ⟨#[]⟩]) w := by kernel_rfl
theorem field_sblob (s : ByteArray) (w : World) : (Instr.field 190 (.agg #[.string s]) 0).run Tryz.prog w = .ok (.string s) w := by kernel_rfl
/-- New -/
theorem storeNew_no (room : Int) (w : World) (h : room < 0 ∨ 100000 < room) :
    Calls Tryz.prog 54 #[.int .i64 room] w fun e w' => e = .returned (.tuple #[.pointer none, .int .i64 5]) ∧ w' = w := by
  have hw := within_any room 0 100000 w (by decide)
  have hP : P.within room 0 100000 = false := by unfold P.within; simp; omega
  rw [hP] at hw
  go_enter Tryz.func54, Tryz.ntmps54
  go_wp2_with (go_at_call 86; refine hw.mono ?_; rintro e w' ⟨rfl, hw'⟩; rw [hw']; clear hw' w')
  go_ret2
  exact ⟨rfl, rfl⟩
theorem storeNew_ok (room : Int) (w : World) (h0 : 0 ≤ room) (h1 : room ≤ 100000) :
    Calls Tryz.prog 54 #[.int .i64 room] w fun e w' => e = .returned (.tuple #[.pointer (some ⟨w.heap.size + 1, 0, none⟩), .int .i64 0]) ∧ PStore w' (w.heap.size + 1) w.heap.size 0 room [] ∧ Below w.heap.size w w' := by
  have hw := within_any room 0 100000 w (by decide)
  have hP : P.within room 0 100000 = true := by unfold P.within; simp; omega
  rw [hP] at hw
  have hmm := @run_makeMap Tryz.prog
  go_enter Tryz.func54, Tryz.ntmps54
  go_wp2_with (go_at_call 86; refine hw.mono ?_; rintro e w' ⟨rfl, hw'⟩; rw [hw']; clear hw' w')
  go_ret2
  have hm := (MapIs.made w).alloc (.cells #[.int .i64 room, .int .i64 0, .map (some w.heap.size)] 128)
  refine ⟨by simp, ⟨?_, hm, List.nodup_nil⟩, ((Below.refl _ _).alloc (Nat.le_refl _) _).alloc (by simp) _⟩
  have hb := heap_alloc_new (w.alloc (.map #[] 0)) (.cells #[.int .i64 room, .int .i64 0, .map (some w.heap.size)] 128)
  rw [show (w.alloc (.map #[] 0)).heap.size = w.heap.size + 1 by simp] at hb
  exact hb
set_option maxRecDepth 100000 in
set_option maxHeartbeats 1000000 in
theorem has_any (st : List (List UInt8 × List UInt8)) (pb um n : Nat) (room : Int) (d : List UInt8) (w : World) (h : PStore w pb um n room st) (hd : d.length ≤ maxLen) :
    Calls Tryz.prog 97 #[.pointer (some ⟨pb, 0, none⟩), .string (bs d)] w fun e w' => e = .returned (.bool (atP st d).isSome) ∧ Below w.heap.size w w' := by
  have c2 := h.c2
  have hm := h.m
  have hF : storeF st d = (atP st d).map blobV := rfl
  cases ha : atP st d with
  | none =>
    rw [ha] at hF
    clear h ha
    go_enter Tryz.func97, Tryz.ntmps97
    go_wp2_with (at_lookup; refine wp_look_ok rfl _ _ 126 rfl 190 under126 (.agg #[.string ⟨#[]⟩]) (zero_sblob _) um n (storeF st) rfl hm d rfl hd ?_; rw [hF]; simp only [Option.map_none, Option.getD_none, Option.isSome_none])
    go_ret
    exact ⟨rfl, (Below.refl _ _).alloc (Nat.le_refl _) _⟩
  | some y =>
    rw [ha] at hF
    clear h ha
    go_enter Tryz.func97, Tryz.ntmps97
    go_wp2_with (at_lookup; refine wp_look_ok rfl _ _ 126 rfl 190 under126 (.agg #[.string ⟨#[]⟩]) (zero_sblob _) um n (storeF st) rfl hm d rfl hd ?_; rw [hF]; simp only [Option.map_some, Option.getD_some, Option.isSome_some, blobV])
    go_ret
    exact ⟨rfl, (Below.refl _ _).alloc (Nat.le_refl _) _⟩
end Go.Proofs.YtjmacegibchplaaGreatDoor

/-
  The program's store: lay, drop.
-/
namespace Go.Proofs.YtjmacegibchplaaGreatDoor
open Go.RowKit Go.Maps Go.WideMaps
set_option linter.unusedVariables false

theorem MapIs.more {w : World} {b n m : Nat} {f : List UInt8 → Option Value} (h : MapIs w b n f) (hnm : n ≤ m) : MapIs w b m f := by
  obtain ⟨D, ⟨es, clock, hb, F, hs, hD⟩, hf⟩ := h
  exact ⟨D, ⟨es, clock, hb, F, Nat.le_trans hs hnm, hD⟩, hf⟩
theorem PStore.more {w : World} {pb um n m : Nat} {room : Int} {st : List (List UInt8 × List UInt8)} (h : PStore w pb um n room st) (hnm : n ≤ m) : PStore w pb um m room st := ⟨h.s, h.m.more hnm, h.k⟩
theorem storeF_getD (st : List (List UInt8 × List UInt8)) (d : List UInt8) : (storeF st d).getD (.agg #[.string ⟨#[]⟩]) = .agg #[.string (bs ((atP st d).getD []))] := by
  unfold storeF
  cases atP st d <;> rfl
set_option maxRecDepth 100000 in
set_option maxHeartbeats 2000000 in
theorem lay_any (st : List (List UInt8 × List UInt8)) (pb um n : Nat) (room : Int) (d b : List UInt8) (w : World) (h : PStore w pb um n room st) (hd : d.length ≤ 10000000) (hb : b.length ≤ 10000000) (hn : n < maxLen) (hsum : sumP st ≤ 1000000000000) (hno : atP st d = none) :
    Calls Tryz.prog 96 #[.pointer (some ⟨pb, 0, none⟩), .string (bs d), .string (bs b)] w fun e w' => e = .returned (.tuple #[]) ∧ PStore w' pb um (n + 1) room (st ++ [(d, b)]) ∧ Fr (fun x => x = pb ∨ x = um) w w' := by
  have hcd := fun w' => clone3 d w' hd
  have hcb := fun w' => clone3 b w' hb
  have c2 := h.c2
  have hlp := h.lt pb (.inl rfl)
  have hlm := h.lt um (.inr rfl)
  have hne := h.ne
  have hdm : d.length ≤ maxLen := by unfold maxLen; omega
  have hbz := bs_size b
  have H := hide h
  have HF := hide (storeF_app st d b hno)
  have HS := hide (sumP_app st d b)
  have HK := hide (keyd_app (b := b) h.k hno)
  have Hs := hide h.s
  clear h hno
  generalize sumP st = sm at *
  go_enter Tryz.func96, Tryz.ntmps96
  go_wp2_with fail
  go_region_held3 (fun w' => w'.cell? ⟨pb, 2, none⟩ = some (.map (some um)))
    ((first | assumption | go_keep))
    ((first
      | (go_at_call 66; refine (hcd _).mono ?_; rintro e w4 ⟨rfl, hb4⟩;
         have s4 := ((bcell hb4).1 pb 2 (by simpa using hlp)).trans c2)
      | (go_at_call 66; refine (hcb _).mono ?_; rintro e w5 ⟨rfl, hb5⟩;
         have s5 := ((bcell hb5).1 pb 2 (Nat.lt_of_lt_of_le hlp (by simpa using hb4.size))).trans s4;
         obtain ⟨w6, hrun6, hm6, hg6⟩ := MapIs.store (MapIs.same (w' := w5) (unhide H).m ((hb5.block um (Nat.lt_of_lt_of_le hlm (by simpa using hb4.size))).trans (hb4.block um hlm))) 126 190 under126 hn d hdm (.agg #[.string (bs b)]);
         have s6 := cell_grown hg6 s5 (by simpa using hne))))
  all_goals
    have hz4 : w.heap.size ≤ w4.heap.size := by simpa using hb4.size
    have hz5 : w4.heap.size ≤ w5.heap.size := hb5.size
    have hp5 : w5.heap[pb]? = _ := (hb5.block pb (Nat.lt_of_lt_of_le hlp hz4)).trans ((hb4.block pb hlp).trans (unhide Hs))
    have hp6 : w6.heap[pb]? = _ := (hg6.block pb (Nat.lt_of_lt_of_le hlp (Nat.le_trans hz4 hz5)) (by simpa using hne)).trans hp5
    have k1 := cell_of_block (j := 1) hp6
    have f1 := free_block (j := 1) hp6
    simp only [List.getElem?_toArray, List.getElem?_cons_zero, List.getElem?_cons_succ] at k1
    have Hb := hide (And.intro hb4 (And.intro hb5 (And.intro hg6 (And.intro hp6 hm6))))
    clear hb4 hb5 hg6 hp5 hp6 hm6 s4 s5
  all_goals go_wp2_with fail
  all_goals go_end0
  all_goals
    obtain ⟨hb4, hb5, hg6, hp6, hm6⟩ := unhide Hb
    have hs7 := heap_setCell_same w6 pb 1 _ _ (.int .i64 ((sm : Int) + (b.length : Int))) hp6
    refine ⟨rfl, ⟨?_, ?_, unhide HK⟩, ?_⟩
    · rw [unhide HS]
      exact hs7
    · rw [← unhide HF]
      exact hm6.same (Below.heap_setCell _ _ _ _ (Ne.symm hne))
    · have h4 : Fr (fun x => x = pb ∨ x = um) w w4 := ⟨hb4.os, hb4.tape, hb4.output, by simpa using hb4.size, fun x hx _ => hb4.block x (by simpa using hx)⟩
      have h5 : Fr (fun x => x = pb ∨ x = um) w4 w5 := Fr.below hb5
      exact h4.trans (h5.trans ((Fr.grown hg6 (fun g hg => by cases hg; exact Or.inr rfl)).trans (Fr.set _ _ _ _ (Or.inl rfl))))
set_option maxRecDepth 100000 in
set_option maxHeartbeats 2000000 in
theorem drop_any (st : List (List UInt8 × List UInt8)) (pb um n : Nat) (room : Int) (d : List UInt8) (w : World) (h : PStore w pb um n room st) (hd : d.length ≤ 10000000) (hsum : sumP st ≤ 1000000000000) :
    Calls Tryz.prog 95 #[.pointer (some ⟨pb, 0, none⟩), .string (bs d)] w fun e w' => e = .returned (.tuple #[]) ∧ PStore w' pb um n room (st.filter (fun p => !(p.1 == d))) ∧ Fr (fun x => x = pb ∨ x = um) w w' := by
  have c1 := h.c1
  have c2 := h.c2
  have f1 := free_block (j := 1) h.s
  have hlp := h.lt pb (.inl rfl)
  have hlm := h.lt um (.inr rfl)
  have hne := h.ne
  have hdm : d.length ≤ maxLen := by unfold maxLen; omega
  have hlk := MapIs.look (w := w.drew) h.m.drew 126 190 under126 (.agg #[.string ⟨#[]⟩]) (zero_sblob _) d hdm
  rw [storeF_getD] at hlk
  have hfd := field_sblob
  have hsf := sum_filter st d h.k
  have HK := hide (keyd_filter h.k (fun p => !(p.1 == d)))
  have Hs := hide h.s
  have HD := hide (storeF_drop st d)
  have hbz := bs_size ((atP st d).getD [])
  obtain ⟨D, hown, hf⟩ := h.m
  clear h
  generalize hY : (atP st d).getD [] = y at *
  generalize hS : sumP st = sm at *
  generalize hG : sumP (st.filter (fun p => !(p.1 == d))) = sg at *
  have Hf := hide hf
  clear hf hS hY
  have hsub : (sm : Int) - (y.length : Int) = (sg : Int) := by omega
  have q1 : y.length ≤ sm := by omega
  go_enter Tryz.func95, Tryz.ntmps95
  go_wp2_with fail
  go_region
  have hp7 : ((w.setCell ⟨pb, 1, none⟩ (.int .i64 (sg : Int))).drew).heap[pb]? = some (.cells #[.int .i64 room, .int .i64 (sg : Int), .map (some um)] 128 (0, 0)) := heap_setCell_same w pb 1 _ _ (.int .i64 (sg : Int)) (unhide Hs)
  have hown7 : ((w.setCell ⟨pb, 1, none⟩ (.int .i64 (sg : Int))).drew).ownsMap Tryz.prog 9 rawElem um n D := by
    obtain ⟨es, clock, hb, F, hs, hD⟩ := hown
    exact ⟨es, clock, (Below.heap_setCell _ _ _ _ (Ne.symm hne)).trans hb, F, hs, hD⟩
  have k2 := cell_of_block (j := 2) hp7
  simp only [List.getElem?_toArray, List.getElem?_cons_zero, List.getElem?_cons_succ] at k2
  have HP := hide hp7
  clear hp7 hown hlk
  go_wp2_with (at_delete; refine wpList_delete_own _ rfl _ _ 126 9 rfl 190 strKeyed under126 _ um n D rfl hown7 _ _ rfl (key_bs d hdm) ?_; intro w1 hown1 hturn1)
  go_end0
  have hg1 := hturn1.grown
  refine ⟨rfl, ⟨?_, ?_, unhide HK⟩, ?_⟩
  · rw [hG]
    exact (hg1.block pb (by simpa using hlp) (by simpa using hne)).trans (unhide HP)
  · rw [← unhide HD]
    exact MapIs.of_del (unhide Hf) d hown1
  · have h0 : Fr (fun x => x = pb ∨ x = um) w (w.setCell ⟨pb, 1, none⟩ (.int .i64 (sg : Int))) := Fr.set _ _ _ _ (Or.inl rfl)
    have h1 : Fr (fun x => x = pb ∨ x = um) w ((w.setCell ⟨pb, 1, none⟩ (.int .i64 (sg : Int))).drew) := ⟨h0.os, h0.tape, h0.output, h0.size, h0.block⟩
    exact h1.trans (Fr.grown hg1 (fun g hg => by cases hg; exact Or.inr rfl))
end Go.Proofs.YtjmacegibchplaaGreatDoor

/-
  The document's store: where a digest stands, and what.
-/
namespace Go.Proofs.YtjmacegibchplaaGreatDoor
open Go.RowKit
set_option linter.unusedVariables false

/-- the place of a digest -/
def idxP (st : List (List UInt8 × List UInt8)) (d : List UInt8) : Int := match st.findIdx? (fun p => p.1 == d) with
  | some i => (i : Int)
  | none => -1
theorem idx_hit (st : List (List UInt8 × List UInt8)) (d : List UInt8) (k : Nat) (hk : k < st.length) (he : st[k].1 = d) (hno : ∀ j (h : j < st.length), j < k → st[j].1 ≠ d) : idxP st d = (k : Int) := by
  have : st.findIdx? (fun p => p.1 == d) = some k := by
    rw [List.findIdx?_eq_some_iff_getElem]
    exact ⟨hk, by simpa using he, fun j hj => by simpa using hno j (by omega) hj⟩
  unfold idxP
  rw [this]
theorem idx_none (st : List (List UInt8 × List UInt8)) (d : List UInt8) (hno : ∀ j (h : j < st.length), st[j].1 ≠ d) : idxP st d = -1 := by
  have : st.findIdx? (fun p => p.1 == d) = none := by
    rw [List.findIdx?_eq_none_iff]
    intro x hx
    obtain ⟨j, hj, rfl⟩ := List.mem_iff_getElem.1 hx
    simpa using hno j hj
  unfold idxP
  rw [this]
theorem atP_idx : ∀ (st : List (List UInt8 × List UInt8)) (d : List UInt8), (idxP st d = -1 ∧ atP st d = none) ∨ ∃ k, ∃ h : k < st.length, idxP st d = (k : Int) ∧ atP st d = some st[k].2
  | [], d => .inl ⟨rfl, rfl⟩
  | (k, b) :: r, d => by
    by_cases e : k = d
    · refine .inr ⟨0, by simp, ?_, by simp [atP, e]⟩
      exact idx_hit _ _ 0 (by simp) (by simpa using e) (fun j _ h => by omega)
    · rcases atP_idx r d with ⟨h1, h2⟩ | ⟨i, hi, h1, h2⟩
      · refine .inl ⟨idx_none _ _ (fun j hj => ?_), by simp [atP, e, h2]⟩
        cases j with
        | zero => simpa using e
        | succ j =>
          intro hc
          unfold idxP at h1
          split at h1
          · omega
          · rename_i hn
            rw [List.findIdx?_eq_none_iff] at hn
            have hj' : j < r.length := by simpa using hj
            have := hn r[j] (List.getElem_mem hj')
            simp at this hc
            exact this hc
      · refine .inr ⟨i + 1, by simpa using hi, ?_, by simp [atP, e, h2]⟩
        unfold idxP at h1
        split at h1
        · rename_i m hm
          obtain rfl : m = i := by omega
          rw [List.findIdx?_eq_some_iff_getElem] at hm
          obtain ⟨hml, hmp, hmn⟩ := hm
          refine idx_hit _ _ (m + 1) (by simpa using hml) (by simpa using hmp) (fun j hj hlt => ?_)
          cases j with
          | zero => simpa using e
          | succ j => simpa using hmn j (by omega)
        · omega
/-- the document's store in memory -/
def RStore (w : World) (pb : Nat) (room : Int) (st : List (List UInt8 × List UInt8)) : Prop := w.cell? ⟨pb, 0, none⟩ = some (.int .i64 room) ∧
  ∃ a1 c1 a2 c2, w.cell? ⟨pb, 1, none⟩ = some (.slice a1 st.length c1) ∧ w.cell? ⟨pb, 2, none⟩ = some (.slice a2 st.length c2) ∧ TextsAt w a1 (st.map (·.1)) ∧ TextsAt w a2 (st.map (·.2))
theorem textsGet {w : World} {a : Option Addr} {l : List (List UInt8)} (h : TextsAt w a l) {k : Nat} (hk : k < l.length) : ∃ b o, a = some ⟨b, o, none⟩ ∧ w.cell? ⟨b, o + k, none⟩ = some (strVal l[k]) := by
  rcases h with h | ⟨b, o, e, h⟩
  · subst h; simp at hk
  · exact ⟨b, o, e, h k hk⟩
set_option maxHeartbeats 1000000 in
theorem refAt_any (st : List (List UInt8 × List UInt8)) (pb : Nat) (room : Int) (d : List UInt8) (w : World) (hl : st.length ≤ maxLen) (h : RStore w pb room st) :
    Calls Tryz.prog 158 #[.pointer (some ⟨pb, 0, none⟩), .string (bs d)] w fun e w' => e = .returned (.int .i64 (idxP st d)) ∧ w' = w := by
  unfold maxLen at hl
  obtain ⟨-, a1, c1, a2, c2, f1, -, t1, -⟩ := h
  go_enter Tryz.func158, Tryz.ntmps158
  go_wp2_with fail
  go_loop [5] (fun i => ∃ k : Nat, k ≤ st.length ∧ i = .int .i64 k ∧ ∀ j (h : j < st.length), j < k → st[j].1 ≠ d) (fun i => st.length - (intOf i).toNat)
  case atStart => exact ⟨0, by omega, rfl, fun j _ h => by omega⟩
  case round =>
    obtain ⟨k, hk, rfl, hno⟩ := hrel
    have Hno := hide hno
    clear hno
    by_cases hlt : k < st.length
    · obtain ⟨b, o, rfl, hc⟩ := textsGet t1 (k := k) (by simpa using hlt)
      rw [List.getElem_map] at hc
      have q1 : (k : Int) < (st.length : Int) := by omega
      have Hhit := hide (fun he => idx_hit st d k hlt he (unhide Hno))
      have Hnx := hide (show st[k].1 ≠ d → ∀ j (h : j < st.length), j < k + 1 → st[j].1 ≠ d from fun hne j h hj => by
        rcases Nat.lt_or_ge j k with h1 | h1
        · exact unhide Hno j h h1
        · obtain rfl : j = k := by omega
          exact hne)
      unfold strVal at hc
      generalize st[k].1 = x at *
      have hE := str_eq2 x d
      clear t1
      by_cases heq : x = d
      · have hx : (x == d) = true := by simpa using heq
        rw [hx] at hE
        have Hr := hide (unhide Hhit heq)
        clear heq hx
        go_wp2_with fail
        go_ret
        exact ⟨ret_int (unhide Hr).symm, rfl⟩
      · have hx : (x == d) = false := by simpa using heq
        rw [hx] at hE
        go_wp2_with fail
        go_round
        case rel => exact ⟨k + 1, by omega, by go_num, unhide Hnx heq⟩
        case measure => simp [intOf]; omega
    · obtain rfl : k = st.length := by omega
      go_wp2_with fail
      go_ret
      exact ⟨ret_int (by rw [idx_none st d (fun j h => unhide Hno j h h)]), rfl⟩
def getB (st : List (List UInt8 × List UInt8)) (d : List UInt8) : List UInt8 := (atP st d).getD []
def getE (st : List (List UInt8 × List UInt8)) (d : List UInt8) : Int := if (atP st d).isSome then 0 else 7
set_option maxHeartbeats 1000000 in
theorem refGet_any (st : List (List UInt8 × List UInt8)) (pb : Nat) (room : Int) (d : List UInt8) (w : World) (hl : st.length ≤ maxLen) (h : RStore w pb room st) :
    Calls Tryz.prog 119 #[.pointer (some ⟨pb, 0, none⟩), .string (bs d)] w fun e w' => e = .returned (.tuple #[.string (bs (getB st d)), .int .i64 (getE st d)]) ∧ w' = w := by
  have hat := fun w' (hw : RStore w' pb room st) => refAt_any st pb room d w' hl hw
  unfold maxLen at hl
  have h0 := h
  have Hg := hide (show getB st d = (atP st d).getD [] ∧ getE st d = if (atP st d).isSome then 0 else 7 from ⟨rfl, rfl⟩)
  obtain ⟨-, a1, c1, a2, c2, f1, f2, t1, t2⟩ := h
  rcases atP_idx st d with ⟨i1, i2⟩ | ⟨k, hk, i1, i2⟩
  · have Hr := hide (show getB st d = [] ∧ getE st d = 7 by rw [(unhide Hg).1, (unhide Hg).2, i2]; exact ⟨rfl, rfl⟩)
    go_enter Tryz.func119, Tryz.ntmps119
    go_wp2_with (go_at_call 158; refine (hat _ h0).mono ?_; rintro e w' ⟨rfl, rfl⟩; rw [i1])
    go_ret2
    exact ⟨by rw [(unhide Hr).1, (unhide Hr).2]; rfl, rfl⟩
  · obtain ⟨b, o, rfl, hc⟩ := textsGet t2 (k := k) (by simpa using hk)
    rw [List.getElem_map] at hc
    unfold strVal at hc
    have Hr := hide (show getB st d = st[k].2 ∧ getE st d = 0 by rw [(unhide Hg).1, (unhide Hg).2, i2]; exact ⟨rfl, rfl⟩)
    have q1 : (k : Int) < (st.length : Int) := by omega
    generalize st[k].2 = x at *
    go_enter Tryz.func119, Tryz.ntmps119
    go_wp2_with (go_at_call 158; refine (hat _ h0).mono ?_; rintro e w' ⟨rfl, rfl⟩; rw [i1])
    go_ret2
    exact ⟨by rw [(unhide Hr).1, (unhide Hr).2]; rfl, rfl⟩
end Go.Proofs.YtjmacegibchplaaGreatDoor
