import Derived.Test.YtjmacegibchplaaGreatDoorUplP
import Derived.Test.YtjmacegibchplaaGreatDoorOfA
import Derived.Test.YtjmacegibchplaaGreatDoorMapV
namespace Go.Proofs.YtjmacegibchplaaGreatDoor
open Go.RowKit Go.Maps Go.WideMaps
set_option linter.unusedVariables false
def Keyd (st : List (List UInt8 × List UInt8)) : Prop := (st.map (·.1)).Nodup
theorem at_none_iff : ∀ (st : List (List UInt8 × List UInt8)) (d : List UInt8), atP st d = none ↔ d ∉ st.map (·.1)
 | [], d => by simp [atP]
 | (k, b) :: r, d => by
  simp only [atP, List.map_cons, List.mem_cons, not_or]
  by_cases h : k = d
  ·simp [h]
  ·rw [if_neg h, at_none_iff r d]
   exact ⟨fun h2 => ⟨fun e => h e.symm, h2⟩, fun h2 => h2.2⟩
theorem at_filter : ∀ (st : List (List UInt8 × List UInt8)) (d x : List UInt8), atP (st.filter (fun p => !(p.1 == d))) x = if x = d then none else atP st x
 | [], d, x => by simp [atP]
 | (k, b) :: r, d, x => by
  have ih := at_filter r d x
  by_cases h : k = d
  ·rw [List.filter_cons_of_neg (by simpa using h), ih]
   split
   ·rfl
   ·rename_i hx
    simp only [atP]
    rw [if_neg (fun e => hx (by rw [← e, h]))]
  ·rw [List.filter_cons_of_pos (by simpa using h)]
   simp only [atP]
   by_cases hx : k = x
   ·rw [if_pos hx, if_neg (fun e => h (by rw [hx, e])), if_pos hx]
   ·rw [if_neg hx, ih, if_neg hx]
theorem sum_filter : ∀ (st : List (List UInt8 × List UInt8)) (d : List UInt8), Keyd st → sumP (st.filter (fun p => !(p.1 == d))) + ((atP st d).getD []).length = sumP st
 | [], d, _ => by simp [sumP, atP]
 | (k, b) :: r, d, hk => by
  have hk2 : k ∉ r.map (·.1) ∧ Keyd r := by unfold Keyd at hk ⊢; rw [List.map_cons, List.nodup_cons] at hk; exact hk
  have ih := sum_filter r d hk2.2
  by_cases h : k = d
  ·rw [List.filter_cons_of_neg (by simpa using h)]
   have hn : atP r d = none := (at_none_iff r d).2 (by rw [← h]; exact hk2.1)
   rw [hn] at ih
   simp only [atP, sumP, if_pos h, Option.getD_some]
   simp only [Option.getD_none, List.length_nil] at ih
   omega
  ·rw [List.filter_cons_of_pos (by simpa using h)]
   simp only [atP, sumP, if_neg h]
   omega
theorem keyd_filter {st : List (List UInt8 × List UInt8)} (h : Keyd st) (q : List UInt8 × List UInt8 → Bool) : Keyd (st.filter q) :=
 List.Nodup.sublist (List.Sublist.map _ List.filter_sublist) h
theorem keyd_app {st : List (List UInt8 × List UInt8)} (h : Keyd st) {d b : List UInt8} (hn : atP st d = none) : Keyd (st ++ [(d, b)]) := by
 unfold Keyd at *
 rw [List.map_append, List.nodup_append]
 refine ⟨h, by simp, ?_⟩
 intro x hx y hy
 simp at hy
 subst hy
 intro e
 exact (at_none_iff st y).1 hn (by rw [← e]; exact hx)
def storeF (st : List (List UInt8 × List UInt8)) : List UInt8 → Option Value := fun d => (atP st d).map blobV
theorem storeF_app (st : List (List UInt8 × List UInt8)) (d b : List UInt8) (hn : atP st d = none) : updF (storeF st) d (blobV b) = storeF (st ++ [(d, b)]) := by
 funext x
 unfold updF storeF
 rw [atP_app]
 by_cases h : x = d
 ·rw [if_pos h, h, hn]; simp
 ·rw [if_neg h]
  cases hx : atP st x with
  | none => rw [if_neg (by simp), if_neg (fun e => h e.symm)]
  | some y => simp
def dropF (f : List UInt8 → Option Value) (k : List UInt8) : List UInt8 → Option Value := fun x => if x = k then none else f x
theorem storeF_drop (st : List (List UInt8 × List UInt8)) (d : List UInt8) : dropF (storeF st) d = storeF (st.filter (fun p => !(p.1 == d))) := by
 funext x
 unfold dropF storeF
 rw [at_filter]
 split <;> rfl
theorem MapIs.of_del {w : World} {b n : Nat} {f : List UInt8 → Option Value} {D : DataW Value} (hf : ∀ k, Maps.has D (.string k) = (f k).isSome ∧ ∀ v, f k = some v → ∀ z, D.atKey (.string k) z = .held v) (k : List UInt8) (h : w.ownsMap Tryz.prog 9 rawElem b n (D.del (.string k))) : MapIs w b n (dropF f k) := by
 refine ⟨_, h, fun x => ?_⟩
 unfold dropF
 by_cases hx : x = k
 ·subst hx
  rw [if_pos rfl]
  exact ⟨has_del_same, fun u hu => by simp at hu⟩
 ·rw [if_neg hx]
  have hne : (Lit.string x) ≠ (Lit.string k) := by simpa using hx
  exact ⟨by rw [has_del_other hne]; exact (hf x).1, fun u hu z => by rw [atKey_del_other hne]; exact (hf x).2 u hu z⟩
structure PStore (w : World) (pb um n : Nat) (room : Int) (st : List (List UInt8 × List UInt8)) : Prop where
 s : w.heap[pb]? = some (.cells #[.int .i64 room, .int .i64 (sumP st : Int), .map (some um)] 128 (0, 0))
 m : MapIs w um n (storeF st)
 k : Keyd st
theorem PStore.same {w w' : World} {pb um n : Nat} {room : Int} {st : List (List UInt8 × List UInt8)} (h : PStore w pb um n room st) (hs : ∀ b, b = pb ∨ b = um → w'.heap[b]? = w.heap[b]?) : PStore w' pb um n room st :=
 ⟨(hs pb (.inl rfl)).trans h.s, h.m.same (hs um (.inr rfl)), h.k⟩
theorem PStore.lt {w : World} {pb um n : Nat} {room : Int} {st : List (List UInt8 × List UInt8)} (h : PStore w pb um n room st) : ∀ b, b = pb ∨ b = um → b < w.heap.size := by
 rintro b (rfl | rfl)
 ·exact (Array.getElem?_eq_some_iff.1 h.s).1
 ·exact h.m.lt
theorem PStore.ne {w : World} {pb um n : Nat} {room : Int} {st : List (List UInt8 × List UInt8)} (h : PStore w pb um n room st) : pb ≠ um := map_ne_cells h.m h.s
theorem PStore.below {w w' : World} {pb um n B : Nat} {room : Int} {st : List (List UInt8 × List UInt8)} (h : PStore w pb um n room st) (hb : Below B w w') (hB : w.heap.size ≤ B) : PStore w' pb um n room st :=
 h.same (fun b hbb => hb.block b (Nat.lt_of_lt_of_le (h.lt b hbb) hB))
theorem PStore.fr {w w' : World} {S : Nat → Prop} {pb um n : Nat} {room : Int} {st : List (List UInt8 × List UInt8)} (h : PStore w pb um n room st) (hf : Fr S w w') (h1 : ¬ S pb) (h2 : ¬ S um) : PStore w' pb um n room st :=
 h.same (fun b hbb => hf.block b (h.lt b hbb) (by rcases hbb with rfl | rfl <;> assumption))
theorem PStore.c0 {w : World} {pb um n : Nat} {room : Int} {st : List (List UInt8 × List UInt8)} (h : PStore w pb um n room st) : w.cell? ⟨pb, 0, none⟩ = some (.int .i64 room) := cell_of_block h.s
theorem PStore.c1 {w : World} {pb um n : Nat} {room : Int} {st : List (List UInt8 × List UInt8)} (h : PStore w pb um n room st) : w.cell? ⟨pb, 1, none⟩ = some (.int .i64 (sumP st : Int)) := cell_of_block h.s
theorem PStore.c2 {w : World} {pb um n : Nat} {room : Int} {st : List (List UInt8 × List UInt8)} (h : PStore w pb um n room st) : w.cell? ⟨pb, 2, none⟩ = some (.map (some um)) := cell_of_block h.s
theorem under126 : Tryz.prog.underlying 126 = some (.map 9 190) := by kernel_rfl
theorem zero_sblob (w : World) : (zeroValue 190).run Tryz.prog w = .ok (.agg #[.string ⟨#[]⟩]) w := by kernel_rfl
theorem field_sblob (s : ByteArray) (w : World) : (Instr.field 190 (.agg #[.string s]) 0).run Tryz.prog w = .ok (.string s) w := by kernel_rfl
theorem storeNew_no (room : Int) (w : World) (h : room < 0 ∨ 100000 < room) :
  Calls Tryz.prog 54 #[.int .i64 room] w fun e w' => e = .returned (.tuple #[.pointer none, .int .i64 5]) ∧ w' = w := by
 have hw := within_any room 0 100000 w (by decide)
 have hP : P.within room 0 100000 = false := by unfold P.within; simp; omega
 rw [hP] at hw
 go_enter Tryz.func54, Tryz.ntmps54
 go_wp2_with (go_at_call 86; refine hw.mono ?_; rintro e w' ⟨rfl, hw'⟩; rw [hw']; clear hw' w')
 go_ret2
 exact ⟨rfl, rfl⟩
theorem storeNew_ok (room : Int) (w : World) (h0 : 0 ≤ room) (h1 : room ≤ 100000) :
  Calls Tryz.prog 54 #[.int .i64 room] w fun e w' => e = .returned (.tuple #[.pointer (some ⟨w.heap.size + 1, 0, none⟩), .int .i64 0]) ∧ PStore w' (w.heap.size + 1) w.heap.size 0 room [] ∧ Below w.heap.size w w' := by
 have hw := within_any room 0 100000 w (by decide)
 have hP : P.within room 0 100000 = true := by unfold P.within; simp; omega
 rw [hP] at hw
 have hmm := @run_makeMap Tryz.prog
 go_enter Tryz.func54, Tryz.ntmps54
 go_wp2_with (go_at_call 86; refine hw.mono ?_; rintro e w' ⟨rfl, hw'⟩; rw [hw']; clear hw' w')
 go_ret2
 have hm := (MapIs.made w).alloc (.cells #[.int .i64 room, .int .i64 0, .map (some w.heap.size)] 128)
 refine ⟨by simp, ⟨?_, hm, List.nodup_nil⟩, ((Below.refl _ _).alloc (Nat.le_refl _) _).alloc (by simp) _⟩
 have hb := heap_alloc_new (w.alloc (.map #[] 0)) (.cells #[.int .i64 room, .int .i64 0, .map (some w.heap.size)] 128)
 rw [show (w.alloc (.map #[] 0)).heap.size = w.heap.size + 1 by simp] at hb
 exact hb
set_option maxRecDepth 100000 in
set_option maxHeartbeats 1000000 in
theorem has_any (st : List (List UInt8 × List UInt8)) (pb um n : Nat) (room : Int) (d : List UInt8) (w : World) (h : PStore w pb um n room st) (hd : d.length ≤ maxLen) :
  Calls Tryz.prog 97 #[.pointer (some ⟨pb, 0, none⟩), .string (bs d)] w fun e w' => e = .returned (.bool (atP st d).isSome) ∧ Below w.heap.size w w' := by
 have c2 := h.c2
 have hm := h.m
 have hF : storeF st d = (atP st d).map blobV := rfl
 cases ha : atP st d with
 | none =>
  rw [ha] at hF
  clear h ha
  go_enter Tryz.func97, Tryz.ntmps97
  go_wp2_with (at_lookup; refine wp_look_ok rfl _ _ 126 rfl 190 under126 (.agg #[.string ⟨#[]⟩]) (zero_sblob _) um n (storeF st) rfl hm d rfl hd ?_; rw [hF]; simp only [Option.map_none, Option.getD_none, Option.isSome_none])
  go_ret
  exact ⟨rfl, (Below.refl _ _).alloc (Nat.le_refl _) _⟩
 | some y =>
  rw [ha] at hF
  clear h ha
  go_enter Tryz.func97, Tryz.ntmps97
  go_wp2_with (at_lookup; refine wp_look_ok rfl _ _ 126 rfl 190 under126 (.agg #[.string ⟨#[]⟩]) (zero_sblob _) um n (storeF st) rfl hm d rfl hd ?_; rw [hF]; simp only [Option.map_some, Option.getD_some, Option.isSome_some, blobV])
  go_ret
  exact ⟨rfl, (Below.refl _ _).alloc (Nat.le_refl _) _⟩
theorem MapIs.more {w : World} {b n m : Nat} {f : List UInt8 → Option Value} (h : MapIs w b n f) (hnm : n ≤ m) : MapIs w b m f := by
 obtain ⟨D, ⟨es, clock, hb, F, hs, hD⟩, hf⟩ := h
 exact ⟨D, ⟨es, clock, hb, F, Nat.le_trans hs hnm, hD⟩, hf⟩
theorem PStore.more {w : World} {pb um n m : Nat} {room : Int} {st : List (List UInt8 × List UInt8)} (h : PStore w pb um n room st) (hnm : n ≤ m) : PStore w pb um m room st := ⟨h.s, h.m.more hnm, h.k⟩
theorem storeF_getD (st : List (List UInt8 × List UInt8)) (d : List UInt8) : (storeF st d).getD (.agg #[.string ⟨#[]⟩]) = .agg #[.string (bs ((atP st d).getD []))] := by
 unfold storeF
 cases atP st d <;> rfl
set_option maxRecDepth 100000 in
set_option maxHeartbeats 2000000 in
theorem lay_any (st : List (List UInt8 × List UInt8)) (pb um n : Nat) (room : Int) (d b : List UInt8) (w : World) (h : PStore w pb um n room st) (hd : d.length ≤ 10000000) (hb : b.length ≤ 10000000) (hn : n < maxLen) (hsum : sumP st ≤ 1000000000000) (hno : atP st d = none) :
  Calls Tryz.prog 96 #[.pointer (some ⟨pb, 0, none⟩), .string (bs d), .string (bs b)] w fun e w' => e = .returned (.tuple #[]) ∧ PStore w' pb um (n + 1) room (st ++ [(d, b)]) ∧ Fr (fun x => x = pb ∨ x = um) w w' := by
 have hcd := fun w' => clone3 d w' hd
 have hcb := fun w' => clone3 b w' hb
 have c2 := h.c2
 have hlp := h.lt pb (.inl rfl)
 have hlm := h.lt um (.inr rfl)
 have hne := h.ne
 have hdm : d.length ≤ maxLen := by unfold maxLen; omega
 have hbz := bs_size b
 have H := hide h
 have HF := hide (storeF_app st d b hno)
 have HS := hide (sumP_app st d b)
 have HK := hide (keyd_app (b := b) h.k hno)
 have Hs := hide h.s
 clear h hno
 generalize sumP st = sm at *
 go_enter Tryz.func96, Tryz.ntmps96
 go_wp2_with fail
 go_region_held3 (fun w' => w'.cell? ⟨pb, 2, none⟩ = some (.map (some um)))
  ((first | assumption | go_keep))
  ((first
   | (go_at_call 66; refine (hcd _).mono ?_; rintro e w4 ⟨rfl, hb4⟩; have s4 := ((bcell hb4).1 pb 2 (by simpa using hlp)).trans c2)
   | (go_at_call 66; refine (hcb _).mono ?_; rintro e w5 ⟨rfl, hb5⟩; have s5 := ((bcell hb5).1 pb 2 (Nat.lt_of_lt_of_le hlp (by simpa using hb4.size))).trans s4; obtain ⟨w6, hrun6, hm6, hg6⟩ := MapIs.store (MapIs.same (w' := w5) (unhide H).m ((hb5.block um (Nat.lt_of_lt_of_le hlm (by simpa using hb4.size))).trans (hb4.block um hlm))) 126 190 under126 hn d hdm (.agg #[.string (bs b)]); have s6 := cell_grown hg6 s5 (by simpa using hne))))
 all_goals
  have hz4 : w.heap.size ≤ w4.heap.size := by simpa using hb4.size
  have hz5 : w4.heap.size ≤ w5.heap.size := hb5.size
  have hp5 : w5.heap[pb]? = _ := (hb5.block pb (Nat.lt_of_lt_of_le hlp hz4)).trans ((hb4.block pb hlp).trans (unhide Hs))
  have hp6 : w6.heap[pb]? = _ := (hg6.block pb (Nat.lt_of_lt_of_le hlp (Nat.le_trans hz4 hz5)) (by simpa using hne)).trans hp5
  have k1 := cell_of_block (j := 1) hp6
  have f1 := free_block (j := 1) hp6
  simp only [List.getElem?_toArray, List.getElem?_cons_zero, List.getElem?_cons_succ] at k1
  have Hb := hide (And.intro hb4 (And.intro hb5 (And.intro hg6 (And.intro hp6 hm6))))
  clear hb4 hb5 hg6 hp5 hp6 hm6 s4 s5
 all_goals go_wp2_with fail
 all_goals go_end0
 all_goals
  obtain ⟨hb4, hb5, hg6, hp6, hm6⟩ := unhide Hb
  have hs7 := heap_setCell_same w6 pb 1 _ _ (.int .i64 ((sm : Int) + (b.length : Int))) hp6
  refine ⟨rfl, ⟨?_, ?_, unhide HK⟩, ?_⟩
  ·rw [unhide HS]
   exact hs7
  ·rw [← unhide HF]
   exact hm6.same (Below.heap_setCell _ _ _ _ (Ne.symm hne))
  ·have h4 : Fr (fun x => x = pb ∨ x = um) w w4 := ⟨hb4.os, hb4.tape, hb4.output, by simpa using hb4.size, fun x hx _ => hb4.block x (by simpa using hx)⟩
   have h5 : Fr (fun x => x = pb ∨ x = um) w4 w5 := Fr.below hb5
   exact h4.trans (h5.trans ((Fr.grown hg6 (fun g hg => by cases hg; exact Or.inr rfl)).trans (Fr.set _ _ _ _ (Or.inl rfl))))
set_option maxRecDepth 100000 in
set_option maxHeartbeats 2000000 in
theorem drop_any (st : List (List UInt8 × List UInt8)) (pb um n : Nat) (room : Int) (d : List UInt8) (w : World) (h : PStore w pb um n room st) (hd : d.length ≤ 10000000) (hsum : sumP st ≤ 1000000000000) :
  Calls Tryz.prog 95 #[.pointer (some ⟨pb, 0, none⟩), .string (bs d)] w fun e w' => e = .returned (.tuple #[]) ∧ PStore w' pb um n room (st.filter (fun p => !(p.1 == d))) ∧ Fr (fun x => x = pb ∨ x = um) w w' := by
 have c1 := h.c1
 have c2 := h.c2
 have f1 := free_block (j := 1) h.s
 have hlp := h.lt pb (.inl rfl)
 have hlm := h.lt um (.inr rfl)
 have hne := h.ne
 have hdm : d.length ≤ maxLen := by unfold maxLen; omega
 have hlk := MapIs.look (w := w.drew) h.m.drew 126 190 under126 (.agg #[.string ⟨#[]⟩]) (zero_sblob _) d hdm
 rw [storeF_getD] at hlk
 have hfd := field_sblob
 have hsf := sum_filter st d h.k
 have HK := hide (keyd_filter h.k (fun p => !(p.1 == d)))
 have Hs := hide h.s
 have HD := hide (storeF_drop st d)
 have hbz := bs_size ((atP st d).getD [])
 obtain ⟨D, hown, hf⟩ := h.m
 clear h
 generalize hY : (atP st d).getD [] = y at *
 generalize hS : sumP st = sm at *
 generalize hG : sumP (st.filter (fun p => !(p.1 == d))) = sg at *
 have Hf := hide hf
 clear hf hS hY
 have hsub : (sm : Int) - (y.length : Int) = (sg : Int) := by omega
 have q1 : y.length ≤ sm := by omega
 go_enter Tryz.func95, Tryz.ntmps95
 go_wp2_with fail
 go_region
 have hp7 : ((w.setCell ⟨pb, 1, none⟩ (.int .i64 (sg : Int))).drew).heap[pb]? = some (.cells #[.int .i64 room, .int .i64 (sg : Int), .map (some um)] 128 (0, 0)) := heap_setCell_same w pb 1 _ _ (.int .i64 (sg : Int)) (unhide Hs)
 have hown7 : ((w.setCell ⟨pb, 1, none⟩ (.int .i64 (sg : Int))).drew).ownsMap Tryz.prog 9 rawElem um n D := by
  obtain ⟨es, clock, hb, F, hs, hD⟩ := hown
  exact ⟨es, clock, (Below.heap_setCell _ _ _ _ (Ne.symm hne)).trans hb, F, hs, hD⟩
 have k2 := cell_of_block (j := 2) hp7
 simp only [List.getElem?_toArray, List.getElem?_cons_zero, List.getElem?_cons_succ] at k2
 have HP := hide hp7
 clear hp7 hown hlk
 go_wp2_with (at_delete; refine wpList_delete_own _ rfl _ _ 126 9 rfl 190 strKeyed under126 _ um n D rfl hown7 _ _ rfl (key_bs d hdm) ?_; intro w1 hown1 hturn1)
 go_end0
 have hg1 := hturn1.grown
 refine ⟨rfl, ⟨?_, ?_, unhide HK⟩, ?_⟩
 ·rw [hG]
  exact (hg1.block pb (by simpa using hlp) (by simpa using hne)).trans (unhide HP)
 ·rw [← unhide HD]
  exact MapIs.of_del (unhide Hf) d hown1
 ·have h0 : Fr (fun x => x = pb ∨ x = um) w (w.setCell ⟨pb, 1, none⟩ (.int .i64 (sg : Int))) := Fr.set _ _ _ _ (Or.inl rfl)
  have h1 : Fr (fun x => x = pb ∨ x = um) w ((w.setCell ⟨pb, 1, none⟩ (.int .i64 (sg : Int))).drew) := ⟨h0.os, h0.tape, h0.output, h0.size, h0.block⟩
  exact h1.trans (Fr.grown hg1 (fun g hg => by cases hg; exact Or.inr rfl))
theorem tdig (b : List UInt8) (w : World) (hb : b.length ≤ 10000000) :
  Calls Tryz.prog 51 #[.string (bs b)] w fun e w' => e = .returned (.string (bs (P.digest b))) ∧ Below w.heap.size w w' := by
 have h := textDigest_any (bs b) w (by rw [bs_size]; unfold maxLen; omega)
 rw [bs_data] at h
 exact h
theorem fr_refl (S : Nat → Prop) (w : World) : Fr S w w := ⟨rfl, rfl, rfl, Nat.le_refl _, fun _ _ _ => rfl⟩
theorem fr_drewN (S : Nat → Prop) (w : World) (n : Nat) : Fr S w (w.drewN n) := ⟨rfl, rfl, rfl, Nat.le_refl _, fun _ _ _ => rfl⟩
set_option maxRecDepth 100000 in
set_option maxHeartbeats 600000 in
theorem put_any (st : List (List UInt8 × List UInt8)) (pb um n : Nat) (room : Int) (b : List UInt8) (w : World) (h : PStore w pb um n room st) (hb : b.length ≤ 10000000) (hn : n < maxLen) (hsum : sumP st ≤ 1000000000000) (hr0 : 0 ≤ room) (hr : room ≤ 100000) :
  Calls Tryz.prog 60 #[.pointer (some ⟨pb, 0, none⟩), .string (bs b)] w fun e w' => e = .returned (.int .i64 (putP room st b).1) ∧ PStore w' pb um (n + 1) room (putP room st b).2 ∧ Fr (fun x => x = pb ∨ x = um) w w' := by
 have hdg := tdig b w hb
 have hdl : (P.digest b).length ≤ maxLen := by rw [digest_len]; decide
 have hdl2 : (P.digest b).length ≤ 10000000 := by rw [digest_len]; decide
 have hhas := fun w' (hp : PStore w' pb um n room st) => has_any st pb um n room (P.digest b) w' hp hdl
 have hlay := fun w' (hp : PStore w' pb um n room st) => lay_any st pb um n room (P.digest b) b w' hp hdl2 hb hn hsum
 have Hput := hide (show putP room st b = if (atP st (P.digest b)).isSome then (0, st) else if room < (b.length : Int) + (sumP st : Int) then (6, st) else (0, st ++ [(P.digest b, b)]) from rfl)
 have hbz := bs_size b
 have Hp := hide h
 have Hhas := hide hhas
 have Hlay := hide hlay
 clear h hhas hlay hdl hdl2
 generalize hD : P.digest b = D at *
 clear hD
 go_enter Tryz.func60, Tryz.ntmps60
 go_wp2_with fail
 refine hdg.mono ?_
 rintro e w1 ⟨rfl, hb1⟩
 have hp1 := (unhide Hp).below hb1 (Nat.le_refl _)
 have hF1 : Fr (fun x => x = pb ∨ x = um) w w1 := Fr.below hb1
 clear hb1 hdg Hp
 go_wp2_with fail
 refine (unhide Hhas w1 hp1).mono ?_
 rintro e w2 ⟨rfl, hb2⟩
 have hp2 := hp1.below hb2 (Nat.le_refl _)
 have hF2 : Fr (fun x => x = pb ∨ x = um) w w2 := hF1.trans (Fr.below hb2)
 clear hb2 hF1 hp1 Hhas
 cases ha : (atP st D).isSome with
 | true =>
  have Hr := hide (show putP room st b = (0, st) by rw [unhide Hput, ha]; rfl)
  go_wp2_with fail
  go_ret
  refine ⟨ret_int (by rw [unhide Hr]), ?_, hF2⟩
  rw [unhide Hr]
  exact hp2.more (Nat.le_succ _)
 | false =>
  have c0 := hp2.c0
  have c1 := hp2.c1
  have hno : atP st D = none := by simpa using ha
  have hwr : IntKind.i64.wrap ((sumP st : Int) + (b.length : Int)) = (sumP st : Int) + (b.length : Int) := by rw [IntKind.wrap_i64]; omega
  have Hp2 := hide hp2
  have Hno := hide hno
  clear hp2 hno
  by_cases hroom : room < (b.length : Int) + (sumP st : Int)
  ·have hW : P.within ((sumP st : Int) + (b.length : Int)) 0 room = false := by unfold P.within; simp; omega
   have Hr := hide (show putP room st b = (6, st) by rw [unhide Hput, ha, if_neg (by simp), if_pos hroom])
   clear hroom ha Hput hwr
   generalize sumP st = sm at *
   go_wp2_with fail
   go_quiet ((go_at_call 86; exact Calls.quiet_of_same (within_any _ _ _ _ hr0)))
   go_wp2_with fail
   go_ret
   refine ⟨ret_int (by rw [unhide Hr]), ?_, hF2.trans (fr_drewN _ _ _)⟩
   rw [unhide Hr]
   exact (show PStore (w2.drewN nq) pb um n room st from (unhide Hp2).same (fun _ _ => rfl)).more (Nat.le_succ _)
  ·have hW : P.within ((sumP st : Int) + (b.length : Int)) 0 room = true := by unfold P.within; simp; omega
   have Hr := hide (show putP room st b = (0, st ++ [(D, b)]) by rw [unhide Hput, ha, if_neg (by simp), if_neg hroom])
   have hs1 : sumP st ≤ 100000 := by omega
   clear hroom ha Hput hwr
   generalize sumP st = sm at *
   go_wp2_with fail
   go_quiet ((go_at_call 86; exact Calls.quiet_of_same (within_any _ _ _ _ hr0)))
   go_wp2_with fail
   refine (unhide Hlay _ (show PStore (w2.drewN nq) pb um n room st from (unhide Hp2).same (fun _ _ => rfl)) (unhide Hno)).mono ?_
   rintro e w3 ⟨rfl, hp3, hf3⟩
   have hF3 := (hF2.trans (fr_drewN _ _ nq)).trans hf3
   clear hf3
   go_wp2_with fail
   go_ret
   refine ⟨ret_int (by rw [unhide Hr]), ?_, hF3⟩
   rw [unhide Hr]
   exact hp3
set_option maxRecDepth 100000 in
set_option maxHeartbeats 600000 in
theorem get_any (st : List (List UInt8 × List UInt8)) (pb um n : Nat) (room : Int) (d : List UInt8) (w : World) (h : PStore w pb um n room st) (hd : d.length ≤ maxLen) (hsz : ∀ b, atP st d = some b → b.length ≤ 10000000) :
  Calls Tryz.prog 159 #[.pointer (some ⟨pb, 0, none⟩), .string (bs d)] w fun e w' => e = .returned (.tuple #[.string (bs (getB st d)), .int .i64 (getE st d)]) ∧ Below w.heap.size w w' := by
 have hhas := has_any st pb um n room d w h hd
 cases ha : atP st d with
 | none =>
  have h1 : getB st d = [] := by unfold getB; rw [ha]; rfl
  have h2 : getE st d = 7 := by unfold getE; rw [ha]; rfl
  rw [ha] at hhas
  rw [h1, h2]
  clear ha h1 h2 hsz
  go_enter Tryz.func159, Tryz.ntmps159
  go_wp2_with fail
  refine hhas.mono ?_
  rintro e w1 ⟨rfl, hb1⟩
  go_wp2_with fail
  go_ret2
  exact ⟨rfl, hb1⟩
 | some b =>
  have h1 : getB st d = b := by unfold getB; rw [ha]; rfl
  have h2 : getE st d = 0 := by unfold getE; rw [ha]; rfl
  have hF : storeF st d = some (.agg #[.string (bs b)]) := by unfold storeF; rw [ha]; rfl
  have hcl := fun w' => clone3 b w' (hsz b ha)
  have hfd := field_sblob
  rw [ha] at hhas
  rw [h1, h2]
  have Hp := hide h
  clear ha h1 h2 hsz h
  go_enter Tryz.func159, Tryz.ntmps159
  go_wp2_with fail
  refine hhas.mono ?_
  rintro e w1 ⟨rfl, hb1⟩
  have hp1 := (unhide Hp).below hb1 (Nat.le_refl _)
  have c2 := hp1.c2
  have hm1 := hp1.m
  clear hhas hp1
  go_wp2_with (at_lookup; refine wp_look rfl _ _ 126 rfl 190 under126 (.agg #[.string ⟨#[]⟩]) (zero_sblob _) um n (storeF st) rfl hm1 d rfl hd ?_; rw [hF]; simp only [Option.getD_some])
  refine (hcl _).mono ?_
  rintro e w2 ⟨rfl, hb2⟩
  have hbb := hb1.trans (hb2.mono hb1.size)
  clear hb2 hb1 hm1
  go_wp2_with fail
  go_ret2
  exact ⟨rfl, hbb⟩
set_option maxRecDepth 100000 in
set_option maxHeartbeats 600000 in
theorem plant_any (st : List (List UInt8 × List UInt8)) (pb um n : Nat) (room : Int) (d b : List UInt8) (w : World) (h : PStore w pb um n room st) (hd : d.length ≤ 10000000) (hb : b.length ≤ 10000000) (hn : n < maxLen) (hsum : sumP st ≤ 1000000000000) :
  Calls Tryz.prog 59 #[.pointer (some ⟨pb, 0, none⟩), .string (bs d), .string (bs b)] w fun e w' => e = .returned (.tuple #[]) ∧ PStore w' pb um (n + 1) room (plantP st d b) ∧ Fr (fun x => x = pb ∨ x = um) w w' := by
 have hdr := drop_any st pb um n room d w h hd hsum
 have hsf := sum_filter st d h.k
 have hlay := fun w' (hp : PStore w' pb um n room (st.filter (fun p => !(p.1 == d)))) => lay_any (st.filter (fun p => !(p.1 == d))) pb um n room d b w' hp hd hb hn (by omega) (by rw [at_filter, if_pos rfl])
 have Hlay := hide hlay
 have Hpl := hide (show plantP st d b = st.filter (fun p => !(p.1 == d)) ++ (if b = [] then [] else [(d, b)]) from rfl)
 clear hlay hsf h
 generalize st.filter (fun p => !(p.1 == d)) = sf at *
 go_enter Tryz.func59, Tryz.ntmps59
 go_wp2_with fail
 refine hdr.mono ?_
 rintro e w1 ⟨rfl, hp1, hf1⟩
 clear hdr
 by_cases hbe : b = []
 ·subst hbe
  have Hr := hide (show plantP st d [] = sf by rw [unhide Hpl]; simp)
  have e1 : ((bs ([] : List UInt8)).toList == (⟨#[]⟩ : ByteArray).toList) = true := str_eq2 [] []
  have e2 : (bs ([] : List UInt8)).toList.isEmpty = true := by rw [ByteArray.toList_eq, bs_data]; rfl
  go_wp2_with fail
  go_end0
  refine ⟨rfl, ?_, hf1⟩
  rw [unhide Hr]
  exact hp1.more (Nat.le_succ _)
 ·have Hr := hide (show plantP st d b = sf ++ [(d, b)] by rw [unhide Hpl, if_neg hbe])
  have e1 : ((bs b).toList == (⟨#[]⟩ : ByteArray).toList) = false := by
   have := str_eq2 b []
   rw [show (b == ([] : List UInt8)) = false by simpa using hbe] at this
   exact this
  have e2 : (bs b).toList.isEmpty = false := by rw [ByteArray.toList_eq, bs_data]; simpa using hbe
  clear hbe
  go_wp2_with fail
  refine (unhide Hlay w1 hp1).mono ?_
  rintro e w2 ⟨rfl, hp2, hf2⟩
  have hF := hf1.trans hf2
  go_wp2_with fail
  go_end0
  refine ⟨rfl, ?_, hF⟩
  rw [unhide Hr]
  exact hp2
end Go.Proofs.YtjmacegibchplaaGreatDoor