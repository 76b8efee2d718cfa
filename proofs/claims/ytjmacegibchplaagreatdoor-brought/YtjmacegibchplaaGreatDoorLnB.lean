import Derived.Test.YtjmacegibchplaaGreatDoorPrD
/-
  The program's link: what becomes of a try; New, next, count.
-/
namespace Go.Proofs.YtjmacegibchplaaGreatDoor
open Go.RowKit Go.Maps Go.WideMaps
set_option linter.unusedVariables false
def heardP (k : Int) : Int := if k = 1 then 0 else if k = 3 then 2 else 1
theorem heard_any (k : Int) (w : World) : Calls Tryz.prog 176 #[.int .i64 k] w fun e w' => e = .returned (.int .i64 (heardP k)) ∧ w' = w := by
  unfold heardP
  by_cases h1 : k = 1
  · subst h1
    go_enter Tryz.func176, Tryz.ntmps176
    go_wp2_with fail
    go_ret
    exact ⟨rfl, rfl⟩
  · by_cases h3 : k = 3
    · subst h3
      go_enter Tryz.func176, Tryz.ntmps176
      go_wp2_with fail
      go_ret
      exact ⟨rfl, rfl⟩
    · rw [if_neg h1, if_neg h3]
      have b1 : (k == 1) = false := by simpa using h1
      have b3 : (k == 3) = false := by simpa using h3
      go_enter Tryz.func176, Tryz.ntmps176
      go_wp2_with fail
      go_ret
      exact ⟨rfl, rfl⟩
def answP (k : Int) : Bool := !(k == 1) && !(k == 2)
theorem answered_any (k : Int) (w : World) : Calls Tryz.prog 177 #[.int .i64 k] w fun e w' => e = .returned (.bool (answP k)) ∧ w' = w := by
  unfold answP
  by_cases h1 : k = 1
  · subst h1
    go_enter Tryz.func177, Tryz.ntmps177
    go_wp2_with fail
    go_ret
    exact ⟨rfl, rfl⟩
  · have b1 : (k == 1) = false := by simpa using h1
    by_cases h2 : k = 2
    · subst h2
      go_enter Tryz.func177, Tryz.ntmps177
      go_wp2_with fail
      go_ret
      exact ⟨rfl, rfl⟩
    · have b2 : (k == 2) = false := by simpa using h2
      go_enter Tryz.func177, Tryz.ntmps177
      go_wp2_with fail
      go_ret
      exact ⟨ret_bool (by simp [bne]), rfl⟩
def noFate (k : Int) : Bool := !(P.within k 0 3)
theorem noFate_any (k : Int) (w : World) : Calls Tryz.prog 129 #[.int .i64 k] w fun e w' => e = .returned (.bool (noFate k)) ∧ w' = w := by
  have hw := within_any k 0 3 w (by decide)
  unfold noFate
  generalize P.within k 0 3 = B at *
  go_enter Tryz.func129, Tryz.ntmps129
  go_wp2_with (go_at_call 86; refine hw.mono ?_; rintro e w' ⟨rfl, hw'⟩; rw [hw']; clear hw' w')
  go_ret
  exact ⟨rfl, rfl⟩
def IntsAt (w : World) (a : Option Addr) (l : List Int) : Prop := l = [] ∨ ∃ b o, a = some ⟨b, o, none⟩ ∧ ∀ i (h : i < l.length), w.cell? ⟨b, o + i, none⟩ = some (.int .i64 l[i])
theorem IntsAt.below {B : Nat} {w w' : World} {a : Option Addr} {l : List Int} (h : IntsAt w a l) (hb : Below B w w') (hB : w.heap.size ≤ B) : IntsAt w' a l := by
  rcases h with h | ⟨b, o, e, h⟩
  · exact .inl h
  · exact .inr ⟨b, o, e, fun i hi => (hb.cell (p := ⟨b, _, none⟩) (Nat.lt_of_lt_of_le (block_lt (h i hi)) hB)).trans (h i hi)⟩
set_option maxHeartbeats 1000000 in
theorem indexFunc_any (l : List Int) (a : Option Addr) (c : Nat) (w : World) (hl : l.length ≤ maxLen) (hi : IntsAt w a l) :
    Calls Tryz.prog 173 #[.slice a l.length c, .func (.func 129) #[] #[]] w fun e w' => ∃ r : Int, e = .returned (.int .i64 r) ∧ decide (0 ≤ r) = l.any noFate ∧ w' = w := by
  unfold maxLen at hl
  have e1 : ∀ args w, (callFunc 129 args).run Tryz.prog w = .ok (.enter 129 args) w := enters_of Tryz.func129 (by kernel_rfl) rfl
  have hnf := noFate_any
  go_enter Tryz.func173, Tryz.ntmps173
  go_wp2_with fail
  go_loop [8] (fun i => ∃ k : Nat, k ≤ l.length ∧ i = .int .i64 k ∧ (l.take k).any noFate = false) (fun i => l.length - (intOf i).toNat)
  case atStart => exact ⟨0, by omega, rfl, by simp⟩
  case round =>
    obtain ⟨k, hk, rfl, hno⟩ := hrel
    have Hno := hide hno
    clear hno
    by_cases hlt : k < l.length
    · obtain ⟨b, o, rfl, hc⟩ : ∃ b o, a = some ⟨b, o, none⟩ ∧ ∀ i (h : i < l.length), w.cell? ⟨b, o + i, none⟩ = some (.int .i64 l[i]) := by
        rcases hi with h | h
        · subst h; simp at hlt
        · exact h
      have ck := hc k hlt
      have q1 : (k : Int) < (l.length : Int) := by omega
      have Hs := hide (any_take_succ noFate l k hlt)
      have Ha := hide (any_at noFate l k hlt)
      clear hc hi
      generalize l[k] = x at *
      cases hx : noFate x with
      | true =>
        have Hr := hide (unhide Ha hx)
        have hn := fun w => hnf x w
        rw [hx] at hn
        go_wp2_with (go_at_call 129; refine (hn _).mono ?_; rintro e w' ⟨rfl, hw'⟩; rw [hw']; clear hw' w')
        go_ret
        exact ⟨_, rfl, by rw [unhide Hr]; simp, rfl⟩
      | false =>
        have Hr := hide (show (l.take (k + 1)).any noFate = false by rw [unhide Hs, unhide Hno, hx]; rfl)
        have hn := fun w => hnf x w
        rw [hx] at hn
        go_wp2_with (go_at_call 129; refine (hn _).mono ?_; rintro e w' ⟨rfl, hw'⟩; rw [hw']; clear hw' w')
        go_round
        case rel => exact ⟨k + 1, by omega, by go_num, unhide Hr⟩
        case measure => simp [intOf]; omega
    · obtain rfl : k = l.length := by omega
      go_wp2_with fail
      go_ret
      exact ⟨_, rfl, by have := unhide Hno; rw [List.take_length] at this; rw [this]; decide, rfl⟩
theorem containsFunc_any (l : List Int) (a : Option Addr) (c : Nat) (w : World) (hl : l.length ≤ maxLen) (hi : IntsAt w a l) :
    Calls Tryz.prog 128 #[.slice a l.length c, .func (.func 129) #[] #[]] w fun e w' => e = .returned (.bool (l.any noFate)) ∧ w' = w := by
  have h := indexFunc_any l a c w hl hi
  go_enter Tryz.func128, Tryz.ntmps128
  go_wp2_with fail
  refine h.mono ?_
  rintro e w' ⟨r, rfl, hr, rfl⟩
  clear h
  go_wp2_with fail
  go_ret
  exact ⟨ret_bool rfl, rfl⟩
def LnkIs (w : World) (lb : Nat) (s : Nat × Nat × Nat) (tries : Int) (a : Option Addr) (n c : Nat) : Prop :=
  w.heap[lb]? = some (.cells #[.int .i64 (s.1 : Int), .int .i64 (s.2.1 : Int), .int .i64 (s.2.2 : Int), .int .i64 tries, .slice a n c] 134 (0, 0))
def planV (tries batch : Int) (a : Option Addr) (n c : Nat) : Value := .agg #[.int .i64 tries, .int .i64 batch, .slice a n c]
theorem linkNew_no (tries batch : Int) (l : List Int) (a : Option Addr) (c : Nat) (w : World) (hl : l.length ≤ maxLen) (hi : IntsAt w a l) (hno : (P.within tries 1 9 && !(l.any noFate)) = false) :
    Calls Tryz.prog 87 #[planV tries batch a l.length c] w fun e w' => e = .returned (.tuple #[.pointer none, .int .i64 5]) ∧ Below w.heap.size w w' := by
  have hbA : Below w.heap.size w (w.alloc (.cells #[.int .i64 tries, .int .i64 batch, .slice a l.length c] 57)) := (Below.refl _ _).alloc (Nat.le_refl _) _
  have hw := fun w => within_any tries 1 9 w (by decide)
  have hcf := containsFunc_any l a c _ hl (hi.below hbA (Nat.le_refl _))
  have Hb := hide hbA
  clear hbA hi
  unfold planV
  generalize P.within tries 1 9 = B at *
  generalize l.any noFate = C at *
  generalize l.length = n at *
  cases B with
  | false =>
    go_enter Tryz.func87, Tryz.ntmps87
    go_wp2_with (go_at_call 86; refine (hw _).mono ?_; rintro e w' ⟨rfl, hw'⟩; rw [hw']; clear hw' w')
    go_ret2
    exact ⟨rfl, unhide Hb⟩
  | true =>
    cases C with
    | false => simp at hno
    | true =>
      go_enter Tryz.func87, Tryz.ntmps87
      go_wp2_with (first | (go_at_call 86; refine (hw _).mono ?_; rintro e w' ⟨rfl, hw'⟩; rw [hw']; clear hw' w') | (go_at_call 128; refine hcf.mono ?_; rintro e w' ⟨rfl, hw'⟩; rw [hw']; clear hw' w'))
      go_ret2
      exact ⟨rfl, unhide Hb⟩
theorem linkNew_ok (tries batch : Int) (l : List Int) (a : Option Addr) (c : Nat) (w : World) (hl : l.length ≤ maxLen) (hi : IntsAt w a l) (hok : (P.within tries 1 9 && !(l.any noFate)) = true) :
    Calls Tryz.prog 87 #[planV tries batch a l.length c] w fun e w' => e = .returned (.tuple #[.pointer (some ⟨w.heap.size + 1, 0, none⟩), .int .i64 0]) ∧ LnkIs w' (w.heap.size + 1) (0, 0, 0) tries a l.length c ∧ Below w.heap.size w w' := by
  have hbA : Below w.heap.size w (w.alloc (.cells #[.int .i64 tries, .int .i64 batch, .slice a l.length c] 57)) := (Below.refl _ _).alloc (Nat.le_refl _) _
  have hw := fun w => within_any tries 1 9 w (by decide)
  have hcf := containsFunc_any l a c _ hl (hi.below hbA (Nat.le_refl _))
  have Hb := hide hbA
  clear hbA hi
  rw [Bool.and_eq_true] at hok
  obtain ⟨h1, h2⟩ := hok
  rw [Bool.not_eq_true'] at h2
  rw [h1] at hw
  rw [h2] at hcf
  clear h1 h2
  unfold planV LnkIs
  generalize l.length = n at *
  go_enter Tryz.func87, Tryz.ntmps87
  go_wp2_with (first | (go_at_call 86; refine (hw _).mono ?_; rintro e w' ⟨rfl, hw'⟩; rw [hw']; clear hw' w') | (go_at_call 128; refine hcf.mono ?_; rintro e w' ⟨rfl, hw'⟩; rw [hw']; clear hw' w'))
  go_ret2
  refine ⟨by simp, ?_, (unhide Hb).alloc (by simp) _⟩
  have := heap_alloc_new (w.alloc (.cells #[.int .i64 tries, .int .i64 batch, .slice a n c] 57)) (.cells #[.int .i64 0, .int .i64 0, .int .i64 0, .int .i64 tries, .slice a n c] 134)
  simpa using this
set_option maxHeartbeats 1000000 in
theorem next_any (l : List Int) (a : Option Addr) (c lb : Nat) (s : Nat × Nat × Nat) (tries : Int) (w : World) (h : LnkIs w lb s tries a l.length c) (hi : IntsAt w a l) (hl : l.length ≤ maxLen) (hs : s.1 ≤ 1000000000000) :
    Calls Tryz.prog 174 #[.pointer (some ⟨lb, 0, none⟩)] w fun e w' => e = .returned (.int .i64 (l.getD s.1 0)) ∧ ∃ q, w' = w.drewN q := by
  unfold maxLen at hl
  obtain ⟨s1, s2, s3⟩ := s
  unfold LnkIs at h
  simp only at h hs ⊢
  have c0 := cell_of_block (j := 0) h
  have c4 := cell_of_block (j := 4) h
  simp only [List.getElem?_toArray, List.getElem?_cons_zero, List.getElem?_cons_succ] at c0 c4
  by_cases hlt : s1 < l.length
  · obtain ⟨b, o, rfl, hc⟩ : ∃ b o, a = some ⟨b, o, none⟩ ∧ ∀ i (h : i < l.length), w.cell? ⟨b, o + i, none⟩ = some (.int .i64 l[i]) := by
      rcases hi with h | h
      · subst h; simp at hlt
      · exact h
    have ck := hc s1 hlt
    have Hg := hide (show l.getD s1 0 = l[s1] by rw [List.getD_eq_getElem?_getD, List.getElem?_eq_getElem hlt]; rfl)
    have q1 : (s1 : Int) < (l.length : Int) := by omega
    clear hc hi h
    generalize l[s1] = x at *
    generalize hn : l.length = n at *
    clear hn
    go_enter Tryz.func174, Tryz.ntmps174
    go_wp2_with fail
    go_quiet (fail)
    have c0' : (w.drewN nq).cell? ⟨lb, 0, none⟩ = some (.int .i64 (s1 : Int)) := c0
    have c4' : (w.drewN nq).cell? ⟨lb, 4, none⟩ = some (.slice (some ⟨b, o, none⟩) n c) := c4
    have ck' : (w.drewN nq).cell? ⟨b, o + s1, none⟩ = some (.int .i64 x) := ck
    generalize hw8 : w.drewN nq = w8 at *
    have Hw8 := hide hw8
    clear hw8 c0 c4 ck
    go_wp2_with fail
    go_quiet (fail)
    go_wp2_with fail
    go_ret
    exact ⟨ret_int (unhide Hg).symm, _, by rw [← unhide Hw8, World.drewN_drewN]⟩
  · have Hg := hide (show l.getD s1 0 = 0 by rw [List.getD_eq_getElem?_getD, List.getElem?_eq_none (by omega)]; rfl)
    have q1 : ¬ (s1 : Int) < (l.length : Int) := by omega
    clear hi h
    generalize hn : l.length = n at *
    clear hn
    go_enter Tryz.func174, Tryz.ntmps174
    go_wp2_with fail
    go_quiet (fail)
    go_wp2_with fail
    go_ret
    exact ⟨ret_int (unhide Hg).symm, _, rfl⟩
end Go.Proofs.YtjmacegibchplaaGreatDoor

/-
  The program's link: count; putAll, and what is heard (the closures of bring).
-/
namespace Go.Proofs.YtjmacegibchplaaGreatDoor
open Go.RowKit Go.Maps Go.WideMaps
set_option linter.unusedVariables false
theorem bytes_succ (l : List (List UInt8)) (k : Nat) (h : k < l.length) : bytesP (l.take (k + 1)) = bytesP (l.take k) + l[k].length := by
  rw [List.take_succ_eq_append_getElem h, bytes_app]; simp [bytesP]
theorem bytes_take (l : List (List UInt8)) (k : Nat) : bytesP (l.take k) ≤ bytesP l := by
  have := bytes_app (l.take k) (l.drop k)
  rw [List.take_append_drop] at this
  omega
theorem LnkIs.fr {S : Nat → Prop} {w w' : World} {lb : Nat} {s : Nat × Nat × Nat} {tries : Int} {a : Option Addr} {n c : Nat} (h : LnkIs w lb s tries a n c) (hf : Fr S w w') (hn : ¬ S lb) : LnkIs w' lb s tries a n c := (hf.block lb (Array.getElem?_eq_some_iff.1 h).1 hn).trans h
theorem LnkIs.lt {w : World} {lb : Nat} {s : Nat × Nat × Nat} {tries : Int} {a : Option Addr} {n c : Nat} (h : LnkIs w lb s tries a n c) : lb < w.heap.size := (Array.getElem?_eq_some_iff.1 h).1
theorem cell_fr {S : Nat → Prop} {w w' : World} (hf : Fr S w w') {b o : Nat} {v : Value} (hc : w.cell? ⟨b, o, none⟩ = some v) (hn : ¬ S b) : w'.cell? ⟨b, o, none⟩ = some v :=
  (World.cell?_of_block (a := ⟨b, o, none⟩) (hf.block b (block_lt hc) hn)).trans hc
theorem TextsAt.fr {S : Nat → Prop} {w w' : World} {a : Option Addr} {l : List (List UInt8)} (h : TextsAt w a l) (hf : Fr S w w') (hn : ∀ b o q, a = some ⟨b, o, q⟩ → ¬ S b) : TextsAt w' a l := by
  rcases h with h | ⟨b, o, e, h⟩
  · exact .inl h
  · exact .inr ⟨b, o, e, fun i hi => cell_fr hf (h i hi) (hn b o none e)⟩
set_option maxRecDepth 100000 in
set_option maxHeartbeats 2000000 in
theorem count_any (l : List (List UInt8)) (ab : Option Addr) (cb lb : Nat) (s : Nat × Nat × Nat) (tries : Int) (a : Option Addr) (n c : Nat) (w : World) (h : LnkIs w lb s tries a n c) (ht : TextsAt w ab l) (hne : ∀ b o q, ab = some ⟨b, o, q⟩ → b ≠ lb) (hl : l.length ≤ 2000000) (hby : bytesP l ≤ 1000000000000)
    (hs : s.1 ≤ 1000000000000 ∧ s.2.1 ≤ 1000000000000 ∧ s.2.2 ≤ 1000000000000) :
    Calls Tryz.prog 175 #[.pointer (some ⟨lb, 0, none⟩), .slice ab l.length cb] w fun e w' => e = .returned (.tuple #[]) ∧ LnkIs w' lb (s.1 + 1, s.2.1 + l.length, s.2.2 + bytesP l) tries a n c ∧ Fr (fun x => x = lb) w w' := by
  obtain ⟨s1, s2, s3⟩ := s
  simp only at hs ⊢
  obtain ⟨hs1, hs2, hs3⟩ := hs
  have h0 : w.heap[lb]? = some (.cells #[.int .i64 (s1 : Int), .int .i64 (s2 : Int), .int .i64 (s3 : Int), .int .i64 tries, .slice a n c] 134 (0, 0)) := h
  have hlb := h.lt
  have c0 := cell_of_block (j := 0) h0
  have c1 := cell_of_block (j := 1) h0
  have f0 := free_block (j := 0) h0
  have f1 := free_block (j := 1) h0
  simp only [List.getElem?_toArray, List.getElem?_cons_zero, List.getElem?_cons_succ] at c0 c1
  have H0 := hide h0
  clear h h0
  go_enter Tryz.func175, Tryz.ntmps175
  go_wp2_with fail
  go_loopw [28] (fun i wr => ∃ k : Nat, k ≤ l.length ∧ i = .int .i64 k ∧ LnkIs wr lb (s1 + 1, s2 + l.length, s3 + bytesP (l.take k)) tries a n c ∧ Fr (fun x => x = lb) w wr) (fun i _ => l.length - (intOf i).toNat)
  case atStart =>
    refine ⟨0, by omega, rfl, ?_, (Fr.set (S := fun x => x = lb) _ _ _ _ rfl).trans (Fr.set (S := fun x => x = lb) _ _ _ _ rfl)⟩
    have h1 := heap_setCell_same w lb 0 _ _ (.int .i64 ((s1 : Int) + 1)) (unhide H0)
    have h2 := heap_setCell_same _ lb 1 _ _ (.int .i64 ((s2 : Int) + (l.length : Int))) h1
    exact h2
  case round =>
    obtain ⟨k, hk, rfl, hln, hfr⟩ := hrel
    clear c0 c1 f0 f1
    have hln0 : wr.heap[lb]? = some (.cells #[.int .i64 ((s1 + 1 : Nat) : Int), .int .i64 ((s2 + l.length : Nat) : Int), .int .i64 ((s3 + bytesP (l.take k) : Nat) : Int), .int .i64 tries, .slice a n c] 134 (0, 0)) := hln
    by_cases hlt : k < l.length
    · obtain ⟨b, o, rfl, hct⟩ : ∃ b o, ab = some ⟨b, o, none⟩ ∧ ∀ i (h : i < l.length), w.cell? ⟨b, o + i, none⟩ = some (strVal l[i]) := by
        rcases ht with h | h
        · subst h; simp at hlt
        · exact h
      have ck := cell_fr hfr (hct k hlt) (hne b o none rfl)
      unfold strVal at ck
      have q1 : (k : Int) < (l.length : Int) := by omega
      have c2 := cell_of_block (j := 2) hln0
      have f2 := free_block (j := 2) hln0
      simp only [List.getElem?_toArray, List.getElem?_cons_zero, List.getElem?_cons_succ] at c2
      have hbz := bs_size l[k]
      have hbk := bytes_succ l k hlt
      have hbt := bytes_take l (k + 1)
      have Hln := hide hln0
      clear hct ht hln hln0
      generalize l[k] = x at *
      generalize hQ : bytesP (l.take k) = bq at *
      generalize hR : bytesP (l.take (k + 1)) = br at *
      go_wp2_with fail
      go_roundw
      case rel =>
        refine ⟨k + 1, by omega, by go_num, ?_, hfr.trans (Fr.set (S := fun x => x = lb) _ _ _ _ rfl)⟩
        have h1 := heap_setCell_same wr lb 2 _ _ (.int .i64 (((s3 + bq : Nat) : Int) + (x.length : Int))) (unhide Hln)
        rw [hR, hbk, ← Nat.add_assoc]
        exact h1
      case measure => simp [intOf]; omega
    · obtain rfl : k = l.length := by omega
      rw [List.take_length] at hln
      go_wp2_with fail
      go_end0
      exact ⟨rfl, hln, hfr⟩
theorem put_sum {M : Nat} {room : Int} {st : List (List UInt8 × List UInt8)} (h : sumP st ≤ M) (hr : room ≤ (M : Int)) (b : List UInt8) : sumP (putP room st b).2 ≤ M := by
  unfold putP
  split
  · exact h
  · split
    · exact h
    · rw [sumP_app]; omega
theorem puts_drop (room : Int) (st : List (List UInt8 × List UInt8)) (l : List (List UInt8)) (k : Nat) (h : k < l.length) : putsP room st (l.drop k) = if (putP room st l[k]).1 ≠ 0 then putP room st l[k] else putsP room (putP room st l[k]).2 (l.drop (k + 1)) := by
  rw [List.drop_eq_getElem_cons h]
  rfl
set_option maxRecDepth 100000 in
set_option maxHeartbeats 2000000 in
theorem putAll_any (l : List (List UInt8)) (ab : Option Addr) (cb : Nat) (st : List (List UInt8 × List UInt8)) (pb um n : Nat) (room : Int) (w : World) (h : PStore w pb um n room st) (ht : TextsAt w ab l) (hne : ∀ b o q, ab = some ⟨b, o, q⟩ → b ≠ pb ∧ b ≠ um)
    (hl : l.length ≤ 2000000) (hx : ∀ x ∈ l, x.length ≤ 10000000) (hn : n + l.length ≤ 1000000000000) (hsum : sumP st ≤ 1000000000000) (hr0 : 0 ≤ room) (hr : room ≤ 100000) :
    Calls Tryz.prog 136 #[.pointer (some ⟨pb, 0, none⟩), .slice ab l.length cb] w fun e w' => e = .returned (.int .i64 (putsP room st l).1) ∧ PStore w' pb um (n + l.length) room (putsP room st l).2 ∧ sumP (putsP room st l).2 ≤ 1000000000000 ∧ Fr (fun x => x = pb ∨ x = um) w w' := by
  have Hh := hide h
  clear h
  go_enter Tryz.func136, Tryz.ntmps136
  go_wp2_with fail
  go_loopw [10] (fun i wr => ∃ (k : Nat) (sk : List (List UInt8 × List UInt8)), k ≤ l.length ∧ i = .int .i64 k ∧ PStore wr pb um (n + k) room sk ∧ sumP sk ≤ 1000000000000 ∧ putsP room st l = putsP room sk (l.drop k) ∧ Fr (fun x => x = pb ∨ x = um) w wr) (fun i _ => l.length - (intOf i).toNat)
  case atStart => exact ⟨0, st, by omega, rfl, unhide Hh, hsum, by simp, fr_refl _ _⟩
  case round =>
    obtain ⟨k, sk, hk, rfl, hps, hsk, heq, hfr⟩ := hrel
    clear Hh
    have Heq := hide heq
    clear heq
    by_cases hlt : k < l.length
    · obtain ⟨b, o, rfl, hct⟩ : ∃ b o, ab = some ⟨b, o, none⟩ ∧ ∀ i (h : i < l.length), w.cell? ⟨b, o + i, none⟩ = some (strVal l[i]) := by
        rcases ht with h | h
        · subst h; simp at hlt
        · exact h
      have ck := cell_fr hfr (hct k hlt) (by have := hne b o none rfl; omega)
      unfold strVal at ck
      have q1 : (k : Int) < (l.length : Int) := by omega
      have hpt := put_any sk pb um (n + k) room l[k] wr hps (hx _ (List.getElem_mem hlt)) (by unfold maxLen; omega) hsk hr0 hr
      have Hd := hide (puts_drop room sk l k hlt)
      have hsn := put_sum (b := l[k]) hsk (by omega : room ≤ ((1000000000000 : Nat) : Int))
      clear hct ht hps
      generalize l[k] = x at *
      generalize hP : putP room sk x = p at *
      obtain ⟨p1, p2⟩ := p
      simp only at hpt hsn Hd
      clear hP
      go_wp2_with fail
      refine hpt.mono ?_
      rintro e w2 ⟨rfl, hp2, hf2⟩
      have hfr2 := hfr.trans hf2
      clear hpt hf2 hfr
      by_cases h0 : p1 = 0
      · subst h0
        have Hr := hide (show putsP room st l = putsP room p2 (l.drop (k + 1)) by rw [unhide Heq, unhide Hd]; simp)
        go_wp2_with fail
        go_roundw
        case rel => exact ⟨k + 1, p2, by omega, by go_num, hp2, hsn, unhide Hr, hfr2⟩
        case measure => simp [intOf]; omega
      · have Hr := hide (show putsP room st l = (p1, p2) by rw [unhide Heq, unhide Hd]; simp [h0])
        have b0 : (p1 == 0) = false := by simpa using h0
        go_wp2_with fail
        go_ret
        exact ⟨ret_int (by rw [unhide Hr]), by rw [unhide Hr]; exact hp2.more (by omega), by rw [unhide Hr]; exact hsn, hfr2⟩
    · obtain rfl : k = l.length := by omega
      have Hr := hide (show putsP room st l = (0, sk) by rw [unhide Heq, List.drop_length]; rfl)
      go_wp2_with fail
      go_ret
      exact ⟨ret_int (by rw [unhide Hr]), by rw [unhide Hr]; exact hps, by rw [unhide Hr]; exact hsk, hfr⟩
end Go.Proofs.YtjmacegibchplaaGreatDoor
