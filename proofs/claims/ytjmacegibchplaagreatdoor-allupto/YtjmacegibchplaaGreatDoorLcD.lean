import Derived.Test.YtjmacegibchplaaGreatDoorLcB
import Derived.Test.YtjmacegibchplaaGreatDoorUpE
namespace Go.Proofs.YtjmacegibchplaaGreatDoor
open Go.RowKit Go.Maps Go.WideMaps
set_option linter.unusedVariables false
theorem try_len (room : Int) (L : List Int) (l : List (List UInt8)) : ∀ (k : Nat) (st : List (List UInt8 × List UInt8)) (s : Nat × Nat × Nat), (tryP room L l k st s).2.1.length ≤ st.length + k * (2 * l.length)
 | 0, st, s => by simp [tryP]
 | k + 1, st, s => by
  have h1 := puts_len room l st
  have h2 := puts_len room l (putsP room st l).2
  have h3 := fun st s => try_len room L l k st s
  rw [Nat.add_mul, Nat.one_mul]
  simp only [tryP]
  generalize L.getD s.1 0 = f
  by_cases e1 : f = 1
  ·rw [if_pos e1]; have := h3 st (s.1 + 1, s.2.1 + l.length, s.2.2 + bytesP l); omega
  ·rw [if_neg e1]
   have hq : (if f = 3 then putsP room (putsP room st l).2 l else putsP room st l).2.length ≤ st.length + 2 * l.length := by split <;> omega
   generalize (if f = 3 then putsP room (putsP room st l).2 l else putsP room st l) = q at *
   by_cases e2 : f ≠ 2
   ·rw [if_pos e2]; simp only; omega
   ·rw [if_neg e2]; have := h3 q.2 (s.1 + 1, s.2.1 + l.length, s.2.2 + bytesP l); omega
theorem try_sum {M : Nat} {room : Int} (hr : room ≤ (M : Int)) (L : List Int) (l : List (List UInt8)) : ∀ (k : Nat) (st : List (List UInt8 × List UInt8)) (s : Nat × Nat × Nat), sumP st ≤ M → sumP (tryP room L l k st s).2.1 ≤ M
 | 0, st, s, h => by simpa [tryP] using h
 | k + 1, st, s, h => by
  have h1 := puts_sum hr l st h
  have h2 := puts_sum hr l _ h1
  simp only [tryP]
  generalize L.getD s.1 0 = f
  by_cases e1 : f = 1
  ·rw [if_pos e1]; exact try_sum hr L l k _ _ h
  ·rw [if_neg e1]
   have hq : sumP (if f = 3 then putsP room (putsP room st l).2 l else putsP room st l).2 ≤ M := by split <;> assumption
   generalize (if f = 3 then putsP room (putsP room st l).2 l else putsP room st l) = q at *
   by_cases e2 : f ≠ 2
   ·rw [if_pos e2]; exact hq
   ·rw [if_neg e2]; exact try_sum hr L l k _ _ hq
theorem try_cnt (room : Int) (L : List Int) (l : List (List UInt8)) : ∀ (k : Nat) (st : List (List UInt8 × List UInt8)) (s : Nat × Nat × Nat),
  (tryP room L l k st s).2.2.1 ≤ s.1 + k ∧ (tryP room L l k st s).2.2.2.1 ≤ s.2.1 + k * l.length ∧ (tryP room L l k st s).2.2.2.2 ≤ s.2.2 + k * bytesP l
 | 0, st, s => by simp [tryP]
 | k + 1, st, s => by
  have h3 := fun st => try_cnt room L l k st (s.1 + 1, s.2.1 + l.length, s.2.2 + bytesP l)
  rw [Nat.add_mul, Nat.one_mul, Nat.add_mul, Nat.one_mul]
  simp only [tryP]
  generalize L.getD s.1 0 = f
  by_cases e1 : f = 1
  ·rw [if_pos e1]; have := h3 st; simp only at this; omega
  ·rw [if_neg e1]
   generalize (if f = 3 then putsP room (putsP room st l).2 l else putsP room st l) = q at *
   by_cases e2 : f ≠ 2
   ·rw [if_pos e2]; simp only; omega
   ·rw [if_neg e2]; have := h3 q.2; simp only at this; omega
theorem more_at (batch : Int) (n : Nat) (l : List (List UInt8)) (j : Nat) (h : j < l.length) : moreP batch n (l.drop j) = if (n : Int) + (l[j].length : Int) ≤ batch then moreP batch (n + l[j].length) (l.drop (j + 1)) + 1 else 0 := by
 rw [List.drop_eq_getElem_cons h]
 rfl
theorem bytes_split (l : List (List UInt8)) (j : Nat) : bytesP (l.take j) + bytesP (l.drop j) = bytesP l := by
 rw [← bytes_app, List.take_append_drop]
theorem bytes_filt (p : List UInt8 → Bool) : ∀ l : List (List UInt8), bytesP (l.filter p) ≤ bytesP l
 | [] => Nat.le_refl _
 | b :: r => by
  have := bytes_filt p r
  rw [List.filter_cons]
  split
  ·simp only [bytesP]; omega
  ·simp only [bytesP]; omega
theorem tree_of_wrong {l : List En} (h : wrongP l = 0) : Tree l := by
 by_cases ht : Tree l
 ·exact ht
 ·rw [wrong_no l ht] at h; simp at h
set_option maxRecDepth 100000 in
set_option maxHeartbeats 4000000 in
theorem refUpload_any (l : List En) (ae : Option Addr) (ce : Nat) (tries batch : Int) (L : List Int) (a : Option Addr) (c : Nat) (st : List (List UInt8 × List UInt8)) (rb : Nat) (v1 v2 : Value) (base : Nat) (room : Int) (w : World) (M : Nat)
  (h : DS w rb v1 v2 base room st) (hbase : base ≤ w.heap.size) (hl : l.length ≤ maxLen) (hle : LiesE w ae l) (hf : TFit l) (hi : IntsAt w a L) (hin : ∀ b o, a = some ⟨b, o, none⟩ → L ≠ [] → ¬ DSet rb v1 v2 b) (hL : L.length ≤ maxLen)
  (hlen : st.length ≤ 800000000) (hsum : sumP st ≤ M) (hM : M ≤ 1000000000000) (hr : room ≤ (M : Int)) :
  Calls Tryz.prog 166 #[.pointer (some ⟨rb, 0, none⟩), .slice ae l.length ce, planV tries batch a L.length c] w fun e w' =>
   e = .returned (.tuple #[.string (bs (upP room l tries batch L st).1), sentV (upP room l tries batch L st).2.1, .int .i64 (upP room l tries batch L st).2.2.1]) ∧ DEnd rb v1 v2 base room (upP room l tries batch L st).2.2.2 w w' := by
 unfold maxLen at hL
 have hrl := h.lt
 have hib : ∀ b o, a = some ⟨b, o, none⟩ → L ≠ [] → b < w.heap.size := fun b o e hne => by
  rcases hi with h0 | ⟨b', o', e', h1⟩
  ·exact absurd h0 hne
  ·rw [e'] at e
   obtain ⟨rfl, rfl⟩ : b' = b ∧ o' = o := by simpa using e
   exact block_lt (h1 0 (by cases L; exact absurd rfl hne; simp))
 have hbA : Below w.heap.size w (((w.alloc (.cells #[.int .i64 tries, .int .i64 batch, .slice a L.length c] 57)).alloc (.cells #[.int .i64 0, .int .i64 0, .int .i64 0] 52)).alloc (.cells #[.int .i64 0, .int .i64 0, .int .i64 0] 52)) := (((Below.refl _ _).alloc (Nat.le_refl _) _).alloc (by simp) _).alloc (by simp; omega) _
 have hs5 : (((w.alloc (.cells #[.int .i64 tries, .int .i64 batch, .slice a L.length c] 57)).alloc (.cells #[.int .i64 0, .int .i64 0, .int .i64 0] 52)).alloc (.cells #[.int .i64 0, .int .i64 0, .int .i64 0] 52)).heap[w.heap.size]? = some (.cells #[.int .i64 tries, .int .i64 batch, .slice a L.length c] 57 (0, 0)) := (Below.heap_alloc _ _ _ (by simp; omega)).trans ((Below.heap_alloc _ _ _ (by simp)).trans (heap_alloc_new w _))
 have hs7 : (((w.alloc (.cells #[.int .i64 tries, .int .i64 batch, .slice a L.length c] 57)).alloc (.cells #[.int .i64 0, .int .i64 0, .int .i64 0] 52)).alloc (.cells #[.int .i64 0, .int .i64 0, .int .i64 0] 52)).heap[w.heap.size + 1]? = some (.cells #[.int .i64 0, .int .i64 0, .int .i64 0] 52 (0, 0)) := by
  have := heap_alloc_new (w.alloc (.cells #[.int .i64 tries, .int .i64 batch, .slice a L.length c] 57)) (.cells #[.int .i64 0, .int .i64 0, .int .i64 0] 52)
  rw [show (w.alloc (.cells #[.int .i64 tries, .int .i64 batch, .slice a L.length c] 57)).heap.size = w.heap.size + 1 by simp] at this
  exact (Below.heap_alloc _ _ _ (by simp)).trans this
 have hs9 : (((w.alloc (.cells #[.int .i64 tries, .int .i64 batch, .slice a L.length c] 57)).alloc (.cells #[.int .i64 0, .int .i64 0, .int .i64 0] 52)).alloc (.cells #[.int .i64 0, .int .i64 0, .int .i64 0] 52)).heap[w.heap.size + 1 + 1]? = some (.cells #[.int .i64 0, .int .i64 0, .int .i64 0] 52 (0, 0)) := by
  have := heap_alloc_new ((w.alloc (.cells #[.int .i64 tries, .int .i64 batch, .slice a L.length c] 57)).alloc (.cells #[.int .i64 0, .int .i64 0, .int .i64 0] 52)) (.cells #[.int .i64 0, .int .i64 0, .int .i64 0] 52)
  rw [show ((w.alloc (.cells #[.int .i64 tries, .int .i64 batch, .slice a L.length c] 57)).alloc (.cells #[.int .i64 0, .int .i64 0, .int .i64 0] 52)).heap.size = w.heap.size + 1 + 1 by simp] at this
  exact this
 obtain ⟨W0, hW0⟩ : ∃ W0, ((w.alloc (.cells #[.int .i64 tries, .int .i64 batch, .slice a L.length c] 57)).alloc (.cells #[.int .i64 0, .int .i64 0, .int .i64 0] 52)).alloc (.cells #[.int .i64 0, .int .i64 0, .int .i64 0] 52) = W0 := ⟨_, rfl⟩
 rw [hW0] at hbA hs5 hs7 hs9
 have hz0 : W0.heap.size = w.heap.size + 3 := by rw [← hW0]; simp
 have hbu := refBuild_any l ae ce W0 hl (hle.below hbA (Nat.le_refl _)) hf
 have Hbu := hide hbu
 have HW0 := hide hW0
 clear hbu hW0
 unfold planV
 go_enter Tryz.func166, Tryz.ntmps166
 go_wp2_with fail
 rw [unhide HW0]
 refine (unhide Hbu).mono ?_
 rintro e W2 ⟨hb2, h2⟩
 clear Hbu HW0
 have hbw2 := hbA.trans (hb2.mono hbA.size)
 have hs52 := (hb2.block w.heap.size (by omega)).trans hs5
 have hs72 := (hb2.block (w.heap.size + 1) (by omega)).trans hs7
 have hs92 := (hb2.block (w.heap.size + 1 + 1) (by omega)).trans hs9
 have hz2 := hb2.size
 clear hs5 hs7 hs9 hbA
 have h3 : (∃ E : Int, E ≠ 0 ∧ upP room l tries batch L st = ([], (0, 0, 0), E, st) ∧ e = .returned (.tuple #[.string ⟨#[]⟩, .slice none 0 0, .int .i64 E])) ∨
   (∃ out v, wrongP l = 0 ∧ builtP l = some out ∧ e = .returned (.tuple #[.string (bs (P.digest (blobP l 6 []))), v, .int .i64 0]) ∧ OwnsS W2 W0.heap.size v out) := by
  rcases h2 with ⟨hw, rfl⟩ | ⟨hw, hb, rfl⟩ | ⟨out, v, hw, hb, rfl, ho⟩
  ·exact .inl ⟨wrongP l, hw, by unfold upP; rw [if_pos hw], rfl⟩
  ·exact .inl ⟨3, by decide, by unfold upP; rw [if_neg (by rw [hw]; decide), hb], rfl⟩
  ·exact .inr ⟨out, v, hw, hb, rfl, ho⟩
 clear h2
 have c0 := cell_of_block (j := 0) hs92
 have c1 := cell_of_block (j := 1) hs92
 have c2 := cell_of_block (j := 2) hs92
 have r0 := cell_of_block (j := 0) hs72
 have r1 := cell_of_block (j := 1) hs72
 have r2 := cell_of_block (j := 2) hs72
 have f0 := free_block (j := 0) hs72
 have f1 := free_block (j := 1) hs72
 have f2 := free_block (j := 2) hs72
 have p0 := cell_of_block (j := 0) hs52
 have p1 := cell_of_block (j := 1) hs52
 have p2 := cell_of_block (j := 2) hs52
 simp only [List.getElem?_toArray, List.getElem?_cons_zero, List.getElem?_cons_succ] at c0 c1 c2 r0 r1 r2 p0 p1 p2
 have l5 : w.heap.size < W2.heap.size := by omega
 have l7 : w.heap.size + 1 < W2.heap.size := by omega
 have l9 : w.heap.size + 1 + 1 < W2.heap.size := by omega
 have Hs := hide (And.intro hs52 (And.intro hs72 hs92))
 -- an error ahead of all sending
 have herr : ∀ (E : Int) (W : World), Below w.heap.size w W → upP room l tries batch L st = ([], (0, 0, 0), E, st) → ∀ W', (((W.setCell ⟨w.heap.size + 1, 0, none⟩ (.int .i64 0)).setCell ⟨w.heap.size + 1, 1, none⟩ (.int .i64 0)).setCell ⟨w.heap.size + 1, 2, none⟩ (.int .i64 0)).drew = W' →
   DEnd rb v1 v2 base room (upP room l tries batch L st).2.2.2 w W' := by
  intro E W hW hu W' hW'
  rw [hu]
  have hF := ((((Fr.below (S := fun _ => False) hW).setNew (w.heap.size + 1) 0 (.int .i64 0) (by omega)).setNew (w.heap.size + 1) 1 (.int .i64 0) (by omega)).setNew (w.heap.size + 1) 2 (.int .i64 0) (by omega)).trans (Fr.below (Below.refl _ _).drew)
  rw [hW'] at hF
  exact ⟨v1, v2, DSt.fr h hF (fun _ _ hh => hh), hF.mono (fun _ hh => absurd hh (by simp)), fun x hx => .inl hx⟩
 have Herr := hide herr
 clear herr hs52 hs72 hs92
 rcases h3 with ⟨E, hE, hu, rfl⟩ | ⟨out, v, hw, hbu, rfl, ho⟩
 ·have Hu := hide hu
  have b0 : (E == 0) = false := by simpa using hE
  have Hbw := hide hbw2
  clear hu hbw2 hb2 hi hle hin h
  go_wp2_with fail
  go_region
  all_goals go_wp2_with fail
  refine bodyPost_ret (v := .tuple #[.string ⟨#[]⟩, .agg #[.int .i64 0, .int .i64 0, .int .i64 0], .int .i64 E]) ?qr rfl ?_
  case qr => simp [results, Tryz.results166, go_sem, r0, r1, r2]
  exact ⟨by rw [unhide Hu]; rfl, unhide Herr E W2 (unhide Hbw) (unhide Hu) _ rfl⟩
 ·have ht : Tree l := tree_of_wrong hw
  obtain ⟨-, -, hol, hob⟩ := built_facts ht hbu
  have hup : upP room l tries batch L st = if planOk tries batch L = false then ([], (0, 0, 0), 5, st) else ((if (bringP room batch tries.toNat L out st).1 = 0 then P.digest (blobP l 6 []) else []), (bringP room batch tries.toNat L out st).2.2, (bringP room batch tries.toNat L out st).1, (bringP room batch tries.toNat L out st).2.1) := by
   unfold upP
   rw [if_neg (by rw [hw]; decide), hbu]
  generalize P.digest (blobP l 6 []) = RT at *
  have Hup := hide hup
  obtain ⟨av, cv, rfl, htx, -, -⟩ := ho.texts
  have Hall := hide (And.intro hbw2 (And.intro h (And.intro htx (And.intro hi hin))))
  clear hup ho hbw2 hb2 hle h htx hw hbu ht hi hin
  go_upto_region 5 with fail
  go_cut [46] (fun s wx => s = .bool (!decide (1 ≤ tries ∧ tries ≤ 9 ∧ 1 ≤ batch ∧ batch ≤ 5000)) ∧ W2 = wx)
  case first =>
   by_cases a1 : tries < 1
   ·have g : (!decide (1 ≤ tries ∧ tries ≤ 9 ∧ 1 ≤ batch ∧ batch ≤ 5000)) = true := by simp; omega
    go_wp2_with fail
    go_meet
    exact ⟨congrArg Value.bool g.symm, rfl⟩
   ·have d1 : decide (tries < 1) = false := decide_eq_false a1
    by_cases a2 : 9 < tries
    ·have g : (!decide (1 ≤ tries ∧ tries ≤ 9 ∧ 1 ≤ batch ∧ batch ≤ 5000)) = true := by simp; omega
     go_wp2_with fail
     go_meet
     exact ⟨congrArg Value.bool g.symm, rfl⟩
    ·have d2 : decide (9 < tries) = false := decide_eq_false a2
     by_cases a3 : batch < 1
     ·have g : (!decide (1 ≤ tries ∧ tries ≤ 9 ∧ 1 ≤ batch ∧ batch ≤ 5000)) = true := by simp; omega
      go_wp2_with fail
      go_meet
      exact ⟨congrArg Value.bool g.symm, rfl⟩
     ·have d3 : decide (batch < 1) = false := decide_eq_false a3
      have g : (!decide (1 ≤ tries ∧ tries ≤ 9 ∧ 1 ≤ batch ∧ batch ≤ 5000)) = decide (5000 < batch) := by
       by_cases a4 : 5000 < batch
       ·rw [decide_eq_true a4]; simp; omega
       ·rw [decide_eq_false a4]; simp; omega
      go_wp2_with fail
      go_meet
      exact ⟨congrArg Value.bool g.symm, rfl⟩
  case rest =>
   obtain ⟨rfl, rfl⟩ := hcut
   by_cases hpl : 1 ≤ tries ∧ tries ≤ 9 ∧ 1 ≤ batch ∧ batch ≤ 5000
   ·rw [decide_eq_true hpl]
    obtain ⟨T, rfl⟩ : ∃ T : Nat, tries = (T : Int) := ⟨tries.toNat, by omega⟩
    have hT : T ≤ 9 := by omega
    have hpb := hide hpl
    clear hpl
    go_wp2_with fail
    go_loopw [13] (fun i wr => ∃ k : Nat, k ≤ L.length ∧ i = .int .i64 k ∧ (L.take k).all (fun k => decide (0 ≤ k ∧ k ≤ 3)) = true ∧ W2 = wr) (fun i _ => L.length - (intOf i).toNat)
    case atStart => exact ⟨0, by omega, rfl, by simp, rfl⟩
    case round =>
     obtain ⟨k, hk, rfl, hall, rfl⟩ := hrel
     by_cases hlt : k < L.length
     ·obtain ⟨b, o, rfl, hci⟩ : ∃ b o, a = some ⟨b, o, none⟩ ∧ ∀ i (h : i < L.length), W2.cell? ⟨b, o + i, none⟩ = some (.int .i64 L[i]) := by
       rcases ((unhide Hall).2.2.2.1.below (unhide Hall).1 (Nat.le_refl _)) with h | h
       ·subst h; simp at hlt
       ·exact h
      have ck := hci k hlt
      have q1 : (k : Int) < (L.length : Int) := by omega
      have hsucc := allT_succ (fun k => decide ((0 : Int) ≤ k ∧ k ≤ 3)) L k hlt
      have hbad := all_at (fun k => decide ((0 : Int) ≤ k ∧ k ≤ 3)) L k hlt
      have hbk := block_lt ck
      clear hci
      generalize L[k] = x at *
      have Hlt := hide hlt
      go_upto_region 10 with fail
      go_cut [68] (fun s wx => s = .bool (!decide (0 ≤ x ∧ x ≤ 3)) ∧ W2 = wx)
      case first =>
       by_cases a1 : x < 0
       ·have g : (!decide (0 ≤ x ∧ x ≤ 3)) = true := by simp; omega
        clear hsucc hbad hall
        go_wp2_with fail
        go_meet
        exact ⟨congrArg Value.bool g.symm, rfl⟩
       ·have d1 : decide (x < 0) = false := decide_eq_false a1
        have g : (!decide (0 ≤ x ∧ x ≤ 3)) = decide (3 < x) := by
         by_cases a2 : 3 < x
         ·rw [decide_eq_true a2]; simp; omega
         ·rw [decide_eq_false a2]; simp; omega
        clear hsucc hbad hall
        go_wp2_with fail
        go_meet
        exact ⟨congrArg Value.bool g.symm, rfl⟩
      case rest =>
       obtain ⟨rfl, rfl⟩ := hcut
       by_cases hx : 0 ≤ x ∧ x ≤ 3
       ·have Hn := hide (show (L.take (k + 1)).all (fun k => decide ((0 : Int) ≤ k ∧ k ≤ 3)) = true by rw [hsucc, hall]; simp; omega)
        rw [decide_eq_true hx]
        clear hsucc hbad hall ck
        go_wp2_with fail
        exact ⟨⟨k + 1, by have := unhide Hlt; omega, by go_num, unhide Hn, by first | rfl | trivial⟩, by have := unhide Hlt; simp [intOf]; omega⟩
       ·have Hu := hide (show upP room l (T : Int) batch L st = ([], (0, 0, 0), 5, st) by rw [unhide Hup, if_pos (by unfold planOk; rw [hbad (decide_eq_false hx)]; simp)])
        rw [decide_eq_false hx]
        clear hsucc hbad hall ck p0 p1 p2 q1
        go_wp2_with fail
        go_region
        all_goals go_wp2_with fail
        refine bodyPost_ret (v := .tuple #[.string ⟨#[]⟩, .agg #[.int .i64 0, .int .i64 0, .int .i64 0], .int .i64 5]) ?qr rfl ?_
        case qr => simp [results, Tryz.results166, go_sem, r0, r1, r2]
        exact ⟨by rw [unhide Hu]; rfl, unhide Herr 5 W2 (unhide Hall).1 (unhide Hu) _ rfl⟩
     ·obtain rfl : k = L.length := by omega
      rw [List.take_length] at hall
      have hok : planOk (T : Int) batch L = true := by unfold planOk; rw [decide_eq_true (unhide hpb), hall]; rfl
      have Hup2 := hide (show upP room l (T : Int) batch L st = ((if (bringP room batch T L out st).1 = 0 then RT else []), (bringP room batch T L out st).2.2, (bringP room batch T L out st).1, (bringP room batch T L out st).2.1) by rw [unhide Hup, if_neg (by rw [hok]; decide)]; simp)
      clear hall hok Hup Herr
      have hdl : ∀ W, Below W2.heap.size W2 W → DS W rb v1 v2 base room st := fun W hW => DSt.below (DSt.below (unhide Hall).2.1 (unhide Hall).1 (Nat.le_refl _)) hW (Nat.le_refl _)
      have Hdl := hide hdl
      clear hdl r0 r1 r2 c0 c1 c2 f0 f1 f2
      go_wp2_with fail
      clear p0 p1 p2
      go_loopw [14, 15] (fun mv i wr => ∃ k : Nat, k ≤ out.length ∧ i = .int .i64 k ∧ OwnsS wr W2.heap.size mv ((out.take k).filter (fun b => !(atP st (P.digest b)).isSome)) ∧ Below W2.heap.size W2 wr) (fun _ i _ => out.length - (intOf i).toNat)
      case atStart => exact ⟨0, by omega, rfl, World.ownsRow_nil _ _ _ _, Below.refl _ _⟩
      case round =>
       obtain ⟨k, hk, rfl, hown, hbr⟩ := hrel
       by_cases hlt : k < out.length
       ·have htx' := (unhide Hall).2.2.1.below hbr (Nat.le_refl _)
        obtain ⟨b, o, rfl, hcb⟩ := textsGet htx' hlt
        unfold strVal at hcb
        have hfs : (out.take (k + 1)).filter (fun b => !(atP st (P.digest b)).isSome) = (out.take k).filter (fun b => !(atP st (P.digest b)).isSome) ++ (if (atP st (P.digest out[k])).isSome then [] else [out[k]]) := by
         rw [List.take_succ_eq_append_getElem hlt, List.filter_append]
         congr 1
         cases hq : (atP st (P.digest out[k])).isSome
         ·simp only [List.filter_cons, List.filter_nil, hq]; rfl
         ·simp only [List.filter_cons, List.filter_nil, hq]; rfl
        have hfl : ((out.take k).filter (fun b => !(atP st (P.digest b)).isSome)).length ≤ 41 := by
         have h1 := List.length_filter_le (fun b => !(atP st (P.digest b)).isSome) (out.take k)
         rw [List.length_take] at h1
         omega
        have hxl := bytes_mem out out[k] (List.getElem_mem hlt)
        have q1 : (k : Int) < (out.length : Int) := by omega
        generalize out[k] = x at *
        have hdg : Calls Tryz.prog 20 #[.string (bs x)] wr fun e w' => e = .returned (.string (bs (P.digest x))) ∧ ∃ n, w' = wr.drewN n := by
         have := refDigest_any (bs x) wr (by rw [bs_size]; unfold maxLen; omega)
         rw [bs_data] at this
         exact this
        generalize (out.take k).filter (fun b => !(atP st (P.digest b)).isSome) = done at *
        have Hdg := hide hdg
        have Hfs := hide hfs
        have Hix := hide (atP_idx st (P.digest x))
        generalize P.digest x = d at *
        have hblk := block_lt hcb
        obtain ⟨am, cm, rfl⟩ := row_shape hown
        have Hown := hide (And.intro hown hbr)
        clear hdg hfs htx' hown hbr
        go_wp2_with fail
        refine (unhide Hdg).mono ?_
        rintro e W5 ⟨rfl, n5, hW5⟩
        have hb5 : Below wr.heap.size wr W5 := by rw [hW5]; exact below_drewN (Below.refl _ _) n5
        have hcb5 := (hb5.cell (p := ⟨b, o + k, none⟩) hblk).trans hcb
        have hown5 := (unhide Hown).1.below hb5
        have hbr5 := (unhide Hown).2.trans (hb5.mono (unhide Hown).2.size)
        have Hat := hide (refAt_any st rb room d W5 (by unfold maxLen; omega) (unhide Hdl W5 hbr5).r)
        clear hW5 hcb Hdg Hown hb5
        have hz5 := hbr5.size
        rcases unhide Hix with ⟨i1, i2⟩ | ⟨m, hm, i1, i2⟩
        ·have Hs2 := hide (show (out.take (k + 1)).filter (fun b => !(atP st (P.digest b)).isSome) = done ++ [x] by rw [unhide Hfs, i2]; rfl)
         rw [i1] at Hat
         clear Hix Hfs i1 i2
         go_wp2_with fail
         refine (unhide Hat).mono ?_
         rintro e w' ⟨rfl, hw'⟩
         rw [hw']
         clear hw' w' Hat
         go_wp2_with (at_builtin; refine app_text rfl (.tmp 84) (.tmp 89) rfl W2.heap.size _ done rfl (OwnsS.alloc hown5 _) ⟨W5.heap.size, 0, none⟩ x rfl ?qa ?qb ?qc ?_)
         case qa => first | rfl | (rw [add_off0]; simp [strVal])
         case qb => omega
         case qc => first | omega | (simp; omega)
         intro v6 W6 ho6 g6
         have hb6 : Below W2.heap.size W2 W6 := (hbr5.alloc hbr5.size _).grown g6 (by simp; omega) (fun k hk => (World.ownsRow.lt hown5 k hk).1)
         clear g6
         have H6 := hide (And.intro ho6 hb6)
         clear ho6 hb6 hown5 hbr5
         go_wp2_with fail
         go_roundw
         case rel =>
          (repeat apply Exists.intro)
          exact ⟨⟨k + 1, by omega, by go_num, by rw [unhide Hs2]; exact (unhide H6).1, (unhide H6).2⟩, rfl⟩
         case measure => simp [intOf]; omega
        ·have Hs2 := hide (show (out.take (k + 1)).filter (fun b => !(atP st (P.digest b)).isSome) = done by rw [unhide Hfs, i2]; simp)
         rw [i1] at Hat
         have hm0 : decide ((m : Int) < 0) = false := decide_eq_false (by omega)
         have H6 := hide (And.intro hown5 hbr5)
         clear Hix Hfs i1 i2 hm hown5 hbr5
         go_wp2_with fail
         refine (unhide Hat).mono ?_
         rintro e w' ⟨rfl, hw'⟩
         rw [hw']
         clear hw' w' Hat
         go_wp2_with fail
         go_roundw
         case rel =>
          (repeat apply Exists.intro)
          exact ⟨⟨k + 1, by omega, by go_num, by rw [unhide Hs2]; exact (unhide H6).1, (unhide H6).2⟩, rfl⟩
         case measure => simp [intOf]; omega
       ·obtain rfl : k = out.length := by omega
        rw [List.take_length] at hown
        have hbw3 := (unhide Hall).1.trans (hbr.mono (unhide Hall).1.size)
        have hd3 := unhide Hdl wr hbr
        have hs3 : SentAt wr (w.heap.size + 1 + 1) (0, 0, 0) := (hbr.block _ l9).trans (unhide Hs).2.2
        have hp3 := (hbr.block _ l5).trans (unhide Hs).1
        have hr3 := (hbr.block _ l7).trans (unhide Hs).2.1
        have hz3 := hbr.size
        have hi3 := (unhide Hall).2.2.2.1.below hbw3 (Nat.le_refl _)
        have hin3 : ∀ b o, a = some ⟨b, o, none⟩ → L ≠ [] → ¬ DSet rb v1 v2 b ∧ b ≠ w.heap.size + 1 + 1 := fun b o e hne => ⟨(unhide Hall).2.2.2.2 b o e hne, by have := hib b o e hne; omega⟩
        have hnsp : ∀ x, w.heap.size ≤ x → ¬ DSet rb v1 v2 x := fun x hx hd => by have := (unhide Hall).2.1.setLt x hd; omega
        obtain ⟨am, cm, rfl, htm, hab, hcm⟩ : ∃ am cm, u14 = .slice am (out.filter (fun b => !(atP st (P.digest b)).isSome)).length cm ∧ TextsAt wr am (out.filter (fun b => !(atP st (P.digest b)).isSome)) ∧ (∀ b o q, am = some ⟨b, o, q⟩ → W2.heap.size ≤ b ∧ b < wr.heap.size) ∧ (out.filter (fun b => !(atP st (P.digest b)).isSome)).length ≤ cm := by
         obtain ⟨am, cm, e, htm, -, hcm⟩ := hown.texts
         refine ⟨am, cm, e, htm, fun b o q e2 => ?_, hcm⟩
         have := World.ownsRow.lt hown b (by rw [e, e2]; rfl)
         exact this
        have hml : (out.filter (fun b => !(atP st (P.digest b)).isSome)).length ≤ 41 := by
         have h1 := List.length_filter_le (fun b => !(atP st (P.digest b)).isSome) out
         omega
        have hmb : bytesP (out.filter (fun b => !(atP st (P.digest b)).isSome)) ≤ 73882 := Nat.le_trans (bytes_filt _ out) hob
        have hbr3 : bringP room batch T L out st = if (tryP room L [] T st (0, 0, 0)).1 ≠ 0 then tryP room L [] T st (0, 0, 0) else sendP room batch T L (out.filter (fun b => !(atP st (P.digest b)).isSome)).length (out.filter (fun b => !(atP st (P.digest b)).isSome)) (tryP room L [] T st (0, 0, 0)).2.1 (tryP room L [] T st (0, 0, 0)).2.2 := rfl
        generalize out.filter (fun b => !(atP st (P.digest b)).isSome) = miss at *
        have t1 := try_len room L [] T st (0, 0, 0)
        have t2 := try_sum hr L [] T st (0, 0, 0) hsum
        have t3 := try_cnt room L [] T st (0, 0, 0)
        have htr := refTried_any [] none 0 batch T L a c st rb v1 v2 base room (w.heap.size + 1 + 1) (0, 0, 0) wr M hd3 (by omega) hs3 (hnsp _ (by omega)) (.inl rfl) (fun b o q e => by simp at e) hi3 hin3 (by unfold maxLen; omega) (fun x hx => by simp at hx) (by simp) (by simp [bytesP]) hT (by simp) (by omega) hsum hM hr
        unfold planV at htr
        have Htr := hide htr
        have p0 := cell_of_block (j := 0) hp3
        have p1 := cell_of_block (j := 1) hp3
        have p2 := cell_of_block (j := 2) hp3
        simp only [List.getElem?_toArray, List.getElem?_cons_zero, List.getElem?_cons_succ] at p0 p1 p2
        have l53 : w.heap.size < wr.heap.size := by omega
        have Hbr3 := hide hbr3
        have H3 := hide (And.intro hp3 (And.intro hr3 (And.intro htm (And.intro hi3 hbw3))))
        simp only [List.length_nil, Nat.mul_zero, bytesP, Nat.add_zero, Nat.zero_add] at t1 t3
        generalize tryP room L [] T st (0, 0, 0) = q0 at *
        obtain ⟨E0, st0, sn0⟩ := q0
        simp only at t1 t2 t3 Htr Hbr3
        clear htr hbr3 hp3 hr3 htm hi3 hbw3 hd3 hs3 hown hbr
        obtain ⟨W3, hW3⟩ : ∃ W3, W3 = wr := ⟨_, rfl⟩
        subst hW3
        go_wp2_with fail
        refine (unhide Htr).mono ?_
        rintro e W4 ⟨rfl, hs4, y1, y2, hd4, hf4, hsub4⟩
        have Hst4 := hide (show ∃ (f : Nat) (mk : List (List UInt8)) (ak : Option Addr) (ck : Nat) (E : Int) (sk : List (List UInt8 × List UInt8)) (sn : Nat × Nat × Nat) (y1 y2 : Value), Value.int .i64 E0 = .int .i64 E ∧ Value.slice am miss.length cm = .slice ak mk.length ck ∧ mk.length ≤ ck ∧ TextsAt W4 ak mk ∧ (∀ b o q, ak = some ⟨b, o, q⟩ → W2.heap.size ≤ b ∧ b < W3.heap.size) ∧ SentAt W4 (w.heap.size + 1 + 1) sn ∧ DS W4 rb y1 y2 base room sk ∧ Fr (fun x => DSet rb v1 v2 x ∨ x = w.heap.size + 1 + 1) W3 W4 ∧ (∀ x, DSet rb y1 y2 x → DSet rb v1 v2 x ∨ W3.heap.size ≤ x) ∧
          mk.length ≤ f ∧ mk.length ≤ 41 ∧ bytesP mk ≤ 73882 ∧ bringP room batch T L out st = (if E ≠ 0 then (E, sk, sn) else sendP room batch T L f mk sk sn) ∧ (sn.1 + 9 * mk.length ≤ 1000 ∧ sn.2.1 + 9 * mk.length ≤ 1000 ∧ sn.2.2 + 9 * bytesP mk ≤ 1000000) ∧ sk.length + 18 * mk.length ≤ st.length + 1000 ∧ sumP sk ≤ M from
         ⟨miss.length, miss, am, cm, E0, st0, sn0, y1, y2, rfl, rfl, hcm, ((unhide H3).2.2.1.fr hf4 (fun b o q e => by have := hab b o q e; rintro (hh | hh); exact hnsp b (by omega) hh; omega)), hab, hs4, hd4, hf4, hsub4, Nat.le_refl _, hml, hmb, unhide Hbr3, ⟨by omega, by omega, by omega⟩, by omega, t2⟩)
        clear Htr hs4 hd4 hf4 hsub4 Hbr3 t1 t2 t3 hml hmb hab
        go_wp2_with fail
        go_loopw [12, 14] (fun ev mv wx => ∃ (f : Nat) (mk : List (List UInt8)) (ak : Option Addr) (ck : Nat) (E : Int) (sk : List (List UInt8 × List UInt8)) (sn : Nat × Nat × Nat) (y1 y2 : Value), ev = .int .i64 E ∧ mv = .slice ak mk.length ck ∧ mk.length ≤ ck ∧ TextsAt wx ak mk ∧ (∀ b o q, ak = some ⟨b, o, q⟩ → W2.heap.size ≤ b ∧ b < W3.heap.size) ∧ SentAt wx (w.heap.size + 1 + 1) sn ∧ DS wx rb y1 y2 base room sk ∧ Fr (fun x => DSet rb v1 v2 x ∨ x = w.heap.size + 1 + 1) W3 wx ∧ (∀ x, DSet rb y1 y2 x → DSet rb v1 v2 x ∨ W3.heap.size ≤ x) ∧
          mk.length ≤ f ∧ mk.length ≤ 41 ∧ bytesP mk ≤ 73882 ∧ bringP room batch T L out st = (if E ≠ 0 then (E, sk, sn) else sendP room batch T L f mk sk sn) ∧ (sn.1 + 9 * mk.length ≤ 1000 ∧ sn.2.1 + 9 * mk.length ≤ 1000 ∧ sn.2.2 + 9 * bytesP mk ≤ 1000000) ∧ sk.length + 18 * mk.length ≤ st.length + 1000 ∧ sumP sk ≤ M) (fun _ mv _ => match mv with | .slice _ n _ => n | _ => 0)
        case atStart => exact unhide Hst4
        case round =>
         obtain ⟨f, mk, ak, ck, E, sk, ⟨s1, s2, s3⟩, y1, y2, rfl, rfl, hckl, htk, hak, hsk, hdk, hfk, hsub, hmf, hm41, hmb, hbq, hcnt, hskl, hsks⟩ := hrel
         simp only at hcnt
         clear Hst4 p0 p1 p2
         have npl : ¬ (DSet rb v1 v2 w.heap.size ∨ w.heap.size = w.heap.size + 1 + 1) := by rintro (hh | hh); exact hnsp _ (by omega) hh; omega
         have nrs : ¬ (DSet rb v1 v2 (w.heap.size + 1) ∨ w.heap.size + 1 = w.heap.size + 1 + 1) := by rintro (hh | hh); exact hnsp _ (by omega) hh; omega
         have hpk := (hfk.block _ (by omega) npl).trans (unhide H3).1
         have hrk := (hfk.block _ (by omega) nrs).trans (unhide H3).2.1
         have hsz := hfk.size
         have p0 := cell_of_block (j := 0) hpk
         have p1 := cell_of_block (j := 1) hpk
         have p2 := cell_of_block (j := 2) hpk
         simp only [List.getElem?_toArray, List.getElem?_cons_zero, List.getElem?_cons_succ] at p0 p1 p2
         have l5k : w.heap.size < wr.heap.size := by omega
         by_cases hgo : E = 0 ∧ 0 < mk.length
         ·obtain ⟨rfl, hpos⟩ := hgo
          rw [if_neg (by decide)] at hbq
          obtain ⟨b, o, rfl, hcx⟩ : ∃ b o, ak = some ⟨b, o, none⟩ ∧ ∀ i (h : i < mk.length), wr.cell? ⟨b, o + i, none⟩ = some (strVal mk[i]) := by
           rcases htk with h | h
           ·rw [h] at hpos; simp at hpos
           ·exact h
          have c0 := hcx 0 hpos
          unfold strVal at c0
          rw [Nat.add_zero] at c0
          have hbz := bs_size mk[0]
          have hx0 := bytes_mem mk mk[0] (List.getElem_mem hpos)
          have hbl := block_lt c0
          have q0 : (0 : Int) < (mk.length : Int) := by omega
          have h1b : bytesP (mk.take 1) = mk[0].length := by
           cases mk with
           | nil => simp at hpos
           | cons y r => simp [bytesP]
          have hsz1 : sizeP batch mk = 1 + moreP batch (bytesP (mk.take 1)) (mk.drop 1) := by
           cases mk with
           | nil => simp at hpos
           | cons y r => simp [sizeP, bytesP]; omega
          have hckI : (mk.length : Int) ≤ (ck : Int) := by omega
          have Hx := hide (And.intro hcx (And.intro hsk (And.intro hdk (And.intro hfk (And.intro hsub hbq)))))
          have Hak := hide hak
          clear hcx hsk hdk hfk hsub hbq hak htk hpk hrk
          obtain ⟨W5, hW5⟩ : ∃ W5, W5 = wr := ⟨_, rfl⟩
          subst hW5
          go_wp2_with fail
          go_loopw [16, 17] (fun nv bv wy => ∃ j : Nat, (1 ≤ j ∧ j ≤ mk.length) ∧ nv = .int .i64 j ∧ bv = .int .i64 ((bytesP (mk.take j) : Nat) : Int) ∧ sizeP batch mk = j + moreP batch (bytesP (mk.take j)) (mk.drop j) ∧ ∃ n, wy = W5.drewN n) (fun nv _ _ => mk.length - (intOf nv).toNat)
          case atStart => exact ⟨1, by omega, rfl, by rw [h1b], hsz1, 0, rfl⟩
          case round =>
           obtain ⟨j, ⟨hj1, hj2⟩, rfl, rfl, hsj, nj, rfl⟩ := hrel
           have hbj := bytes_take mk j
           have Hsj := hide hsj
           clear hsj c0 h1b hsz1
           go_upto_region 22 with fail
           go_cut [120] (fun s wz => s = .bool (decide (moreP batch (bytesP (mk.take j)) (mk.drop j) ≠ 0)) ∧ ∃ n, wz = W5.drewN n)
           case first =>
            by_cases hj : j < mk.length
            ·have cj := (unhide Hx).1 j hj
             unfold strVal at cj
             have hm := more_at batch (bytesP (mk.take j)) mk j hj
             have hzj := bs_size mk[j]
             have hxj := bytes_mem mk mk[j] (List.getElem_mem hj)
             have qj : (j : Int) < (mk.length : Int) := by omega
             generalize mk[j] = x at *
             generalize bytesP (mk.take j) = bj at *
             by_cases hc : (bj : Int) + (x.length : Int) ≤ batch
             ·have g : decide (moreP batch bj (mk.drop j) ≠ 0) = true := by rw [hm, if_pos hc]; simp
              clear hm
              go_quiet (fail)
              go_wp2_with fail
              go_meet
              exact ⟨congrArg Value.bool g.symm, _, by first | rfl | exact World.drewN_drewN _ _ _⟩
             ·have g : decide (moreP batch bj (mk.drop j) ≠ 0) = false := by rw [hm, if_neg hc]; simp
              have dc : decide ((bj : Int) + (x.length : Int) ≤ batch) = false := decide_eq_false hc
              clear hm
              go_quiet (fail)
              go_wp2_with fail
              go_meet
              exact ⟨congrArg Value.bool g.symm, _, by first | rfl | exact World.drewN_drewN _ _ _⟩
            ·have dj : decide ((j : Int) < (mk.length : Int)) = false := decide_eq_false (by omega)
             have g : decide (moreP batch (bytesP (mk.take j)) (mk.drop j) ≠ 0) = false := by rw [List.drop_of_length_le (by omega)]; simp [moreP]
             go_quiet (fail)
             go_wp2_with fail
             go_meet
             exact ⟨congrArg Value.bool g.symm, _, by first | rfl | exact World.drewN_drewN _ _ _⟩
           case rest =>
            obtain ⟨rfl, n2, rfl⟩ := hcut
            by_cases hmz : moreP batch (bytesP (mk.take j)) (mk.drop j) = 0
            ·have hsize : sizeP batch mk = j := by have := unhide Hsj; omega
             rw [decide_eq_false (by simpa using hmz)]
             obtain ⟨hcx, hsk, hdk, hfk, hsub, hbq⟩ := unhide Hx
             have hlj : (mk.take j).length = j := by rw [List.length_take]; omega
             have hspl := bytes_split mk j
             have htr : ∀ W, Below W5.heap.size W5 W → Calls Tryz.prog 191 #[.pointer (some ⟨rb, 0, none⟩), .slice (some ⟨b, o, none⟩) j ck, .agg #[.int .i64 (T : Int), .int .i64 batch, .slice a L.length c], .pointer (some ⟨w.heap.size + 1 + 1, 0, none⟩)] W fun e w' =>
               e = .returned (.int .i64 (tryP room L (mk.take j) T sk (s1, s2, s3)).1) ∧ TEnd rb y1 y2 base room (w.heap.size + 1 + 1) (tryP room L (mk.take j) T sk (s1, s2, s3)).2.1 (tryP room L (mk.take j) T sk (s1, s2, s3)).2.2 W5 w' := by
              intro W hW
              have hzW := hW.size
              have hbW := (unhide H3).2.2.2.2.size
              have hyn : ∀ x, w.heap.size ≤ x → x < W3.heap.size → ¬ DSet rb y1 y2 x := fun x h1 h2 hd => by
               rcases hsub x hd with h3 | h3
               ·exact hnsp x h1 h3
               ·omega
              have hT5 := refTried_any (mk.take j) (some ⟨b, o, none⟩) ck batch T L a c sk rb y1 y2 base room (w.heap.size + 1 + 1) (s1, s2, s3) W M (DSt.below hdk hW (Nat.le_refl _)) (by omega) ((hW.block _ hsk.lt).trans hsk) (hyn _ (by omega) (by omega))
               (.inr ⟨b, o, rfl, fun i hi => by rw [hlj] at hi; rw [List.getElem_take]; exact (hW.cell (p := ⟨b, o + i, none⟩) hbl).trans (hcx i (by omega))⟩)
               (fun b' o' q' e => by
                obtain ⟨rfl, -, -⟩ : b = b' ∧ o = o' ∧ _ := by simpa using e
                have := unhide Hak b o none rfl
                exact ⟨hyn b (by omega) (by omega), by omega, by omega⟩)
               (((unhide H3).2.2.2.1.fr hfk (fun b o e hne => by have := hin3 b o e hne; rintro (hh | hh); exact this.1 hh; exact this.2 hh)).below hW (Nat.le_refl _))
               (fun b' o' e hne => ⟨fun hd => by
                rcases hsub b' hd with h3 | h3
                ·exact (hin3 b' o' e hne).1 h3
                ·have := hib b' o' e hne; omega, (hin3 b' o' e hne).2⟩) (by unfold maxLen; omega) (fun x hx => by have := bytes_mem mk x (List.mem_of_mem_take hx); omega) (by omega) (by omega) hT (by simp only; omega) (by omega) hsks hM hr
              unfold planV at hT5
              rw [hlj] at hT5
              refine hT5.mono ?_
              rintro e w' ⟨rfl, hq1, z1, z2, hq2, hq3, hq4⟩
              exact ⟨rfl, hq1, z1, z2, hq2, (Fr.below hW).trans hq3, fun x hx => (hq4 x hx).imp id (fun h => by omega)⟩
             have hstep : bringP room batch T L out st = (if (tryP room L (mk.take j) T sk (s1, s2, s3)).1 ≠ 0 then ((tryP room L (mk.take j) T sk (s1, s2, s3)).1, (tryP room L (mk.take j) T sk (s1, s2, s3)).2.1, (tryP room L (mk.take j) T sk (s1, s2, s3)).2.2) else sendP room batch T L (f - 1) (mk.drop j) (tryP room L (mk.take j) T sk (s1, s2, s3)).2.1 (tryP room L (mk.take j) T sk (s1, s2, s3)).2.2) := by
              rw [hbq]
              obtain ⟨f', rfl⟩ : ∃ f', f = f' + 1 := ⟨f - 1, by omega⟩
              have hne : mk ≠ [] := fun e => by rw [e] at hpos; simp at hpos
              simp only [sendP, if_neg hne, hsize, Nat.add_sub_cancel]
             have t1 := try_len room L (mk.take j) T sk (s1, s2, s3)
             have t2 := try_sum hr L (mk.take j) T sk (s1, s2, s3) hsks
             have t3 := try_cnt room L (mk.take j) T sk (s1, s2, s3)
             have u1 := Nat.mul_le_mul_right (2 * (mk.take j).length) hT
             have u2 := Nat.mul_le_mul_right ((mk.take j).length) hT
             have u3 := Nat.mul_le_mul_right (bytesP (mk.take j)) hT
             rw [hlj] at t1 t3 u1 u2
             simp only at t3
             have Htr := hide htr
             have Hstep := hide hstep
             have Hdr := hide (show ∀ W, Fr (fun x => DSet rb y1 y2 x ∨ x = w.heap.size + 1 + 1) W5 W → TextsAt W (some ⟨b, o + j, none⟩) (mk.drop j) from fun W hW => .inr ⟨b, o + j, rfl, fun i hi => by
              rw [List.length_drop] at hi
              rw [List.getElem_drop, Nat.add_assoc]
              refine cell_fr hW (hcx (j + i) (by omega)) ?_
              have hbW := (unhide H3).2.2.2.2.size
              have hk := unhide Hak b o none rfl
              rintro (hh | hh)
              ·rcases hsub b hh with h3 | h3
               ·exact hnsp b (by omega) h3
               ·omega
              ·omega⟩)
             have Hfr := hide (And.intro hfk hsub)
             have hjc : (j : Int) ≤ (ck : Int) := by omega
             have hjl : (j : Int) ≤ (mk.length : Int) := by omega
             clear htr hstep hcx hsk hdk hfk hsub hbq Hx hspl
             generalize tryP room L (mk.take j) T sk (s1, s2, s3) = q at *
             go_upto_region 25 with fail
             go_cut [12] (fun ev wz => ev = .int .i64 q.1 ∧ TEnd rb y1 y2 base room (w.heap.size + 1 + 1) q.2.1 q.2.2 W5 wz)
             case first =>
              go_region_with ((go_at_call 191; refine (unhide Htr _ (by first | exact (below_drewN (Below.refl _ _) _).drew | exact below_drewN (Below.refl _ _) _)).mono ?_; rintro e w9 ⟨rfl, h9⟩; have H9 := hide h9; clear h9))
              all_goals
               go_wp2_with fail
               go_meet
               exact ⟨rfl, unhide H9⟩
             case rest =>
              rename World => W6
              obtain ⟨rfl, hs9, z1, z2, hd9, hf9, hsub9⟩ := hcut
              obtain ⟨qe, qs, qn⟩ := q
              simp only at *
              go_wp2_with fail
              have hspl := bytes_split mk j
              have hdl : (mk.drop j).length = mk.length - j := List.length_drop
              have hbW := (unhide H3).2.2.2.2.size
              have hT6 : TextsAt W6 (if ck = j then some ⟨b, o, none⟩ else some ⟨b, o + j, none⟩) (mk.drop j) := by
               by_cases e : ck = j
               ·left; exact List.drop_of_length_le (by omega)
               ·rw [if_neg e]; exact unhide Hdr W6 hf9
              refine ⟨⟨f - 1, mk.drop j, _, ck - j, qe, qs, qn, z1, z2, rfl, by rw [hdl], by rw [hdl]; omega, hT6, fun b' o' q' e => ?_, hs9, hd9, fr_comp (unhide Hfr).1 hf9 (fun x hx => ?_), fun x hx => ?_, by rw [hdl]; omega, by rw [hdl]; omega, by omega, unhide Hstep, ⟨by rw [hdl]; omega, by rw [hdl]; omega, by omega⟩, by rw [hdl]; omega, t2⟩, ?_⟩
              ·have hbb : b' = b := by
                by_cases e1 : ck = j
                ·rw [if_pos e1] at e; simp at e; exact e.1.symm
                ·rw [if_neg e1] at e; simp at e; exact e.1.symm
               rw [hbb]
               exact unhide Hak b o none rfl
              ·rcases hx with hx | hx
               ·exact ((unhide Hfr).2 x hx).imp .inl id
               ·exact .inl (.inr hx)
              ·rcases hsub9 x hx with h2 | h2
               ·exact (unhide Hfr).2 x h2
               ·exact .inr (by omega)
              ·show mk.length - j < mk.length
               omega
            ·have hj : j < mk.length := by
              by_cases hj : j < mk.length
              ·exact hj
              ·exact absurd (by rw [List.drop_of_length_le (by omega)]; rfl) hmz
             have cj := (unhide Hx).1 j hj
             unfold strVal at cj
             have hm := more_at batch (bytesP (mk.take j)) mk j hj
             have hbs := bytes_succ mk j hj
             have hzj := bs_size mk[j]
             have hxj := bytes_mem mk mk[j] (List.getElem_mem hj)
             have hbt := bytes_take mk (j + 1)
             have qj : (j : Int) < (mk.length : Int) := by omega
             have hsn : sizeP batch mk = (j + 1) + moreP batch (bytesP (mk.take (j + 1))) (mk.drop (j + 1)) := by
              have h1 := unhide Hsj
              rw [hm] at h1 hmz
              by_cases hc : ((bytesP (mk.take j) : Nat) : Int) + (mk[j].length : Int) ≤ batch
              ·rw [if_pos hc] at h1
               rw [hbs]; omega
              ·rw [if_neg hc] at hmz; exact absurd rfl hmz
             rw [decide_eq_true (by simpa using hmz)]
             have Hsn := hide hsn
             have Hbs := hide hbs
             clear hsn hm hmz hbs
             generalize mk[j] = x at *
             go_wp2_with fail
             go_roundw
             case rel =>
              exact ⟨j + 1, by omega, by go_num, by rw [unhide Hbs]; first | rfl | go_num, unhide Hsn, _, rfl⟩
             case measure => simp [intOf]; omega
         ·have hsk0 : wr.heap[w.heap.size + 1 + 1]? = some (.cells #[.int .i64 (s1 : Int), .int .i64 (s2 : Int), .int .i64 (s3 : Int)] 52 (0, 0)) := hsk
          have c0 := cell_of_block (j := 0) hsk0
          have c1 := cell_of_block (j := 1) hsk0
          have c2 := cell_of_block (j := 2) hsk0
          have r0 := cell_of_block (j := 0) hrk
          have r1 := cell_of_block (j := 1) hrk
          have r2 := cell_of_block (j := 2) hrk
          have f0 := free_block (j := 0) hrk
          have f1 := free_block (j := 1) hrk
          have f2 := free_block (j := 2) hrk
          simp only [List.getElem?_toArray, List.getElem?_cons_zero, List.getElem?_cons_succ] at c0 c1 c2 r0 r1 r2
          have l7k : w.heap.size + 1 < wr.heap.size := by omega
          have l9k : w.heap.size + 1 + 1 < wr.heap.size := by omega
          have hend : ∀ W', (((wr.setCell ⟨w.heap.size + 1, 0, none⟩ (.int .i64 (s1 : Int))).setCell ⟨w.heap.size + 1, 1, none⟩ (.int .i64 (s2 : Int))).setCell ⟨w.heap.size + 1, 2, none⟩ (.int .i64 (s3 : Int))).drew = W' → DEnd rb v1 v2 base room sk w W' := by
           intro W' hW'
           have hF0 : Fr (DSet rb v1 v2) w wr := (unhide H3).2.2.2.2 |> fun hb => Fr.widen hb hfk (fun x hx hs => by rcases hs with hs | hs; exact hs; omega)
           have hF := (((hF0.setNew (w.heap.size + 1) 0 (.int .i64 (s1 : Int)) (by omega)).setNew (w.heap.size + 1) 1 (.int .i64 (s2 : Int)) (by omega)).setNew (w.heap.size + 1) 2 (.int .i64 (s3 : Int)) (by omega)).trans (Fr.below (Below.refl _ _).drew)
           have hG : Fr (fun x => x = w.heap.size + 1) wr W' := by
            rw [← hW']
            exact ((((fr_refl _ _).trans (Fr.set (S := fun x => x = w.heap.size + 1) _ _ _ _ rfl)).trans (Fr.set (S := fun x => x = w.heap.size + 1) _ _ _ _ rfl)).trans (Fr.set (S := fun x => x = w.heap.size + 1) _ _ _ _ rfl)).trans (Fr.below (Below.refl _ _).drew)
           rw [hW'] at hF
           refine ⟨y1, y2, DSt.fr hdk hG (fun x hx hxs => ?_), hF, fun x hx => ?_⟩
           ·rcases hsub x hx with h2 | h2
            ·exact hnsp x (by omega) h2
            ·omega
           ·rcases hsub x hx with h2 | h2
            ·exact .inl h2
            ·exact .inr (by have := (unhide H3).2.2.2.2.size; omega)
          have Hend := hide hend
          by_cases hE : E = 0
          ·subst hE
           have hm0 : mk = [] := List.eq_nil_of_length_eq_zero (by omega)
           subst hm0
           have hq : bringP room batch T L out st = (0, sk, (s1, s2, s3)) := by
            rw [hbq, if_neg (by decide)]
            cases f <;> simp [sendP]
           have Hu := hide (show upP room l (T : Int) batch L st = (RT, (s1, s2, s3), 0, sk) by rw [unhide Hup2, hq]; simp)
           clear hend hsk hsk0 hdk hfk hsub hbq hq htk hak hpk hrk
           go_wp2_with fail
           go_region
           all_goals go_wp2_with fail
           refine bodyPost_ret (v := .tuple #[.string (bs RT), .agg #[.int .i64 (s1 : Int), .int .i64 (s2 : Int), .int .i64 (s3 : Int)], .int .i64 0]) ?qr rfl ?_
           case qr => simp [results, Tryz.results166, go_sem, r0, r1, r2]
           exact ⟨by rw [unhide Hu]; rfl, by rw [unhide Hu]; exact unhide Hend _ rfl⟩
          ·have hq : bringP room batch T L out st = (E, sk, (s1, s2, s3)) := by rw [hbq, if_pos hE]
           have bE : (E == 0) = false := by simpa using hE
           have Hu := hide (show upP room l (T : Int) batch L st = ([], (s1, s2, s3), E, sk) by rw [unhide Hup2, hq]; simp [hE])
           clear hend hsk hsk0 hdk hfk hsub hbq hq htk hak hpk hrk
           go_wp2_with fail
           go_region
           all_goals go_wp2_with fail
           refine bodyPost_ret (v := .tuple #[.string ⟨#[]⟩, .agg #[.int .i64 (s1 : Int), .int .i64 (s2 : Int), .int .i64 (s3 : Int)], .int .i64 E]) ?qr rfl ?_
           case qr => simp [results, Tryz.results166, go_sem, r0, r1, r2]
           exact ⟨by rw [unhide Hu]; rfl, by rw [unhide Hu]; exact unhide Hend _ rfl⟩
   ·rw [decide_eq_false hpl]
    have Hu := hide (show upP room l tries batch L st = ([], (0, 0, 0), 5, st) by rw [unhide Hup, if_pos (by unfold planOk; rw [decide_eq_false hpl]; rfl)])
    clear hpl
    go_wp2_with fail
    go_region
    all_goals go_wp2_with fail
    refine bodyPost_ret (v := .tuple #[.string ⟨#[]⟩, .agg #[.int .i64 0, .int .i64 0, .int .i64 0], .int .i64 5]) ?qr rfl ?_
    case qr => simp [results, Tryz.results166, go_sem, r0, r1, r2]
    exact ⟨by rw [unhide Hu]; rfl, unhide Herr 5 W2 (unhide Hall).1 (unhide Hu) _ rfl⟩
end Go.Proofs.YtjmacegibchplaaGreatDoor