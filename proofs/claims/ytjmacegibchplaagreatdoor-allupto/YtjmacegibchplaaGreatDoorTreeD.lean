import Derived.Test.YtjmacegibchplaaGreatDoorEntB
import Derived.Test.YtjmacegibchplaaGreatDoorTreeR
namespace Go.Proofs.YtjmacegibchplaaGreatDoor
open Go.RowKit
set_option linter.unusedVariables false
theorem findP_hit (l : List En) (p : List UInt8) (k : Nat) (hk : k < l.length) (h : l[k].path.data.toList = p) (hn : ∀ j (h : j < l.length), j < k → l[j].path.data.toList ≠ p) : findP l p = k := by
 have : l.findIdx? (fun e => e.path.data.toList == p) = some k := by
  rw [List.findIdx?_eq_some_iff_getElem]
  exact ⟨hk, by simpa using h, fun j hj => by simpa using hn j (by omega) hj⟩
 unfold findP; rw [this]
theorem findP_none (l : List En) (p : List UInt8) (hn : ∀ j (h : j < l.length), l[j].path.data.toList ≠ p) : findP l p = -1 := by
 have : l.findIdx? (fun e => e.path.data.toList == p) = none := by
  rw [List.findIdx?_eq_none_iff]
  intro x hx
  obtain ⟨j, hj, rfl⟩ := List.getElem_of_mem hx
  simpa using hn j hj
 unfold findP; rw [this]
theorem findP_bd (l : List En) (p : List UInt8) : -1 ≤ findP l p ∧ findP l p < l.length := by
 unfold findP
 split
 ·rename_i i h
  rw [List.findIdx?_eq_some_iff_getElem] at h
  obtain ⟨h, _⟩ := h
  omega
 ·omega
theorem EntsAt.get {w : World} {a : Option Addr} {l : List En} (h : LiesE w a l) {k : Nat} (hk : k < l.length) : ∃ b o, a = some ⟨b, o, none⟩ ∧ EntsAt w b o l := by
 rcases h with h | h
 ·subst h; simp at hk
 ·exact h
set_option maxHeartbeats 1000000 in
theorem find_any (l : List En) (a : Option Addr) (c : Nat) (q : ByteArray) (w : World) (hl : l.length ≤ maxLen) (hi : LiesE w a l) :
  Calls Tryz.prog 48 #[.slice a l.length c, .string q] w fun e w' => e = .returned (.int .i64 (findP l q.data.toList)) ∧ w' = w := by
 unfold maxLen at hl
 go_enter Tryz.func48, Tryz.ntmps48
 go_wp2_with fail
 go_loop [5] (fun i => ∃ k : Nat, k ≤ l.length ∧ i = .int .i64 k ∧ ∀ j (h : j < l.length), j < k → l[j].path.data.toList ≠ q.data.toList) (fun i => l.length - (intOf i).toNat)
 case atStart => exact ⟨0, Nat.zero_le _, rfl, fun j _ h => absurd h (by omega)⟩
 case round =>
  obtain ⟨k, hk, rfl, hno⟩ := hrel
  have Hno := hide hno
  clear hno
  by_cases hlt : k < l.length
  ·obtain ⟨b, o, rfl, hc⟩ := EntsAt.get hi hlt
   obtain ⟨c0, -, -⟩ := hc k hlt
   have q2 : (k : Int) < (l.length : Int) := by omega
   have hx : (l[k].path.toList == q.toList) = (l[k].path.data.toList == q.data.toList) := by rw [ByteArray.toList_eq, ByteArray.toList_eq]
   have Hk := hide (findP_hit l q.data.toList k hlt)
   have Hn := hide (show l[k].path.data.toList ≠ q.data.toList → ∀ j (h : j < l.length), j < k + 1 → l[j].path.data.toList ≠ q.data.toList from fun hne j h hj => by
    rcases Nat.lt_or_ge j k with h1 | h1
    ·exact unhide Hno j h h1
    ·obtain rfl : j = k := by omega
     exact hne)
   generalize l[k].path = x at *
   clear hc
   by_cases heq : x.data.toList = q.data.toList
   ·have hxb : (x.toList == q.toList) = true := by rw [hx]; simpa using heq
    clear hx
    go_wp2_with fail
    go_ret
    exact ⟨ret_int (by rw [unhide Hk heq (unhide Hno)]), rfl⟩
   ·have hxb : (x.toList == q.toList) = false := by rw [hx]; simpa using heq
    clear hx
    go_wp2_with fail
    go_round
    case rel => exact ⟨k + 1, by omega, by go_num, unhide Hn heq⟩
    case measure => simp [intOf]; omega
  ·obtain rfl : k = l.length := by omega
   go_wp2_with fail
   go_ret
   exact ⟨ret_int (by rw [findP_none l _ (fun j h => unhide Hno j h h)]), rfl⟩
theorem allT_succ {α : Type} (f : α → Bool) (S : List α) (k : Nat) (h : k < S.length) : (S.take (k + 1)).all f = ((S.take k).all f && f S[k]) := by
 rw [List.take_succ_eq_append_getElem h, List.all_append]; simp
theorem all_at {α : Type} (f : α → Bool) (S : List α) (k : Nat) (h : k < S.length) (hf : f S[k] = false) : S.all f = false := by
 rw [List.all_eq_false]; exact ⟨S[k], List.getElem_mem h, by simp [hf]⟩
theorem sp_last (p : List UInt8) (k : Nat) (h : (sp p).length = k + 1) : (sp p)[k]? = some ((sp p).getLastD []) := by
 have e : (sp p)[(sp p).length - 1]? = (sp p)[k]? := by congr 1; omega
 rw [List.getLastD_eq_getLast?, List.getLast?_eq_getElem?, e, List.getElem?_eq_getElem (by omega)]; rfl
theorem sp_two (p : List UInt8) (h : 1 < (sp p).length) : ((sp p).getLastD []).length + 1 ≤ p.length := by
 induction p with
 | nil => simp [sp] at h
 | cons c r ih =>
  simp only [sp] at h ⊢
  by_cases hc : c = 47
  ·simp only [if_pos hc] at h ⊢
   have h2 : (sp r).getLastD [] ∈ sp r := by
    rw [List.getLastD_eq_getLast?]
    cases hs : (sp r).getLast? with
    | none => simp [List.getLast?_eq_none_iff] at hs; exact absurd hs (sp_ne r)
    | some x => exact List.mem_of_getLast? hs
   have h3 := sp_part r _ h2
   cases hr : sp r with
   | nil => exact absurd hr (sp_ne r)
   | cons x t => rw [hr] at h3; simp [List.getLastD] at h3 ⊢; omega
  ·simp only [if_neg hc] at h ⊢
   cases hr : sp r with
   | nil => exact absurd hr (sp_ne r)
   | cons x t =>
    rw [hr] at h ih
    simp only at h ⊢
    cases t with
    | nil => simp at h
    | cons y t' => have := ih (by simp); simp [List.getLastD] at this ⊢; omega
theorem kindBad_eq (p : ByteArray) (kd : Int) (dt : ByteArray) (tb : Bool) (htb : P.isTarget dt.data.toList = tb) :
  kindBad ⟨p, kd, dt⟩ = (decide (kd < 0) || decide (3 < kd) || (kd == 0 && !dt.toList.isEmpty) || ((kd == 1 || kd == 2) && decide ((60 : Int) < (dt.size : Int))) || (kd == 3 && !tb)) := by
 simp only [kindBad, htb]
theorem fineP_eq (l : List En) (i : Nat) (h : i < l.length) (p : List UInt8) (kd : Int) (dt : ByteArray) (hx : l[i] = ⟨bs p, kd, dt⟩) :
  fineP l i = (decide ((sp p).length ≤ 5) && (sp p).all P.isName && !kindBad ⟨bs p, kd, dt⟩ && !upBad l p && (findP l p == (i : Int))) := by
 have e : l.getD i en0 = ⟨bs p, kd, dt⟩ := by rw [List.getD_eq_getElem?_getD, List.getElem?_eq_getElem h, hx]; rfl
 simp only [fineP, e, bs_data]
set_option maxRecDepth 100000 in
set_option maxHeartbeats 2000000 in
theorem fine_any (l : List En) (a : Option Addr) (c i : Nat) (w : World) (hl : l.length ≤ maxLen) (hi : LiesE w a l) (hlt : i < l.length) (hp : l[i].path.size ≤ 1100000) (hd : l[i].data.size ≤ maxLen) :
  Calls Tryz.prog 69 #[.slice a l.length c, .int .i64 i] w fun e w' => e = .returned (.bool (fineP l i)) ∧ Below w.heap.size w w' := by
 unfold maxLen at hl
 obtain ⟨b, o, rfl, hc⟩ := EntsAt.get hi hlt
 obtain ⟨c0, c1, c2⟩ := hc i hlt
 obtain ⟨p, kd, dt, hx⟩ : ∃ p kd dt, l[i] = ⟨bs p, kd, dt⟩ := ⟨l[i].path.data.toList, l[i].kind, l[i].data, by rw [bs_of]⟩
 have Hf := hide (fineP_eq l i hlt p kd dt hx)
 rw [hx] at c0 c1 c2 hp hd
 simp only [bs_size] at c0 c1 c2 hp hd
 clear hx
 have q2 : (i : Int) < (l.length : Int) := by omega
 have Hc := hide hc
 clear hc
 go_enter Tryz.func69, Tryz.ntmps69
 go_wp2_with fail
 refine (split_any p _ hp).mono ?_
 rintro e w1 ⟨v, rfl, ho1, hb1⟩
 have hbw : Below w.heap.size w w1 := ((Below.refl _ _).alloc (Nat.le_refl _) _).trans (hb1.mono (by simp))
 have hc1 : EntsAt w1 b o l := (unhide Hc).below hbw (Nat.le_refl _)
 obtain ⟨d0, d1, d2⟩ : EntAt w1 w.heap.size 0 ⟨bs p, kd, dt⟩ := by
  have hn := heap_alloc_new w (Obj.cells #[Value.string (bs p), Value.int IntKind.i64 kd, Value.string dt] 32)
  have h2 := (hb1.block w.heap.size (by simp)).trans hn
  exact ⟨cell_of_block h2, cell_of_block h2, cell_of_block h2⟩
 simp only [Nat.zero_add] at d0 d1 d2
 clear hb1 c0 c1 c2 hi Hc
 obtain ⟨a1, cc, rfl, ht1, _⟩ := ho1.texts
 have hsl := sp_len p
 have Hlast := hide (sp_last p)
 have Htwo := hide (sp_two p)
 clear ho1
 generalize hS : sp p = S at *
 have HS := hide hS
 clear hS
 have Hc1 := hide hc1
 clear hc1
 by_cases h5 : (5 : Int) < (S.length : Int)
 ·go_wp2_with fail
  go_ret
  refine ⟨ret_bool ?_, hbw⟩
  rw [unhide Hf, decide_eq_false (by omega)]; rfl
 have g5 : decide ((5 : Int) < (S.length : Int)) = false := by simpa using h5
 go_wp2_with fail
 go_loop [7] (fun i => ∃ k : Nat, k ≤ S.length ∧ i = .int .i64 k ∧ (S.take k).all P.isName = true) (fun i => S.length - (intOf i).toNat)
 case atStart => exact ⟨0, Nat.zero_le _, rfl, rfl⟩
 case round =>
  obtain ⟨k, hk, rfl, hall⟩ := hrel
  have Hall := hide hall
  clear hall
  by_cases hkl : k < S.length
  ·obtain ⟨b1, o1, rfl, hct⟩ : ∃ b o, a1 = some ⟨b, o, none⟩ ∧ ∀ i (h : i < S.length), w1.cell? ⟨b, o + i, none⟩ = some (strVal S[i]) := by
    rcases ht1 with h | h
    ·subst h; simp at hkl
    ·exact h
   have ck := hct k hkl
   have Hs := hide (allT_succ P.isName S k hkl)
   have Ha := hide (all_at P.isName S k hkl)
   have hsz : S[k].length ≤ 1100000 := by
    have := sp_part p S[k] (by rw [unhide HS]; exact List.getElem_mem hkl)
    omega
   generalize S[k] = x at *
   unfold strVal at ck
   have q3 : (k : Int) < (S.length : Int) := by omega
   clear hct
   have hsz2 : (bs x).size ≤ maxLen := by rw [bs_size]; unfold maxLen; omega
   go_wp2_with fail
   refine (refName (bs x) _ hsz2).mono ?_
   rintro e w2 ⟨rfl, hw2⟩
   subst hw2
   rw [bs_data]
   generalize hnb : P.isName x = nb at *
   have Hnb := hide hnb
   clear hnb
   cases nb with
   | false =>
    go_wp2_with fail
    go_ret
    refine ⟨ret_bool ?_, hbw⟩
    rw [unhide Hf, unhide Ha trivial]; simp
   | true =>
    go_wp2_with fail
    go_round
    case rel => exact ⟨k + 1, by omega, by go_num, by rw [unhide Hs, unhide Hall]; rfl⟩
    case measure => simp [intOf]; omega
  ·obtain rfl : k = S.length := by omega
   have Hnames := hide (show S.all P.isName = true by have := unhide Hall; rwa [List.take_length] at this)
   clear Hall
   go_wp2_with fail
   refine (refTarget dt _ hd).mono ?_
   rintro e w2 ⟨rfl, hw2⟩
   subst hw2
   have Hkb := hide (fun tb h => kindBad_eq (bs p) kd dt tb h)
   generalize htb : P.isTarget dt.data.toList = tb
   replace Hkb := hide (unhide Hkb tb htb)
   clear htb
   go_upto_region 12 with fail
   go_cut [79] (fun s79 wx => s79 = .bool (kindBad ⟨bs p, kd, dt⟩) ∧ w2 = wx)
   case first =>
    rcases (show kd < 0 ∨ (¬ kd < 0 ∧ 3 < kd) ∨ kd = 0 ∨ kd = 1 ∨ kd = 2 ∨ kd = 3 by omega) with h | ⟨h0, h⟩ | rfl | rfl | rfl | rfl
    ·have g : decide (kd < 0) = true := by simpa using h
     go_wp2_with fail
     go_meet
     exact ⟨congrArg Value.bool (by rw [unhide Hkb, g]; rfl), rfl⟩
    ·have g0 : decide (kd < 0) = false := by simpa using h0
     have g : decide (3 < kd) = true := by simpa using h
     go_wp2_with fail
     go_meet
     exact ⟨congrArg Value.bool (by rw [unhide Hkb, g0, g]; rfl), rfl⟩
    ·cases hem : dt.toList.isEmpty with
     | true =>
      go_wp2_with fail
      go_meet
      exact ⟨congrArg Value.bool (by rw [unhide Hkb, hem]; rfl), rfl⟩
     | false =>
      go_wp2_with fail
      go_meet
      exact ⟨congrArg Value.bool (by rw [unhide Hkb, hem]; rfl), rfl⟩
    ·cases hem : decide ((60 : Int) < (dt.size : Int)) with
     | true =>
      go_wp2_with fail
      go_meet
      exact ⟨congrArg Value.bool (by rw [unhide Hkb, hem]; rfl), rfl⟩
     | false =>
      go_wp2_with fail
      go_meet
      exact ⟨congrArg Value.bool (by rw [unhide Hkb, hem]; rfl), rfl⟩
    ·cases hem : decide ((60 : Int) < (dt.size : Int)) with
     | true =>
      go_wp2_with fail
      go_meet
      exact ⟨congrArg Value.bool (by rw [unhide Hkb, hem]; rfl), rfl⟩
     | false =>
      go_wp2_with fail
      go_meet
      exact ⟨congrArg Value.bool (by rw [unhide Hkb, hem]; rfl), rfl⟩
    ·cases tb with
     | true =>
      go_wp2_with fail
      go_meet
      exact ⟨congrArg Value.bool (by rw [unhide Hkb]; rfl), rfl⟩
     | false =>
      go_wp2_with fail
      go_meet
      exact ⟨congrArg Value.bool (by rw [unhide Hkb]; rfl), rfl⟩
   case rest =>
    obtain ⟨h79, hwc⟩ := hcut
    subst hwc
    subst h79
    clear Hkb
    cases hkb : kindBad ⟨bs p, kd, dt⟩ with
    | true =>
     have Hf2 := hide (show fineP l i = false by rw [unhide Hf, hkb]; simp)
     clear hkb
     go_wp2_with fail
     go_ret
     exact ⟨ret_bool (unhide Hf2).symm, hbw⟩
    | false =>
     have Hf2 := hide (show fineP l i = (!upBad l p && (findP l p == (i : Int))) by
      rw [unhide Hf, hkb, unhide Hnames, decide_eq_true (by omega)]; rfl)
     clear hkb Hf
     have hle : LiesE w2 (some ⟨b, o, none⟩) l := .inr ⟨b, o, rfl, unhide Hc1⟩
     have hlm : l.length ≤ maxLen := hl
     by_cases h1 : (1 : Int) < (S.length : Int)
     ·obtain ⟨n, hn⟩ : ∃ n, S.length = n + 1 := ⟨S.length - 1, by omega⟩
      obtain ⟨b1, o1, rfl, hct⟩ : ∃ b o, a1 = some ⟨b, o, none⟩ ∧ ∀ i (h : i < S.length), w2.cell? ⟨b, o + i, none⟩ = some (strVal S[i]) := by
       rcases ht1 with h | h
       ·subst h; simp at hn
       ·exact h
      have hla := unhide Hlast n hn
      have htw := unhide Htwo (by omega)
      have ck : w2.cell? ⟨b1, o1 + n, none⟩ = some (strVal (S.getLastD [])) := by
       have := hct n (by omega)
       rw [List.getElem?_eq_getElem (by omega)] at hla
       rw [this, Option.some.inj hla]
      have Hu := hide (show upBad l p = if findP l (upPath p) < 0 then true else (l.getD (findP l (upPath p)).toNat en0).kind != 0 by unfold upBad; rw [unhide HS, if_neg (by omega)])
      have hup : upPath p = p.take (p.length - (S.getLastD []).length - 1) := by unfold upPath; rw [unhide HS]
      clear hct hla Hlast Htwo HS Hnames
      generalize S.getLastD [] = la at *
      unfold strVal at ck
      have z1 := bs_size p
      have z2 := bs_size la
      have q4 : (n : Int) ≤ 4 := by omega
      have q5 : (n : Int) < ((n + 1 : Nat) : Int) := by omega
      have q6 : (1 : Int) < ((n + 1 : Nat) : Int) := by omega
      have q7 : 0 ≤ (p.length : Int) - (la.length : Int) - 1 := by omega
      have q8 : (p.length : Int) - (la.length : Int) - 1 ≤ (p.length : Int) := by omega
      have x1 : (bs p).extract 0 ((p.length : Int) - (la.length : Int) - 1).toNat = bs (upPath p) := by
       rw [extract_bs, hup]; congr 2; omega
      clear hup
      rw [hn]
      clear hn h1 h5 g5 hsl ht1 hk hkl
      go_upto_region 15 with fail
      go_quiet ((go_at_call 48; refine Calls.quiet_of_same (find_any l _ _ _ _ hlm ?_); exact hle.below (below_drewN (Below.refl _ _) _) (Nat.le_refl _)))
      rw [show (bs p).extract 0 (p.length - la.length - 1) = bs (upPath p) by rw [← x1]; congr 1; omega, bs_data]
      have hbq := below_drewN hbw nq
      have hc3 : EntsAt (w2.drewN nq) b o l := (unhide Hc1).below (below_drewN (Below.refl _ _) _) (Nat.le_refl _)
      have d0' : (w2.drewN nq).cell? ⟨w.heap.size, 0, none⟩ = some (.string (bs p)) := by rw [← d0]; rfl
      have hbd := findP_bd l (upPath p)
      clear x1 d0 d1 d2 ck hbw Hc1 hle q4 q5 q6 q7 q8 z1 z2
      generalize w2.drewN nq = w3 at *
      generalize findP l (upPath p) = f at *
      have hle3 : LiesE w3 (some ⟨b, o, none⟩) l := .inr ⟨b, o, rfl, hc3⟩
      by_cases hf0 : f < 0
      ·have Hf3 := hide (show fineP l i = false by rw [unhide Hf2, unhide Hu, if_pos hf0]; rfl)
       have g0 : decide (f < 0) = true := by simpa using hf0
       go_wp2_with fail
       go_ret
       exact ⟨ret_bool (unhide Hf3).symm, hbq⟩
      ·obtain ⟨m, rfl⟩ : ∃ m : Nat, f = (m : Int) := ⟨f.toNat, by omega⟩
       have hm : m < l.length := by omega
       have hm' : (m : Int) < (l.length : Int) := by omega
       obtain ⟨-, e1, -⟩ := hc3 m hm
       have hkm : (l.getD (m : Int).toNat en0).kind = l[m].kind := by rw [Int.toNat_natCast, List.getD_eq_getElem?_getD, List.getElem?_eq_getElem hm]; rfl
       have Hu2 := hide (show upBad l p = (l[m].kind != 0) by rw [unhide Hu, if_neg hf0, hkm])
       clear Hu hkm hc3 hbd
       generalize l[m].kind = km at *
       cases hk0 : (km != 0) with
       | true =>
        have Hf3 := hide (show fineP l i = false by rw [unhide Hf2, unhide Hu2, hk0]; rfl)
        go_wp2_with fail
        go_ret
        exact ⟨ret_bool (unhide Hf3).symm, hbq⟩
       | false =>
        have Hf3 := hide (show fineP l i = (findP l p == (i : Int)) by rw [unhide Hf2, unhide Hu2, hk0]; rfl)
        go_wp2_with fail
        refine (find_any l _ _ (bs p) w3 hlm hle3).mono ?_
        rintro e w4 ⟨rfl, hw4⟩
        subst hw4
        rw [bs_data]
        generalize findP l p = fd at *
        go_wp2_with fail
        go_ret
        exact ⟨ret_bool (unhide Hf3).symm, hbq⟩
     ·have Hu := hide (show upBad l p = false by unfold upBad; rw [unhide HS, if_pos (by omega)])
      go_wp2_with fail
      refine (find_any l _ _ (bs p) w2 hlm hle).mono ?_
      rintro e w3 ⟨rfl, hw3⟩
      subst hw3
      rw [bs_data]
      generalize hfd : findP l p = fd at *
      go_wp2_with fail
      go_ret
      exact ⟨ret_bool (by rw [unhide Hf2, unhide Hu]; simp), hbw⟩
def escP (e : En) : Bool := e.kind == 3 && outP ((sp e.path.data.toList).length - 1) e.data.data.toList
theorem wrongP_eq (l : List En) : wrongP l = if 40 < l.length then 1 else if (List.range l.length).all (fineP l) = false then 1 else if l.any escP then 2 else 0 := rfl
theorem fineP_link (l : List En) (i : Nat) (h : i < l.length) (hf : fineP l i = true) (hk : l[i].kind = 3) : P.isTarget l[i].data.data.toList = true := by
 have e : l.getD i en0 = l[i] := by rw [List.getD_eq_getElem?_getD, List.getElem?_eq_getElem h]; rfl
 simp only [fineP, e, Bool.and_eq_true, Bool.not_eq_true'] at hf
 have hb := hf.1.1.2
 simp only [kindBad, hk, Bool.or_eq_false_iff] at hb
 simpa using hb.2
theorem fineP_deep (l : List En) (i : Nat) (h : i < l.length) (hf : fineP l i = true) : (sp l[i].path.data.toList).length ≤ 5 := by
 have e : l.getD i en0 = l[i] := by rw [List.getD_eq_getElem?_getD, List.getElem?_eq_getElem h]; rfl
 simp only [fineP, e, Bool.and_eq_true, decide_eq_true_eq] at hf
 exact hf.1.1.1.1
theorem any_take_succ {α : Type} (f : α → Bool) (S : List α) (k : Nat) (h : k < S.length) : (S.take (k + 1)).any f = ((S.take k).any f || f S[k]) := by
 rw [List.take_succ_eq_append_getElem h, List.any_append]; simp
theorem any_at {α : Type} (f : α → Bool) (S : List α) (k : Nat) (h : k < S.length) (hf : f S[k] = true) : S.any f = true := by
 rw [List.any_eq_true]; exact ⟨S[k], List.getElem_mem h, hf⟩
theorem range_all_succ (f : Nat → Bool) (k : Nat) : (List.range (k + 1)).all f = ((List.range k).all f && f k) := by
 rw [List.range_succ, List.all_append]; simp
theorem range_all_at (f : Nat → Bool) (n k : Nat) (h : k < n) (hf : f k = false) : (List.range n).all f = false := by
 rw [List.all_eq_false]; exact ⟨k, by simpa using h, by simp [hf]⟩
def TFit (l : List En) : Prop := ∀ i (h : i < l.length), l[i].path.size ≤ 1100000 ∧ l[i].data.size ≤ maxLen
set_option maxRecDepth 100000 in
set_option maxHeartbeats 2000000 in
theorem wrong_any (l : List En) (a : Option Addr) (c : Nat) (w : World) (hl : l.length ≤ maxLen) (hi : LiesE w a l) (hf : TFit l) :
  Calls Tryz.prog 45 #[.slice a l.length c] w fun e w' => e = .returned (.int .i64 (wrongP l)) ∧ Below w.heap.size w w' := by
 have hl' := hl
 unfold maxLen at hl
 have Hw := hide (wrongP_eq l)
 by_cases h40 : (40 : Int) < (l.length : Int)
 ·go_enter Tryz.func45, Tryz.ntmps45
  go_wp2_with fail
  go_ret
  exact ⟨ret_int (by rw [unhide Hw, if_pos (by omega)]), Below.refl _ _⟩
 have g40 : decide ((40 : Int) < (l.length : Int)) = false := by simpa using h40
 go_enter Tryz.func45, Tryz.ntmps45
 go_wp2_with fail
 go_loopw [3] (fun i wr => ∃ k : Nat, k ≤ l.length ∧ i = .int .i64 k ∧ Below w.heap.size w wr ∧ (List.range k).all (fineP l) = true) (fun i _ => l.length - (intOf i).toNat)
 case atStart => exact ⟨0, Nat.zero_le _, rfl, Below.refl _ _, rfl⟩
 case round =>
  obtain ⟨k, hk, rfl, hbel, hall⟩ := hrel
  have Hall := hide hall
  clear hall
  by_cases hlt : k < l.length
  ·have q2 : (k : Int) < (l.length : Int) := by omega
   go_wp2_with fail
   refine (fine_any l a c k wr hl' (hi.below hbel (Nat.le_refl _)) hlt (hf k hlt).1 (hf k hlt).2).mono ?_
   rintro e w1 ⟨rfl, hb1⟩
   have hbw : Below w.heap.size w w1 := hbel.trans (hb1.mono hbel.size)
   generalize hfk : fineP l k = fk
   have Hfk := hide hfk
   clear hfk hb1 hbel
   cases fk with
   | false =>
    have Hr := hide (range_all_at (fineP l) l.length k hlt (unhide Hfk))
    go_wp2_with fail
    go_ret
    exact ⟨ret_int (by rw [unhide Hw, if_neg (by omega), if_pos (unhide Hr)]), hbw⟩
   | true =>
    have Hr := hide (show (List.range (k + 1)).all (fineP l) = true by rw [range_all_succ, unhide Hall, unhide Hfk]; rfl)
    go_wp2_with fail
    go_roundw
    case rel => exact ⟨k + 1, by omega, by go_num, hbw, unhide Hr⟩
    case measure => simp [intOf]; omega
  ·obtain rfl : k = l.length := by omega
   have Hfin := hide (show ∀ i, i < l.length → fineP l i = true from fun i hi => by
    have := unhide Hall; rw [List.all_eq_true] at this; exact this i (by simpa using hi))
   have Hw2 := hide (show wrongP l = if l.any escP then 2 else 0 by rw [unhide Hw, if_neg (by omega), if_neg (by rw [unhide Hall]; simp)])
   clear Hall Hw
   go_wp2_with fail
   go_loopw [5] (fun i wr => ∃ k : Nat, k ≤ l.length ∧ i = .int .i64 k ∧ Below w.heap.size w wr ∧ (l.take k).any escP = false) (fun i _ => l.length - (intOf i).toNat)
   case atStart => exact ⟨0, Nat.zero_le _, rfl, hbel, rfl⟩
   case round =>
    clear hbel
    obtain ⟨k, hk, rfl, hbel, hany⟩ := hrel
    have Hany := hide hany
    clear hany
    by_cases hlt : k < l.length
    ·have q2 : (k : Int) < (l.length : Int) := by omega
     obtain ⟨b, o, rfl, hc⟩ := EntsAt.get (hi.below hbel (Nat.le_refl _)) hlt
     obtain ⟨c0, c1, c2⟩ := hc k hlt
     obtain ⟨p, kd, dt, hx⟩ : ∃ p kd dt, l[k] = ⟨bs p, kd, bs dt⟩ := ⟨l[k].path.data.toList, l[k].kind, l[k].data.data.toList, by rw [bs_of, bs_of]⟩
     have Hs := hide (any_take_succ escP l k hlt)
     have Ha := hide (any_at escP l k hlt)
     have Hlink := hide (fineP_link l k hlt (unhide Hfin k hlt))
     have Hdeep := hide (fineP_deep l k hlt (unhide Hfin k hlt))
     have hp := (hf k hlt).1
     rw [hx] at c0 c1 c2 Hs Ha Hlink Hdeep hp
     simp only [bs_size, bs_data] at c0 c1 c2 hp Hlink Hdeep
     clear hx
     have hes : escP ⟨bs p, kd, bs dt⟩ = (kd == 3 && outP ((sp p).length - 1) dt) := by simp only [escP, bs_data]
     rw [hes] at Hs Ha
     clear hes hc
     go_wp2_with fail
     refine (split_any p _ hp).mono ?_
     rintro e w1 ⟨v, rfl, ho1, hb1⟩
     have hbw : Below w.heap.size w w1 := hbel.trans (hb1.mono hbel.size)
     have e1 := (hb1.cell (p := ⟨b, o + k * 3 + 1, none⟩) (block_lt c1)).trans c1
     have e2 := (hb1.cell (p := ⟨b, o + k * 3 + 2, none⟩) (block_lt c2)).trans c2
     obtain ⟨a1, cc, rfl, ht1, _⟩ := ho1.texts
     have hsn : 1 ≤ (sp p).length := by
      have := sp_ne p
      cases hs : sp p with
      | nil => exact absurd hs this
      | cons _ _ => simp
     clear ho1 ht1 hb1 c0 c1 c2
     by_cases h3 : kd = 3
     ·subst h3
      have ht := unhide Hlink rfl
      have htn : dt ≠ [] ∧ dt.length ≤ 30 := by
       simp only [P.isTarget, Bool.and_eq_true, decide_eq_true_eq] at ht
       refine ⟨fun h => ?_, ht.1.2⟩
       subst h; simp at ht
      have hdp := unhide Hdeep
      clear ht Hlink Hdeep
      generalize (sp p).length = n at *
      have q3 : (n : Int) ≤ 5 := by omega
      have q4 : 0 ≤ (n : Int) - 1 := by omega
      go_wp2_with fail
      refine (out_any _ dt _ (by omega) (by omega) htn.1 (by omega)).mono ?_
      rintro e w2 ⟨rfl, hb2⟩
      have hbw2 : Below w.heap.size w w2 := hbw.trans (hb2.mono hbw.size)
      generalize hob : outP ((n : Int) - 1) dt = ob at *
      have Hob := hide hob
      clear hob hb2 hbw e1 e2
      cases ob with
      | true =>
       have Hr := hide (show l.any escP = true from unhide Ha (by simp))
       go_wp2_with fail
       go_ret
       exact ⟨ret_int (by rw [unhide Hw2, unhide Hr]; rfl), hbw2⟩
      | false =>
       have Hr := hide (show (l.take (k + 1)).any escP = false by rw [unhide Hs, unhide Hany]; rfl)
       go_wp2_with fail
       go_roundw
       case rel => exact ⟨k + 1, by omega, by go_num, hbw2, unhide Hr⟩
       case measure => simp [intOf]; omega
     ·have g3 : (kd == 3) = false := by simpa using h3
      have Hr := hide (show (l.take (k + 1)).any escP = false by rw [unhide Hs, unhide Hany, g3]; rfl)
      clear Hs Ha Hlink
      go_wp2_with fail
      go_roundw
      case rel => exact ⟨k + 1, by omega, by go_num, hbw, unhide Hr⟩
      case measure => simp [intOf]; omega
    ·obtain rfl : k = l.length := by omega
     have Hr := hide (show l.any escP = false by have := unhide Hany; rwa [List.take_length] at this)
     go_wp2_with fail
     go_ret
     exact ⟨ret_int (by rw [unhide Hw2, unhide Hr]; rfl), hbel⟩
theorem info_int : (Tryz.prog.info? 3).map (fun i => (i.zero, i.size, i.bytes)) = some (some (.int .i64 0), 1, 8) := by kernel_rfl
def natVal (n : Nat) : Value := .int .i64 n
def OwnsI (w : World) (base : Nat) (v : Value) (l : List Nat) : Prop := w.ownsRow base 3 1 v l.length (l.map natVal)
theorem OwnsI.alloc {w : World} {base : Nat} {v : Value} {l : List Nat} (h : OwnsI w base v l) (o : Obj) : OwnsI (w.alloc o) base v l := World.ownsRow.alloc h o
theorem OwnsI.below {w w' : World} {base : Nat} {v : Value} {l : List Nat} (h : OwnsI w base v l) (hb : Below w.heap.size w w') : OwnsI w' base v l :=
 World.ownsRow.kept (row := none) h ⟨hb.os, hb.tape, hb.output, hb.size, fun k hk _ => hb.block k hk⟩ (by cases v.ownBlock <;> simp)
def NatsAt (w : World) (a : Option Addr) (l : List Nat) : Prop := l = [] ∨ ∃ b o, a = some ⟨b, o, none⟩ ∧ ∀ i (h : i < l.length), w.cell? ⟨b, o + i, none⟩ = some (natVal l[i])
theorem NatsAt.below {B : Nat} {w w' : World} {a : Option Addr} {l : List Nat} (h : NatsAt w a l) (hb : Below B w w') (hB : w.heap.size ≤ B) : NatsAt w' a l := by
 rcases h with h | ⟨b, o, e, h⟩
 ·exact .inl h
 ·exact .inr ⟨b, o, e, fun i hi => (hb.cell (p := ⟨b, _, none⟩) (Nat.lt_of_lt_of_le (block_lt (h i hi)) hB)).trans (h i hi)⟩
theorem OwnsI.nats {w : World} {base : Nat} {v : Value} {l : List Nat} (h : OwnsI w base v l) : ∃ a c, v = .slice a l.length c ∧ NatsAt w a l ∧ (a = none → c = 0) ∧ l.length ≤ c := by
 rcases h.2 with ⟨rfl, hn⟩ | ⟨g, cap, cur, rfl, _, hg, hnc, hcm, hcs, htake⟩
 ·exact ⟨none, 0, by rw [hn], .inl (List.eq_nil_of_length_eq_zero hn), fun _ => rfl, by omega⟩
 ·refine ⟨some ⟨g, 0, none⟩, cap, rfl, .inr ⟨g, 0, rfl, fun i hi => ?_⟩, fun h => by simp at h, hnc⟩
  have := World.ownsRow.cells h (g := g) rfl i (natVal l[i]) (by simp [List.getElem?_eq_getElem hi])
  rw [add_off0] at this
  rw [Nat.zero_add]
  exact this
theorem app_int {w : World} {ops : Array Oper} {rest : List Oper} {o : Oper} {a : Act} {Q : Exit → Act → World → Prop} (hgd : o.guard = none) (s x : Operand)
  (ho : o.op = .call { callee := .builtin .append, args := #[s, x], argTypes := #[55, 55] }) (base : Nat) (v : Value) (l : List Nat) (hs : a.eval s = v) (hown : OwnsI w base v l)
  (ad : Addr) (y : Nat) (hx : a.eval x = .slice (some ad) 1 1) (hnews : w.cell? (ad.add 0) = some (natVal y))
  (hlen : l.length ≤ 2000000) (hbase : base ≤ w.heap.size)
  (h : ∀ v' w', OwnsI w' base v' (l ++ [y]) → w.grownBy w' v.ownBlock → wpList Tryz.prog ops Q rest (a.put o.dst v') w') : wpList Tryz.prog ops Q (o :: rest) a w := by
 obtain ⟨i0, hi, hz0, hz1, hz2⟩ := info_parts info_int
 refine wpList_append_own w hgd s x 55 ho base 3 i0 _ 1 8 Tryz.underlying55 hi hz0 hz1 hz2 rfl (by decide) v l.length (l.map natVal) hs hown ad 1 1 [natVal y] hx rfl ?_ ?_ (by unfold maxLen; omega) (by omega) hbase ?_
 ·intro j u hj
  match j, hj with
  | 0, hj => simp at hj; subst hj; exact hnews
 ·intro u hu; simp at hu; subst hu; rfl
 ·intro v' w' h2 h3 _
  refine h v' w' ?_ h3
  unfold OwnsI
  rw [List.map_append, List.length_append]
  exact h2
theorem bst_step (path last : List UInt8) (l : List En) (k : Nat) (h : k < l.length) (st : Int × List UInt8) : bst path last (l.drop k) k st = bst path last (l.drop (k + 1)) (k + 1) (stepB path last st k l[k]) := by
 rw [List.drop_eq_getElem_cons h]; rfl
def lenV : Value → Nat
 | .slice _ n _ => n
 | _ => 0
def ELens (l : List En) : Prop := ∀ i (h : i < l.length), l[i].path.size ≤ maxLen
set_option maxRecDepth 100000 in
set_option maxHeartbeats 2000000 in
theorem inside_any (l : List En) (a : Option Addr) (c : Nat) (path : List UInt8) (w : World) (hl : l.length ≤ 1000000) (hi : LiesE w a l) (hf : ELens l) (hpl : path.length ≤ 1100000) :
  Calls Tryz.prog 72 #[.slice a l.length c, .string (bs path)] w fun e w' => ∃ v, e = .returned v ∧ OwnsI w' w.heap.size v (insP l path) ∧ Below w.heap.size w w' := by
 have zp := bs_size path
 go_enter Tryz.func72, Tryz.ntmps72
 go_wp2_with fail
 go_loopw [5, 6] (fun v la wr => ∃ (done : List Nat) (last : List UInt8) (F : Nat), OwnsI wr w.heap.size v done ∧ Below w.heap.size w wr ∧ la = .string (bs last) ∧ behind l path last < F ∧ done.length + F = l.length + 1 ∧ insP l path = done ++ insG l path F last) (fun v _ _ => l.length + 1 - lenV v)
 case atStart => exact ⟨[], [], l.length + 1, World.ownsRow_nil _ _ _ _, Below.refl _ _, rfl, by have := behind_le l path []; omega, by simp, rfl⟩
 case round =>
  obtain ⟨done, last, F, hown, hbel, rfl, hbh, hdf, hins⟩ := hrel
  have Hins := hide hins
  have Hbh := hide hbh
  have hbs := hbel.size
  have hir := hi.below hbel (Nat.le_refl _)
  clear hins hbh
  go_wp2_with fail
  go_loop [7, 8, 9] (fun bv nv i => ∃ (k : Nat) (bi : Int) (bn : List UInt8), k ≤ l.length ∧ i = .int .i64 k ∧ bv = .int .i64 bi ∧ nv = .string (bs bn) ∧ nxt l path last = bst path last (l.drop k) k (bi, bn)) (fun _ _ i => l.length - (intOf i).toNat)
  case atStart => exact ⟨0, -1, [], Nat.zero_le _, rfl, rfl, rfl, by simp [nxt]⟩
  case round =>
   obtain ⟨k, bi, bn, hk, rfl, rfl, rfl, hnx⟩ := hrel
   have Hnx := hide hnx
   clear hnx
   by_cases hlt : k < l.length
   ·obtain ⟨b, o, rfl, hc⟩ := EntsAt.get hir hlt
    obtain ⟨c0, -, -⟩ := hc k hlt
    obtain ⟨p, kd, dt, hx⟩ : ∃ p kd dt, l[k] = ⟨bs p, kd, dt⟩ := ⟨l[k].path.data.toList, l[k].kind, l[k].data, by rw [bs_of]⟩
    have hstep : bst path last (l.drop k) k (bi, bn) = bst path last (l.drop (k + 1)) (k + 1) (stepB path last (bi, bn) k l[k]) := bst_step path last l k hlt (bi, bn)
    have hp := hf k hlt
    rw [hx] at c0 hstep hp
    simp only [bs_size] at c0 hp
    have hsb : stepB path last (bi, bn) k ⟨bs p, kd, dt⟩ = stepK last (bi, bn) k (kid path p) := by simp only [stepB, bs_data]
    rw [hsb] at hstep
    have Hst := hide hstep
    clear hstep hsb hx hc
    have z1 := bs_size p
    have q2 : (k : Int) < (l.length : Int) := by omega
    have x1 : (bs p).extract 0 path.length = bs (p.take path.length) := by rw [extract_bs]; simp
    have x2 : (bs p).extract path.length p.length = bs (p.drop path.length) := by rw [extract_bs]; congr 1; rw [List.take_of_length_le (by simp)]
    by_cases hle : (p.length : Int) ≤ (path.length : Int)
    ·have g : decide ((p.length : Int) ≤ (path.length : Int)) = true := by simpa using hle
     have hk0 : kid path p = none := by unfold kid; rw [if_neg (fun h => by omega)]
     have Hr := hide (show nxt l path last = bst path last (l.drop (k + 1)) (k + 1) (bi, bn) by rw [unhide Hnx, unhide Hst, hk0]; rfl)
     clear hk0 x1 x2
     go_wp2_with fail
     go_round
     case rel => exact ⟨k + 1, bi, bn, by omega, by go_num, rfl, rfl, unhide Hr⟩
     case measure => simp [intOf]; omega
    ·have g : decide ((p.length : Int) ≤ (path.length : Int)) = false := by simpa using hle
     have q3 : (path.length : Int) ≤ (p.length : Int) := by omega
     have hne0 := str_eq (p.take path.length) path
     rw [ByteArray.toList_eq] at hne0
     have hne : ((bs (p.take path.length)).toList == (bs path).toList) = (p.take path.length == path) := by rw [ByteArray.toList_eq, ByteArray.toList_eq, bs_data, bs_data]
     clear hne0
     by_cases htk : p.take path.length = path
     ·have gb : ((bs (p.take path.length)).toList == (bs path).toList) = true := by rw [hne]; simpa using htk
      clear hne
      have hkid : kid path p = if P.has (p.drop path.length) 47 = false then some (p.drop path.length) else none := by
       unfold kid
       by_cases hh : P.has (p.drop path.length) 47 = false
       ·rw [if_pos hh, if_pos ⟨by omega, htk, hh⟩]
       ·rw [if_neg hh, if_neg (fun h => hh h.2.2)]
      have hnl : (bs (p.drop path.length)).size ≤ maxLen := by rw [bs_size, List.length_drop]; omega
      clear htk
      rw [hkid] at Hst
      clear hkid
      unfold maxLen at hp
      go_wp2_with fail
      rw [x2] at *
      clear x1 x2 gb g hle c0
      generalize p.drop path.length = n at *
      refine (refHas47 (bs n) _ hnl).mono ?_
      rintro e w1 ⟨rfl, hw1⟩
      subst hw1
      rw [bs_data]
      generalize P.has n 47 = hb at *
      go_upto_region 12 with fail
      go_cut [58] (fun s58 wx => s58 = .bool (!hb && (less last n && (decide (bi < 0) || less n bn))) ∧ w1 = wx)
      case first =>
       clear Hst Hnx Hins Hbh
       obtain ⟨A, hA⟩ : ∃ A, Op.bytesLess (bs n).toList (bs last).toList = A := ⟨_, rfl⟩
       obtain ⟨B, hB⟩ : ∃ B, ((bs n).toList == (bs last).toList) = B := ⟨_, rfl⟩
       obtain ⟨D, hD⟩ : ∃ D, Op.bytesLess (bs n).toList (bs bn).toList = D := ⟨_, rfl⟩
       have HA := hide (show (!(A || B)) = less last n by
        rw [← gt_eq, ← hA, ← hB, ByteArray.toList_eq, ByteArray.toList_eq, bs_data, bs_data]; rfl)
       have HD := hide (show D = less n bn by rw [← hD, ByteArray.toList_eq, ByteArray.toList_eq, bs_data, bs_data]; rfl)
       cases hb with
       | true =>
        go_wp2_with fail
        go_meet
        exact ⟨rfl, rfl⟩
       | false =>
        obtain ⟨G, hG⟩ : ∃ G, decide (bi < 0) = G := ⟨_, rfl⟩
        cases A <;> cases B <;> cases G <;> cases D
        all_goals
         go_wp2_with fail
         go_meet
         exact ⟨congrArg Value.bool (by rw [← unhide HA, ← unhide HD, hG]; rfl), rfl⟩
      case rest =>
       obtain ⟨h58, hwc⟩ := hcut
       subst hwc
       subst h58
       cases hcb : (!hb && (less last n && (decide (bi < 0) || less n bn))) with
       | true =>
        have Hr := hide (show nxt l path last = bst path last (l.drop (k + 1)) (k + 1) ((k : Int), n) by
         rw [unhide Hnx, unhide Hst]
         rw [Bool.and_eq_true] at hcb
         have h0 : hb = false := by simpa using hcb.1
         rw [if_pos h0]
         simp only [stepK]
         rw [if_pos hcb.2])
        clear hcb Hst Hnx
        go_wp2_with fail
        go_round
        case rel => exact ⟨k + 1, k, n, by omega, by go_num, rfl, rfl, unhide Hr⟩
        case measure => simp [intOf]; omega
       | false =>
        have Hr := hide (show nxt l path last = bst path last (l.drop (k + 1)) (k + 1) (bi, bn) by
         rw [unhide Hnx, unhide Hst]
         cases hb with
         | true => rfl
         | false =>
          rw [if_pos rfl]
          simp only [stepK]
          rw [if_neg (by simpa using hcb)])
        clear hcb Hst Hnx
        go_wp2_with fail
        go_round
        case rel => exact ⟨k + 1, bi, bn, by omega, by go_num, rfl, rfl, unhide Hr⟩
        case measure => simp [intOf]; omega
     ·have gb : ((bs (p.take path.length)).toList == (bs path).toList) = false := by rw [hne]; simpa using htk
      have hk0 : kid path p = none := by unfold kid; rw [if_neg (fun h => htk h.2.1)]
      have Hr := hide (show nxt l path last = bst path last (l.drop (k + 1)) (k + 1) (bi, bn) by rw [unhide Hnx, unhide Hst, hk0]; rfl)
      clear hk0 x2 hne htk
      go_wp2_with fail
      go_round
      case rel => exact ⟨k + 1, bi, bn, by omega, by go_num, rfl, rfl, unhide Hr⟩
      case measure => simp [intOf]; omega
   ·obtain rfl : k = l.length := by omega
    have Hn := hide (show nxt l path last = (bi, bn) by rw [unhide Hnx, List.drop_length]; rfl)
    obtain ⟨f, rfl⟩ : ∃ f, F = f + 1 := ⟨F - 1, by have := unhide Hbh; omega⟩
    clear Hnx hlt
    by_cases hneg : bi < 0
    ·have g : decide (bi < 0) = true := by simpa using hneg
     have Hr := hide (show insP l path = done by
      rw [unhide Hins]
      simp only [insG]
      rw [unhide Hn, if_pos hneg, List.append_nil])
     go_wp2_with fail
     go_ret
     exact ⟨_, rfl, by rw [unhide Hr]; exact hown, hbel⟩
    ·have g : decide (bi < 0) = false := by simpa using hneg
     obtain ⟨m, rfl⟩ : ∃ m : Nat, bi = (m : Int) := ⟨bi.toNat, by omega⟩
     have Hr := hide (show insP l path = (done ++ [m]) ++ insG l path f bn by
      rw [unhide Hins]
      simp only [insG]
      rw [unhide Hn, if_neg hneg, Int.toNat_natCast, List.append_assoc]; rfl)
     have Hb2 := hide (show behind l path bn < f by
      have h1 := behind_lt l path last (by rw [unhide Hn]; exact hneg)
      rw [unhide Hn] at h1
      have h2 := unhide Hbh
      simp only at h1
      omega)
     clear Hins Hbh Hn hneg
     go_wp2_with (at_builtin; refine app_int rfl (.tmp 64) (.tmp 66) rfl w.heap.size _ done rfl (hown.alloc _) ⟨wr.heap.size, 0, none⟩ m rfl ?qa ?qb ?qc ?_)
     case qa => first | rfl | (rw [add_off0]; simp [natVal])
     case qb => omega
     case qc => first | omega | (simp; omega)
     intro v4 w4 ho4 g4
     have hb4 : Below w.heap.size w w4 := (hbel.alloc hbel.size _).grown g4 (by simp; omega) (fun k hk => (World.ownsRow.lt hown k hk).1)
     clear g4
     obtain ⟨a5, c5, e5, -, -, -⟩ := hown.nats
     obtain ⟨a6, c6, e6, -, -, -⟩ := ho4.nats
     go_wp2_with fail
     go_roundw
     case rel => exact ⟨done ++ [m], bn, f, ho4, hb4, rfl, unhide Hb2, by simp; omega, unhide Hr⟩
     case measure => simp only [lenV, e5, e6]; simp; omega
end Go.Proofs.YtjmacegibchplaaGreatDoor