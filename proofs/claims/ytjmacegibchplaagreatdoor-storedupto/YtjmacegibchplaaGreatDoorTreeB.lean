/-
  The document's search of paths, its test of an entry and of a tree: their contracts.
-/
import Derived.Test.YtjmacegibchplaaGreatDoorEntB
namespace Go.Proofs.YtjmacegibchplaaGreatDoor
open Go.RowKit
set_option linter.unusedVariables false
theorem findP_hit (l : List En) (p : List UInt8) (k : Nat) (hk : k < l.length) (h : l[k].path.data.toList = p) (hn : ∀ j (h : j < l.length), j < k → l[j].path.data.toList ≠ p) : findP l p = k := by
  have : l.findIdx? (fun e => e.path.data.toList == p) = some k := by
    rw [List.findIdx?_eq_some_iff_getElem]
    exact ⟨hk, by simpa using h, fun j hj => by simpa using hn j (by omega) hj⟩
  unfold findP; rw [this]
theorem findP_none (l : List En) (p : List UInt8) (hn : ∀ j (h : j < l.length), l[j].path.data.toList ≠ p) : findP l p = -1 := by
  have : l.findIdx? (fun e => e.path.data.toList == p) = none := by
    rw [List.findIdx?_eq_none_iff]
    intro x hx
    obtain ⟨j, hj, rfl⟩ := List.getElem_of_mem hx
    simpa using hn j hj
  unfold findP; rw [this]
theorem findP_bd (l : List En) (p : List UInt8) : -1 ≤ findP l p ∧ findP l p < l.length := by
  unfold findP
  split
  · rename_i i h
    rw [List.findIdx?_eq_some_iff_getElem] at h
    obtain ⟨h, _⟩ := h
    omega
  · omega
theorem EntsAt.get {w : World} {a : Option Addr} {l : List En} (h : LiesE w a l) {k : Nat} (hk : k < l.length) : ∃ b o, a = some ⟨b, o, none⟩ ∧ EntsAt w b o l := by
  rcases h with h | h
  · subst h; simp at hk
  · exact h
set_option maxHeartbeats 1000000 in
theorem find_any (l : List En) (a : Option Addr) (c : Nat) (q : ByteArray) (w : World) (hl : l.length ≤ maxLen) (hi : LiesE w a l) :
    Calls Tryz.prog 48 #[.slice a l.length c, .string q] w fun e w' => e = .returned (.int .i64 (findP l q.data.toList)) ∧ w' = w := by
  unfold maxLen at hl
  go_enter Tryz.func48, Tryz.ntmps48
  go_wp2_with fail
  go_loop [5] (fun i => ∃ k : Nat, k ≤ l.length ∧ i = .int .i64 k ∧ ∀ j (h : j < l.length), j < k → l[j].path.data.toList ≠ q.data.toList) (fun i => l.length - (intOf i).toNat)
  case atStart => exact ⟨0, Nat.zero_le _, rfl, fun j _ h => absurd h (by omega)⟩
  case round =>
    obtain ⟨k, hk, rfl, hno⟩ := hrel
    have Hno := hide hno
    clear hno
    by_cases hlt : k < l.length
    · obtain ⟨b, o, rfl, hc⟩ := EntsAt.get hi hlt
      obtain ⟨c0, -, -⟩ := hc k hlt
      have q2 : (k : Int) < (l.length : Int) := by omega
      have hx : (l[k].path.toList == q.toList) = (l[k].path.data.toList == q.data.toList) := by rw [ByteArray.toList_eq, ByteArray.toList_eq]
      have Hk := hide (findP_hit l q.data.toList k hlt)
      have Hn := hide (show l[k].path.data.toList ≠ q.data.toList → ∀ j (h : j < l.length), j < k + 1 → l[j].path.data.toList ≠ q.data.toList from fun hne j h hj => by
        rcases Nat.lt_or_ge j k with h1 | h1
        · exact unhide Hno j h h1
        · obtain rfl : j = k := by omega
          exact hne)
      generalize l[k].path = x at *
      clear hc
      by_cases heq : x.data.toList = q.data.toList
      · have hxb : (x.toList == q.toList) = true := by rw [hx]; simpa using heq
        clear hx
        go_wp2_with fail
        go_ret
        exact ⟨ret_int (by rw [unhide Hk heq (unhide Hno)]), rfl⟩
      · have hxb : (x.toList == q.toList) = false := by rw [hx]; simpa using heq
        clear hx
        go_wp2_with fail
        go_round
        case rel => exact ⟨k + 1, by omega, by go_num, unhide Hn heq⟩
        case measure => simp [intOf]; omega
    · obtain rfl : k = l.length := by omega
      go_wp2_with fail
      go_ret
      exact ⟨ret_int (by rw [findP_none l _ (fun j h => unhide Hno j h h)]), rfl⟩
theorem allT_succ {α : Type} (f : α → Bool) (S : List α) (k : Nat) (h : k < S.length) : (S.take (k + 1)).all f = ((S.take k).all f && f S[k]) := by
  rw [List.take_succ_eq_append_getElem h, List.all_append]; simp
theorem all_at {α : Type} (f : α → Bool) (S : List α) (k : Nat) (h : k < S.length) (hf : f S[k] = false) : S.all f = false := by
  rw [List.all_eq_false]; exact ⟨S[k], List.getElem_mem h, by simp [hf]⟩
theorem sp_last (p : List UInt8) (k : Nat) (h : (sp p).length = k + 1) : (sp p)[k]? = some ((sp p).getLastD []) := by
  have e : (sp p)[(sp p).length - 1]? = (sp p)[k]? := by congr 1; omega
  rw [List.getLastD_eq_getLast?, List.getLast?_eq_getElem?, e, List.getElem?_eq_getElem (by omega)]; rfl
theorem sp_two (p : List UInt8) (h : 1 < (sp p).length) : ((sp p).getLastD []).length + 1 ≤ p.length := by
  induction p with
  | nil => simp [sp] at h
  | cons c r ih =>
    simp only [sp] at h ⊢
    by_cases hc : c = 47
    · simp only [if_pos hc] at h ⊢
      have h2 : (sp r).getLastD [] ∈ sp r := by
        rw [List.getLastD_eq_getLast?]
        cases hs : (sp r).getLast? with
        | none => simp [List.getLast?_eq_none_iff] at hs; exact absurd hs (sp_ne r)
        | some x => exact List.mem_of_getLast? hs
      have h3 := sp_part r _ h2
      cases hr : sp r with
      | nil => exact absurd hr (sp_ne r)
      | cons x t => rw [hr] at h3; simp [List.getLastD] at h3 ⊢; omega
    · simp only [if_neg hc] at h ⊢
      cases hr : sp r with
      | nil => exact absurd hr (sp_ne r)
      | cons x t =>
        rw [hr] at h ih
        simp only at h ⊢
        cases t with
        | nil => simp at h
        | cons y t' => have := ih (by simp); simp [List.getLastD] at this ⊢; omega
theorem kindBad_eq (p : ByteArray) (kd : Int) (dt : ByteArray) (tb : Bool) (htb : P.isTarget dt.data.toList = tb) :
    kindBad ⟨p, kd, dt⟩ = (decide (kd < 0) || decide (3 < kd) || (kd == 0 && !dt.toList.isEmpty) || ((kd == 1 || kd == 2) && decide ((60 : Int) < (dt.size : Int))) || (kd == 3 && !tb)) := by
  simp only [kindBad, htb]
theorem fineP_eq (l : List En) (i : Nat) (h : i < l.length) (p : List UInt8) (kd : Int) (dt : ByteArray) (hx : l[i] = ⟨bs p, kd, dt⟩) :
    fineP l i = (decide ((sp p).length ≤ 5) && (sp p).all P.isName && !kindBad ⟨bs p, kd, dt⟩ && !upBad l p && (findP l p == (i : Int))) := by
  have e : l.getD i en0 = ⟨bs p, kd, dt⟩ := by rw [List.getD_eq_getElem?_getD, List.getElem?_eq_getElem h, hx]; rfl
  simp only [fineP, e, bs_data]
set_option maxRecDepth 100000 in
set_option maxHeartbeats 2000000 in
theorem fine_any (l : List En) (a : Option Addr) (c i : Nat) (w : World) (hl : l.length ≤ maxLen) (hi : LiesE w a l) (hlt : i < l.length) (hp : l[i].path.size ≤ 1100000) (hd : l[i].data.size ≤ maxLen) :
    Calls Tryz.prog 69 #[.slice a l.length c, .int .i64 i] w fun e w' => e = .returned (.bool (fineP l i)) ∧ Below w.heap.size w w' := by
  unfold maxLen at hl
  obtain ⟨b, o, rfl, hc⟩ := EntsAt.get hi hlt
  obtain ⟨c0, c1, c2⟩ := hc i hlt
  obtain ⟨p, kd, dt, hx⟩ : ∃ p kd dt, l[i] = ⟨bs p, kd, dt⟩ := ⟨l[i].path.data.toList, l[i].kind, l[i].data, by rw [bs_of]⟩
  have Hf := hide (fineP_eq l i hlt p kd dt hx)
  rw [hx] at c0 c1 c2 hp hd
  simp only [bs_size] at c0 c1 c2 hp hd
  clear hx
  have q2 : (i : Int) < (l.length : Int) := by omega
  have Hc := hide hc
  clear hc
  go_enter Tryz.func69, Tryz.ntmps69
  go_wp2_with fail
  refine (split_any p _ hp).mono ?_
  rintro e w1 ⟨v, rfl, ho1, hb1⟩
  have hbw : Below w.heap.size w w1 := ((Below.refl _ _).alloc (Nat.le_refl _) _).trans (hb1.mono (by simp))
  have hc1 : EntsAt w1 b o l := (unhide Hc).below hbw (Nat.le_refl _)
  obtain ⟨d0, d1, d2⟩ : EntAt w1 w.heap.size 0 ⟨bs p, kd, dt⟩ := by
    have hn := heap_alloc_new w (Obj.cells #[Value.string (bs p), Value.int IntKind.i64 kd, Value.string dt] 32)
    have h2 := (hb1.block w.heap.size (by simp)).trans hn
    exact ⟨cell_of_block h2, cell_of_block h2, cell_of_block h2⟩
  simp only [Nat.zero_add] at d0 d1 d2
  clear hb1 c0 c1 c2 hi Hc
  obtain ⟨a1, cc, rfl, ht1, _⟩ := ho1.texts
  have hsl := sp_len p
  have Hlast := hide (sp_last p)
  have Htwo := hide (sp_two p)
  clear ho1
  generalize hS : sp p = S at *
  have HS := hide hS
  clear hS
  have Hc1 := hide hc1
  clear hc1
  by_cases h5 : (5 : Int) < (S.length : Int)
  · go_wp2_with fail
    go_ret
    refine ⟨ret_bool ?_, hbw⟩
    rw [unhide Hf, decide_eq_false (by omega)]; rfl
  have g5 : decide ((5 : Int) < (S.length : Int)) = false := by simpa using h5
  go_wp2_with fail
  go_loop [7] (fun i => ∃ k : Nat, k ≤ S.length ∧ i = .int .i64 k ∧ (S.take k).all P.isName = true) (fun i => S.length - (intOf i).toNat)
  case atStart => exact ⟨0, Nat.zero_le _, rfl, rfl⟩
  case round =>
    obtain ⟨k, hk, rfl, hall⟩ := hrel
    have Hall := hide hall
    clear hall
    by_cases hkl : k < S.length
    · obtain ⟨b1, o1, rfl, hct⟩ : ∃ b o, a1 = some ⟨b, o, none⟩ ∧ ∀ i (h : i < S.length), w1.cell? ⟨b, o + i, none⟩ = some (strVal S[i]) := by
        rcases ht1 with h | h
        · subst h; simp at hkl
        · exact h
      have ck := hct k hkl
      have Hs := hide (allT_succ P.isName S k hkl)
      have Ha := hide (all_at P.isName S k hkl)
      have hsz : S[k].length ≤ 1100000 := by
        have := sp_part p S[k] (by rw [unhide HS]; exact List.getElem_mem hkl)
        omega
      generalize S[k] = x at *
      unfold strVal at ck
      have q3 : (k : Int) < (S.length : Int) := by omega
      clear hct
      have hsz2 : (bs x).size ≤ maxLen := by rw [bs_size]; unfold maxLen; omega
      go_wp2_with fail
      refine (refName (bs x) _ hsz2).mono ?_
      rintro e w2 ⟨rfl, hw2⟩
      subst hw2
      rw [bs_data]
      generalize hnb : P.isName x = nb at *
      have Hnb := hide hnb
      clear hnb
      cases nb with
      | false =>
        go_wp2_with fail
        go_ret
        refine ⟨ret_bool ?_, hbw⟩
        rw [unhide Hf, unhide Ha trivial]; simp
      | true =>
        go_wp2_with fail
        go_round
        case rel => exact ⟨k + 1, by omega, by go_num, by rw [unhide Hs, unhide Hall]; rfl⟩
        case measure => simp [intOf]; omega
    · obtain rfl : k = S.length := by omega
      have Hnames := hide (show S.all P.isName = true by have := unhide Hall; rwa [List.take_length] at this)
      clear Hall
      go_wp2_with fail
      refine (refTarget dt _ hd).mono ?_
      rintro e w2 ⟨rfl, hw2⟩
      subst hw2
      have Hkb := hide (fun tb h => kindBad_eq (bs p) kd dt tb h)
      generalize htb : P.isTarget dt.data.toList = tb
      replace Hkb := hide (unhide Hkb tb htb)
      clear htb
      go_upto_region 12 with fail
      go_cut [79] (fun s79 wx => s79 = .bool (kindBad ⟨bs p, kd, dt⟩) ∧ w2 = wx)
      case first =>
        rcases (show kd < 0 ∨ (¬ kd < 0 ∧ 3 < kd) ∨ kd = 0 ∨ kd = 1 ∨ kd = 2 ∨ kd = 3 by omega) with h | ⟨h0, h⟩ | rfl | rfl | rfl | rfl
        · have g : decide (kd < 0) = true := by simpa using h
          go_wp2_with fail
          go_meet
          exact ⟨congrArg Value.bool (by rw [unhide Hkb, g]; rfl), rfl⟩
        · have g0 : decide (kd < 0) = false := by simpa using h0
          have g : decide (3 < kd) = true := by simpa using h
          go_wp2_with fail
          go_meet
          exact ⟨congrArg Value.bool (by rw [unhide Hkb, g0, g]; rfl), rfl⟩
        · cases hem : dt.toList.isEmpty with
          | true =>
            go_wp2_with fail
            go_meet
            exact ⟨congrArg Value.bool (by rw [unhide Hkb, hem]; rfl), rfl⟩
          | false =>
            go_wp2_with fail
            go_meet
            exact ⟨congrArg Value.bool (by rw [unhide Hkb, hem]; rfl), rfl⟩
        · cases hem : decide ((60 : Int) < (dt.size : Int)) with
          | true =>
            go_wp2_with fail
            go_meet
            exact ⟨congrArg Value.bool (by rw [unhide Hkb, hem]; rfl), rfl⟩
          | false =>
            go_wp2_with fail
            go_meet
            exact ⟨congrArg Value.bool (by rw [unhide Hkb, hem]; rfl), rfl⟩
        · cases hem : decide ((60 : Int) < (dt.size : Int)) with
          | true =>
            go_wp2_with fail
            go_meet
            exact ⟨congrArg Value.bool (by rw [unhide Hkb, hem]; rfl), rfl⟩
          | false =>
            go_wp2_with fail
            go_meet
            exact ⟨congrArg Value.bool (by rw [unhide Hkb, hem]; rfl), rfl⟩
        · cases tb with
          | true =>
            go_wp2_with fail
            go_meet
            exact ⟨congrArg Value.bool (by rw [unhide Hkb]; rfl), rfl⟩
          | false =>
            go_wp2_with fail
            go_meet
            exact ⟨congrArg Value.bool (by rw [unhide Hkb]; rfl), rfl⟩
      case rest =>
        obtain ⟨h79, hwc⟩ := hcut
        subst hwc
        subst h79
        clear Hkb
        cases hkb : kindBad ⟨bs p, kd, dt⟩ with
        | true =>
          have Hf2 := hide (show fineP l i = false by rw [unhide Hf, hkb]; simp)
          clear hkb
          go_wp2_with fail
          go_ret
          exact ⟨ret_bool (unhide Hf2).symm, hbw⟩
        | false =>
          have Hf2 := hide (show fineP l i = (!upBad l p && (findP l p == (i : Int))) by
            rw [unhide Hf, hkb, unhide Hnames, decide_eq_true (by omega)]; rfl)
          clear hkb Hf
          have hle : LiesE w2 (some ⟨b, o, none⟩) l := .inr ⟨b, o, rfl, unhide Hc1⟩
          have hlm : l.length ≤ maxLen := hl
          by_cases h1 : (1 : Int) < (S.length : Int)
          · obtain ⟨n, hn⟩ : ∃ n, S.length = n + 1 := ⟨S.length - 1, by omega⟩
            obtain ⟨b1, o1, rfl, hct⟩ : ∃ b o, a1 = some ⟨b, o, none⟩ ∧ ∀ i (h : i < S.length), w2.cell? ⟨b, o + i, none⟩ = some (strVal S[i]) := by
              rcases ht1 with h | h
              · subst h; simp at hn
              · exact h
            have hla := unhide Hlast n hn
            have htw := unhide Htwo (by omega)
            have ck : w2.cell? ⟨b1, o1 + n, none⟩ = some (strVal (S.getLastD [])) := by
              have := hct n (by omega)
              rw [List.getElem?_eq_getElem (by omega)] at hla
              rw [this, Option.some.inj hla]
            have Hu := hide (show upBad l p = if findP l (upPath p) < 0 then true else (l.getD (findP l (upPath p)).toNat en0).kind != 0 by unfold upBad; rw [unhide HS, if_neg (by omega)])
            have hup : upPath p = p.take (p.length - (S.getLastD []).length - 1) := by unfold upPath; rw [unhide HS]
            clear hct hla Hlast Htwo HS Hnames
            generalize S.getLastD [] = la at *
            unfold strVal at ck
            have z1 := bs_size p
            have z2 := bs_size la
            have q4 : (n : Int) ≤ 4 := by omega
            have q5 : (n : Int) < ((n + 1 : Nat) : Int) := by omega
            have q6 : (1 : Int) < ((n + 1 : Nat) : Int) := by omega
            have q7 : 0 ≤ (p.length : Int) - (la.length : Int) - 1 := by omega
            have q8 : (p.length : Int) - (la.length : Int) - 1 ≤ (p.length : Int) := by omega
            have x1 : (bs p).extract 0 ((p.length : Int) - (la.length : Int) - 1).toNat = bs (upPath p) := by
              rw [extract_bs, hup]; congr 2; omega
            clear hup
            rw [hn]
            clear hn h1 h5 g5 hsl ht1 hk hkl
            go_upto_region 15 with fail
            go_quiet ((go_at_call 48; refine Calls.quiet_of_same (find_any l _ _ _ _ hlm ?_); exact hle.below (below_drewN (Below.refl _ _) _) (Nat.le_refl _)))
            rw [show (bs p).extract 0 (p.length - la.length - 1) = bs (upPath p) by rw [← x1]; congr 1; omega, bs_data]
            have hbq := below_drewN hbw nq
            have hc3 : EntsAt (w2.drewN nq) b o l := (unhide Hc1).below (below_drewN (Below.refl _ _) _) (Nat.le_refl _)
            have d0' : (w2.drewN nq).cell? ⟨w.heap.size, 0, none⟩ = some (.string (bs p)) := by rw [← d0]; rfl
            have hbd := findP_bd l (upPath p)
            clear x1 d0 d1 d2 ck hbw Hc1 hle q4 q5 q6 q7 q8 z1 z2
            generalize w2.drewN nq = w3 at *
            generalize findP l (upPath p) = f at *
            have hle3 : LiesE w3 (some ⟨b, o, none⟩) l := .inr ⟨b, o, rfl, hc3⟩
            by_cases hf0 : f < 0
            · have Hf3 := hide (show fineP l i = false by rw [unhide Hf2, unhide Hu, if_pos hf0]; rfl)
              have g0 : decide (f < 0) = true := by simpa using hf0
              go_wp2_with fail
              go_ret
              exact ⟨ret_bool (unhide Hf3).symm, hbq⟩
            · obtain ⟨m, rfl⟩ : ∃ m : Nat, f = (m : Int) := ⟨f.toNat, by omega⟩
              have hm : m < l.length := by omega
              have hm' : (m : Int) < (l.length : Int) := by omega
              obtain ⟨-, e1, -⟩ := hc3 m hm
              have hkm : (l.getD (m : Int).toNat en0).kind = l[m].kind := by rw [Int.toNat_natCast, List.getD_eq_getElem?_getD, List.getElem?_eq_getElem hm]; rfl
              have Hu2 := hide (show upBad l p = (l[m].kind != 0) by rw [unhide Hu, if_neg hf0, hkm])
              clear Hu hkm hc3 hbd
              generalize l[m].kind = km at *
              cases hk0 : (km != 0) with
              | true =>
                have Hf3 := hide (show fineP l i = false by rw [unhide Hf2, unhide Hu2, hk0]; rfl)
                go_wp2_with fail
                go_ret
                exact ⟨ret_bool (unhide Hf3).symm, hbq⟩
              | false =>
                have Hf3 := hide (show fineP l i = (findP l p == (i : Int)) by rw [unhide Hf2, unhide Hu2, hk0]; rfl)
                go_wp2_with fail
                refine (find_any l _ _ (bs p) w3 hlm hle3).mono ?_
                rintro e w4 ⟨rfl, hw4⟩
                subst hw4
                rw [bs_data]
                generalize findP l p = fd at *
                go_wp2_with fail
                go_ret
                exact ⟨ret_bool (unhide Hf3).symm, hbq⟩
          · have Hu := hide (show upBad l p = false by unfold upBad; rw [unhide HS, if_pos (by omega)])
            go_wp2_with fail
            refine (find_any l _ _ (bs p) w2 hlm hle).mono ?_
            rintro e w3 ⟨rfl, hw3⟩
            subst hw3
            rw [bs_data]
            generalize hfd : findP l p = fd at *
            go_wp2_with fail
            go_ret
            exact ⟨ret_bool (by rw [unhide Hf2, unhide Hu]; simp), hbw⟩
end Go.Proofs.YtjmacegibchplaaGreatDoor
