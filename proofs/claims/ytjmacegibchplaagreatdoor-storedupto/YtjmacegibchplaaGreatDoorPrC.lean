import Derived.Test.YtjmacegibchplaaGreatDoorUplP
import Derived.Test.YtjmacegibchplaaGreatDoorTreeH
/-
  The document's store: where a digest stands, and what.
-/
namespace Go.Proofs.YtjmacegibchplaaGreatDoor
open Go.RowKit
set_option linter.unusedVariables false
def idxP (st : List (List UInt8 × List UInt8)) (d : List UInt8) : Int := match st.findIdx? (fun p => p.1 == d) with
  | some i => (i : Int)
  | none => -1
theorem idx_hit (st : List (List UInt8 × List UInt8)) (d : List UInt8) (k : Nat) (hk : k < st.length) (he : st[k].1 = d) (hno : ∀ j (h : j < st.length), j < k → st[j].1 ≠ d) : idxP st d = (k : Int) := by
  have : st.findIdx? (fun p => p.1 == d) = some k := by
    rw [List.findIdx?_eq_some_iff_getElem]
    exact ⟨hk, by simpa using he, fun j hj => by simpa using hno j (by omega) hj⟩
  unfold idxP
  rw [this]
theorem idx_none (st : List (List UInt8 × List UInt8)) (d : List UInt8) (hno : ∀ j (h : j < st.length), st[j].1 ≠ d) : idxP st d = -1 := by
  have : st.findIdx? (fun p => p.1 == d) = none := by
    rw [List.findIdx?_eq_none_iff]
    intro x hx
    obtain ⟨j, hj, rfl⟩ := List.mem_iff_getElem.1 hx
    simpa using hno j hj
  unfold idxP
  rw [this]
theorem atP_idx : ∀ (st : List (List UInt8 × List UInt8)) (d : List UInt8), (idxP st d = -1 ∧ atP st d = none) ∨ ∃ k, ∃ h : k < st.length, idxP st d = (k : Int) ∧ atP st d = some st[k].2
  | [], d => .inl ⟨rfl, rfl⟩
  | (k, b) :: r, d => by
    by_cases e : k = d
    · refine .inr ⟨0, by simp, ?_, by simp [atP, e]⟩
      exact idx_hit _ _ 0 (by simp) (by simpa using e) (fun j _ h => by omega)
    · rcases atP_idx r d with ⟨h1, h2⟩ | ⟨i, hi, h1, h2⟩
      · refine .inl ⟨idx_none _ _ (fun j hj => ?_), by simp [atP, e, h2]⟩
        cases j with
        | zero => simpa using e
        | succ j =>
          intro hc
          unfold idxP at h1
          split at h1
          · omega
          · rename_i hn
            rw [List.findIdx?_eq_none_iff] at hn
            have hj' : j < r.length := by simpa using hj
            have := hn r[j] (List.getElem_mem hj')
            simp at this hc
            exact this hc
      · refine .inr ⟨i + 1, by simpa using hi, ?_, by simp [atP, e, h2]⟩
        unfold idxP at h1
        split at h1
        · rename_i m hm
          obtain rfl : m = i := by omega
          rw [List.findIdx?_eq_some_iff_getElem] at hm
          obtain ⟨hml, hmp, hmn⟩ := hm
          refine idx_hit _ _ (m + 1) (by simpa using hml) (by simpa using hmp) (fun j hj hlt => ?_)
          cases j with
          | zero => simpa using e
          | succ j => simpa using hmn j (by omega)
        · omega
def RStore (w : World) (pb : Nat) (room : Int) (st : List (List UInt8 × List UInt8)) : Prop := w.cell? ⟨pb, 0, none⟩ = some (.int .i64 room) ∧
  ∃ a1 c1 a2 c2, w.cell? ⟨pb, 1, none⟩ = some (.slice a1 st.length c1) ∧ w.cell? ⟨pb, 2, none⟩ = some (.slice a2 st.length c2) ∧ TextsAt w a1 (st.map (·.1)) ∧ TextsAt w a2 (st.map (·.2))
theorem textsGet {w : World} {a : Option Addr} {l : List (List UInt8)} (h : TextsAt w a l) {k : Nat} (hk : k < l.length) : ∃ b o, a = some ⟨b, o, none⟩ ∧ w.cell? ⟨b, o + k, none⟩ = some (strVal l[k]) := by
  rcases h with h | ⟨b, o, e, h⟩
  · subst h; simp at hk
  · exact ⟨b, o, e, h k hk⟩
set_option maxHeartbeats 1000000 in
theorem refAt_any (st : List (List UInt8 × List UInt8)) (pb : Nat) (room : Int) (d : List UInt8) (w : World) (hl : st.length ≤ maxLen) (h : RStore w pb room st) :
    Calls Tryz.prog 158 #[.pointer (some ⟨pb, 0, none⟩), .string (bs d)] w fun e w' => e = .returned (.int .i64 (idxP st d)) ∧ w' = w := by
  unfold maxLen at hl
  obtain ⟨-, a1, c1, a2, c2, f1, -, t1, -⟩ := h
  go_enter Tryz.func158, Tryz.ntmps158
  go_wp2_with fail
  go_loop [5] (fun i => ∃ k : Nat, k ≤ st.length ∧ i = .int .i64 k ∧ ∀ j (h : j < st.length), j < k → st[j].1 ≠ d) (fun i => st.length - (intOf i).toNat)
  case atStart => exact ⟨0, by omega, rfl, fun j _ h => by omega⟩
  case round =>
    obtain ⟨k, hk, rfl, hno⟩ := hrel
    have Hno := hide hno
    clear hno
    by_cases hlt : k < st.length
    · obtain ⟨b, o, rfl, hc⟩ := textsGet t1 (k := k) (by simpa using hlt)
      rw [List.getElem_map] at hc
      have q1 : (k : Int) < (st.length : Int) := by omega
      have Hhit := hide (fun he => idx_hit st d k hlt he (unhide Hno))
      have Hnx := hide (show st[k].1 ≠ d → ∀ j (h : j < st.length), j < k + 1 → st[j].1 ≠ d from fun hne j h hj => by
        rcases Nat.lt_or_ge j k with h1 | h1
        · exact unhide Hno j h h1
        · obtain rfl : j = k := by omega
          exact hne)
      unfold strVal at hc
      generalize st[k].1 = x at *
      have hE := str_eq2 x d
      clear t1
      by_cases heq : x = d
      · have hx : (x == d) = true := by simpa using heq
        rw [hx] at hE
        have Hr := hide (unhide Hhit heq)
        clear heq hx
        go_wp2_with fail
        go_ret
        exact ⟨ret_int (unhide Hr).symm, rfl⟩
      · have hx : (x == d) = false := by simpa using heq
        rw [hx] at hE
        go_wp2_with fail
        go_round
        case rel => exact ⟨k + 1, by omega, by go_num, unhide Hnx heq⟩
        case measure => simp [intOf]; omega
    · obtain rfl : k = st.length := by omega
      go_wp2_with fail
      go_ret
      exact ⟨ret_int (by rw [idx_none st d (fun j h => unhide Hno j h h)]), rfl⟩
def getB (st : List (List UInt8 × List UInt8)) (d : List UInt8) : List UInt8 := (atP st d).getD []
def getE (st : List (List UInt8 × List UInt8)) (d : List UInt8) : Int := if (atP st d).isSome then 0 else 7
set_option maxHeartbeats 1000000 in
theorem refGet_any (st : List (List UInt8 × List UInt8)) (pb : Nat) (room : Int) (d : List UInt8) (w : World) (hl : st.length ≤ maxLen) (h : RStore w pb room st) :
    Calls Tryz.prog 119 #[.pointer (some ⟨pb, 0, none⟩), .string (bs d)] w fun e w' => e = .returned (.tuple #[.string (bs (getB st d)), .int .i64 (getE st d)]) ∧ w' = w := by
  have hat := fun w' (hw : RStore w' pb room st) => refAt_any st pb room d w' hl hw
  unfold maxLen at hl
  have h0 := h
  have Hg := hide (show getB st d = (atP st d).getD [] ∧ getE st d = if (atP st d).isSome then 0 else 7 from ⟨rfl, rfl⟩)
  obtain ⟨-, a1, c1, a2, c2, f1, f2, t1, t2⟩ := h
  rcases atP_idx st d with ⟨i1, i2⟩ | ⟨k, hk, i1, i2⟩
  · have Hr := hide (show getB st d = [] ∧ getE st d = 7 by rw [(unhide Hg).1, (unhide Hg).2, i2]; exact ⟨rfl, rfl⟩)
    go_enter Tryz.func119, Tryz.ntmps119
    go_wp2_with (go_at_call 158; refine (hat _ h0).mono ?_; rintro e w' ⟨rfl, rfl⟩; rw [i1])
    go_ret2
    exact ⟨by rw [(unhide Hr).1, (unhide Hr).2]; rfl, rfl⟩
  · obtain ⟨b, o, rfl, hc⟩ := textsGet t2 (k := k) (by simpa using hk)
    rw [List.getElem_map] at hc
    unfold strVal at hc
    have Hr := hide (show getB st d = st[k].2 ∧ getE st d = 0 by rw [(unhide Hg).1, (unhide Hg).2, i2]; exact ⟨rfl, rfl⟩)
    have q1 : (k : Int) < (st.length : Int) := by omega
    generalize st[k].2 = x at *
    go_enter Tryz.func119, Tryz.ntmps119
    go_wp2_with (go_at_call 158; refine (hat _ h0).mono ?_; rintro e w' ⟨rfl, rfl⟩; rw [i1])
    go_ret2
    exact ⟨by rw [(unhide Hr).1, (unhide Hr).2]; rfl, rfl⟩
end Go.Proofs.YtjmacegibchplaaGreatDoor

/-
  The program's store: Put, Get, Plant.
-/
namespace Go.Proofs.YtjmacegibchplaaGreatDoor
open Go.RowKit Go.Maps Go.WideMaps
set_option linter.unusedVariables false
theorem tdig (b : List UInt8) (w : World) (hb : b.length ≤ 10000000) :
    Calls Tryz.prog 51 #[.string (bs b)] w fun e w' => e = .returned (.string (bs (P.digest b))) ∧ Below w.heap.size w w' := by
  have h := textDigest_any (bs b) w (by rw [bs_size]; unfold maxLen; omega)
  rw [bs_data] at h
  exact h
theorem fr_drewN (S : Nat → Prop) (w : World) (n : Nat) : Fr S w (w.drewN n) := ⟨rfl, rfl, rfl, Nat.le_refl _, fun _ _ _ => rfl⟩
set_option maxRecDepth 100000 in
set_option maxHeartbeats 600000 in
theorem put_any (st : List (List UInt8 × List UInt8)) (pb um n : Nat) (room : Int) (b : List UInt8) (w : World) (h : PStore w pb um n room st) (hb : b.length ≤ 10000000) (hn : n < maxLen) (hsum : sumP st ≤ 1000000000000) (hr0 : 0 ≤ room) (hr : room ≤ 100000) :
    Calls Tryz.prog 60 #[.pointer (some ⟨pb, 0, none⟩), .string (bs b)] w fun e w' => e = .returned (.int .i64 (putP room st b).1) ∧ PStore w' pb um (n + 1) room (putP room st b).2 ∧ Fr (fun x => x = pb ∨ x = um) w w' := by
  have hdg := tdig b w hb
  have hdl : (P.digest b).length ≤ maxLen := by rw [digest_len]; decide
  have hdl2 : (P.digest b).length ≤ 10000000 := by rw [digest_len]; decide
  have hhas := fun w' (hp : PStore w' pb um n room st) => has_any st pb um n room (P.digest b) w' hp hdl
  have hlay := fun w' (hp : PStore w' pb um n room st) => lay_any st pb um n room (P.digest b) b w' hp hdl2 hb hn hsum
  have Hput := hide (show putP room st b = if (atP st (P.digest b)).isSome then (0, st) else if room < (b.length : Int) + (sumP st : Int) then (6, st) else (0, st ++ [(P.digest b, b)]) from rfl)
  have hbz := bs_size b
  have Hp := hide h
  have Hhas := hide hhas
  have Hlay := hide hlay
  clear h hhas hlay hdl hdl2
  generalize hD : P.digest b = D at *
  clear hD
  go_enter Tryz.func60, Tryz.ntmps60
  go_wp2_with fail
  refine hdg.mono ?_
  rintro e w1 ⟨rfl, hb1⟩
  have hp1 := (unhide Hp).below hb1 (Nat.le_refl _)
  have hF1 : Fr (fun x => x = pb ∨ x = um) w w1 := Fr.below hb1
  clear hb1 hdg Hp
  go_wp2_with fail
  refine (unhide Hhas w1 hp1).mono ?_
  rintro e w2 ⟨rfl, hb2⟩
  have hp2 := hp1.below hb2 (Nat.le_refl _)
  have hF2 : Fr (fun x => x = pb ∨ x = um) w w2 := hF1.trans (Fr.below hb2)
  clear hb2 hF1 hp1 Hhas
  cases ha : (atP st D).isSome with
  | true =>
    have Hr := hide (show putP room st b = (0, st) by rw [unhide Hput, ha]; rfl)
    go_wp2_with fail
    go_ret
    refine ⟨ret_int (by rw [unhide Hr]), ?_, hF2⟩
    rw [unhide Hr]
    exact hp2.more (Nat.le_succ _)
  | false =>
    have c0 := hp2.c0
    have c1 := hp2.c1
    have hno : atP st D = none := by simpa using ha
    have hwr : IntKind.i64.wrap ((sumP st : Int) + (b.length : Int)) = (sumP st : Int) + (b.length : Int) := by rw [IntKind.wrap_i64]; omega
    have Hp2 := hide hp2
    have Hno := hide hno
    clear hp2 hno
    by_cases hroom : room < (b.length : Int) + (sumP st : Int)
    · have hW : P.within ((sumP st : Int) + (b.length : Int)) 0 room = false := by unfold P.within; simp; omega
      have Hr := hide (show putP room st b = (6, st) by rw [unhide Hput, ha, if_neg (by simp), if_pos hroom])
      clear hroom ha Hput hwr
      generalize sumP st = sm at *
      go_wp2_with fail
      go_quiet ((go_at_call 86; exact Calls.quiet_of_same (within_any _ _ _ _ hr0)))
      go_wp2_with fail
      go_ret
      refine ⟨ret_int (by rw [unhide Hr]), ?_, hF2.trans (fr_drewN _ _ _)⟩
      rw [unhide Hr]
      exact (show PStore (w2.drewN nq) pb um n room st from (unhide Hp2).same (fun _ _ => rfl)).more (Nat.le_succ _)
    · have hW : P.within ((sumP st : Int) + (b.length : Int)) 0 room = true := by unfold P.within; simp; omega
      have Hr := hide (show putP room st b = (0, st ++ [(D, b)]) by rw [unhide Hput, ha, if_neg (by simp), if_neg hroom])
      have hs1 : sumP st ≤ 100000 := by omega
      clear hroom ha Hput hwr
      generalize sumP st = sm at *
      go_wp2_with fail
      go_quiet ((go_at_call 86; exact Calls.quiet_of_same (within_any _ _ _ _ hr0)))
      go_wp2_with fail
      refine (unhide Hlay _ (show PStore (w2.drewN nq) pb um n room st from (unhide Hp2).same (fun _ _ => rfl)) (unhide Hno)).mono ?_
      rintro e w3 ⟨rfl, hp3, hf3⟩
      have hF3 := (hF2.trans (fr_drewN _ _ nq)).trans hf3
      clear hf3
      go_wp2_with fail
      go_ret
      refine ⟨ret_int (by rw [unhide Hr]), ?_, hF3⟩
      rw [unhide Hr]
      exact hp3
set_option maxRecDepth 100000 in
set_option maxHeartbeats 600000 in
theorem get_any (st : List (List UInt8 × List UInt8)) (pb um n : Nat) (room : Int) (d : List UInt8) (w : World) (h : PStore w pb um n room st) (hd : d.length ≤ maxLen) (hsz : ∀ b, atP st d = some b → b.length ≤ 10000000) :
    Calls Tryz.prog 159 #[.pointer (some ⟨pb, 0, none⟩), .string (bs d)] w fun e w' => e = .returned (.tuple #[.string (bs (getB st d)), .int .i64 (getE st d)]) ∧ Below w.heap.size w w' := by
  have hhas := has_any st pb um n room d w h hd
  cases ha : atP st d with
  | none =>
    have h1 : getB st d = [] := by unfold getB; rw [ha]; rfl
    have h2 : getE st d = 7 := by unfold getE; rw [ha]; rfl
    rw [ha] at hhas
    rw [h1, h2]
    clear ha h1 h2 hsz
    go_enter Tryz.func159, Tryz.ntmps159
    go_wp2_with fail
    refine hhas.mono ?_
    rintro e w1 ⟨rfl, hb1⟩
    go_wp2_with fail
    go_ret2
    exact ⟨rfl, hb1⟩
  | some b =>
    have h1 : getB st d = b := by unfold getB; rw [ha]; rfl
    have h2 : getE st d = 0 := by unfold getE; rw [ha]; rfl
    have hF : storeF st d = some (.agg #[.string (bs b)]) := by unfold storeF; rw [ha]; rfl
    have hcl := fun w' => clone3 b w' (hsz b ha)
    have hfd := field_sblob
    rw [ha] at hhas
    rw [h1, h2]
    have Hp := hide h
    clear ha h1 h2 hsz h
    go_enter Tryz.func159, Tryz.ntmps159
    go_wp2_with fail
    refine hhas.mono ?_
    rintro e w1 ⟨rfl, hb1⟩
    have hp1 := (unhide Hp).below hb1 (Nat.le_refl _)
    have c2 := hp1.c2
    have hm1 := hp1.m
    clear hhas hp1
    go_wp2_with (at_lookup; refine wp_look rfl _ _ 126 rfl 190 under126 (.agg #[.string ⟨#[]⟩]) (zero_sblob _) um n (storeF st) rfl hm1 d rfl hd ?_; rw [hF]; simp only [Option.getD_some])
    refine (hcl _).mono ?_
    rintro e w2 ⟨rfl, hb2⟩
    have hbb := hb1.trans (hb2.mono hb1.size)
    clear hb2 hb1 hm1
    go_wp2_with fail
    go_ret2
    exact ⟨rfl, hbb⟩
set_option maxRecDepth 100000 in
set_option maxHeartbeats 600000 in
theorem plant_any (st : List (List UInt8 × List UInt8)) (pb um n : Nat) (room : Int) (d b : List UInt8) (w : World) (h : PStore w pb um n room st) (hd : d.length ≤ 10000000) (hb : b.length ≤ 10000000) (hn : n < maxLen) (hsum : sumP st ≤ 1000000000000) :
    Calls Tryz.prog 59 #[.pointer (some ⟨pb, 0, none⟩), .string (bs d), .string (bs b)] w fun e w' => e = .returned (.tuple #[]) ∧ PStore w' pb um (n + 1) room (plantP st d b) ∧ Fr (fun x => x = pb ∨ x = um) w w' := by
  have hdr := drop_any st pb um n room d w h hd hsum
  have hsf := sum_filter st d h.k
  have hlay := fun w' (hp : PStore w' pb um n room (st.filter (fun p => !(p.1 == d)))) => lay_any (st.filter (fun p => !(p.1 == d))) pb um n room d b w' hp hd hb hn (by omega) (by rw [at_filter, if_pos rfl])
  have Hlay := hide hlay
  have Hpl := hide (show plantP st d b = st.filter (fun p => !(p.1 == d)) ++ (if b = [] then [] else [(d, b)]) from rfl)
  clear hlay hsf h
  generalize st.filter (fun p => !(p.1 == d)) = sf at *
  go_enter Tryz.func59, Tryz.ntmps59
  go_wp2_with fail
  refine hdr.mono ?_
  rintro e w1 ⟨rfl, hp1, hf1⟩
  clear hdr
  by_cases hbe : b = []
  · subst hbe
    have Hr := hide (show plantP st d [] = sf by rw [unhide Hpl]; simp)
    have e1 : ((bs ([] : List UInt8)).toList == (⟨#[]⟩ : ByteArray).toList) = true := str_eq2 [] []
    have e2 : (bs ([] : List UInt8)).toList.isEmpty = true := by rw [ByteArray.toList_eq, bs_data]; rfl
    go_wp2_with fail
    go_end0
    refine ⟨rfl, ?_, hf1⟩
    rw [unhide Hr]
    exact hp1.more (Nat.le_succ _)
  · have Hr := hide (show plantP st d b = sf ++ [(d, b)] by rw [unhide Hpl, if_neg hbe])
    have e1 : ((bs b).toList == (⟨#[]⟩ : ByteArray).toList) = false := by
      have := str_eq2 b []
      rw [show (b == ([] : List UInt8)) = false by simpa using hbe] at this
      exact this
    have e2 : (bs b).toList.isEmpty = false := by rw [ByteArray.toList_eq, bs_data]; simpa using hbe
    clear hbe
    go_wp2_with fail
    refine (unhide Hlay w1 hp1).mono ?_
    rintro e w2 ⟨rfl, hp2, hf2⟩
    have hF := hf1.trans hf2
    go_wp2_with fail
    go_end0
    refine ⟨rfl, ?_, hF⟩
    rw [unhide Hr]
    exact hp2
end Go.Proofs.YtjmacegibchplaaGreatDoor
