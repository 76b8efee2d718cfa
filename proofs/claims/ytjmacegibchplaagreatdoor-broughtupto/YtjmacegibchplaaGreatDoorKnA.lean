import Derived.Test.YtjmacegibchplaaGreatDoorKeepD
import Derived.Test.YtjmacegibchplaaGreatDoorUpE
import Derived.Test.YtjmacegibchplaaGreatDoorTrP
import Derived.Test.YtjmacegibchplaaGreatDoorFetR
import Derived.Test.YtjmacegibchplaaGreatDoorOfD
import Derived.Test.YtjmacegibchplaaGreatDoorBrgP
/-
  Does a link lead out (the statements' own test)? The two files of one digest.
-/
namespace Go.Proofs.YtjmacegibchplaaGreatDoor
open Go.RowKit
set_option linter.unusedVariables false

/-- how deep a name leads -/
def stepL (e : Int) (x : List UInt8) : Int := if x = [46, 46] then e - 1 else if x = [] ∨ x = [46] then e else e + 1
theorem go_cons {e : Int} {x : List UInt8} {r : List (List UInt8)} (h : outGo e (x :: r) = false) : 0 ≤ stepL e x ∧ outGo (stepL e x) r = false := by
  unfold stepL
  simp only [outGo] at h
  generalize (if x = [46, 46] then e - 1 else if x = [] ∨ x = [46] then e else e + 1) = d at *
  by_cases hd : d < 0
  · rw [if_pos hd] at h; simp at h
  · rw [if_neg hd] at h; exact ⟨by omega, h⟩
theorem lead_step (e : Int) (t : List UInt8) (n : Nat) (hn : n ≤ t.length) (hno : ∀ j (h : j < t.length), j < n → t[j] ≠ 47) (hend : ∀ h : n < t.length, t[n] = 47) (h : outGo e (sp t) = false) :
    0 ≤ stepL e (t.take n) ∧ outGo (stepL e (t.take n)) (sp ((t.drop n).drop 1)) = false := by
  have hx : P.has (t.take n) 47 = false := has_false.2 (fun hm => by
    obtain ⟨j, hj, he⟩ := List.mem_iff_getElem.1 hm
    rw [List.length_take] at hj
    rw [List.getElem_take] at he
    exact hno j (by omega) (by omega) he)
  rcases Nat.eq_or_lt_of_le hn with hE | hlt
  · have h1 : t.take n = t := by rw [hE, List.take_length]
    have h2 : t.drop n = [] := by rw [hE, List.drop_length]
    rw [h1] at hx ⊢
    rw [h2]
    rw [sp_end t hx] at h
    have := go_cons h
    refine ⟨this.1, ?_⟩
    show outGo (stepL e t) [[]] = false
    have h0 := this.1
    generalize stepL e t = d at *
    simp [outGo]
    exact h0
  · have e1 : t = t.take n ++ 47 :: t.drop (n + 1) := by
      have := hend hlt
      rw [← this, ← List.drop_eq_getElem_cons hlt, List.take_append_drop]
    have h' : outGo e (t.take n :: sp (t.drop (n + 1))) = false := by rw [← sp_slash _ _ hx, ← e1]; exact h
    have := go_cons h'
    rw [List.drop_drop]
    exact this
/-- how deep a directory stands -/
def dq (q : List UInt8) : Nat := if q = [] then 0 else (sp q).length
theorem up_dq {q : List UInt8} (hnm : ∀ p ∈ sp q, p ≠ []) : dq (upPath q) + 1 = (sp q).length ∧ (upPath q ≠ [] → ∀ p ∈ sp (upPath q), p ≠ []) := by
  rcases cut_cases q with ⟨_, h1, h2, _⟩ | ⟨a, n, e, _, h1, h2, _⟩
  · rw [h2, h1]
    exact ⟨by simp [dq], fun h => absurd rfl h⟩
  · rw [h2, h1]
    have ha : a ≠ [] := fun h => by
      subst h
      exact hnm [] (by rw [h1]; simp [show sp ([] : List UInt8) = [[]] from rfl]) rfl
    refine ⟨by simp [dq, ha], fun _ p hp => hnm p (by rw [h1]; simp [hp])⟩
/-- what leads asks of a link -/
structure LeadOk (p t : List UInt8) : Prop where
  nm : ∀ x ∈ sp p, x ≠ []
  pl : p.length ≤ 1000
  tl : t.length ≤ 1000
  tn : t ≠ []
  out : outP ((sp p).length - 1) t = false
theorem LeadOk.go {p t : List UInt8} (h : LeadOk p t) : t.head? ≠ some 47 ∧ outGo ((sp p).length - 1) (sp t) = false := by
  have := h.out
  unfold outP at this
  split at this
  · simp at this
  · rename_i hn
    exact ⟨hn, this⟩
def lenOf (v : Value) : Nat := match v with
  | .string b => b.size
  | _ => 0
set_option maxRecDepth 100000 in
set_option maxHeartbeats 2000000 in
theorem keepLeads (l : List En) (a : Option Addr) (c : Nat) (w : World) (hl : l.length ≤ 1000) (hi : LiesE w a l) (hf : ∀ i (h : i < l.length), l[i].kind = 3 → LeadOk (pth l[i]) l[i].data.data.toList) :
    Calls Tryz.prog 38 #[.slice a l.length c] w fun e w' => e = .returned (.bool false) ∧ ∃ n, w' = w.drewN n := by
  have Hf := hide hf
  clear hf
  go_enter Tryz.func38, Tryz.ntmps38
  go_wp2_with fail
  go_loopw [3] (fun i wr => ∃ k : Nat, k ≤ l.length ∧ i = .int .i64 k ∧ (∃ n, wr = w.drewN n)) (fun i _ => l.length - (intOf i).toNat)
  case atStart => exact ⟨0, by omega, rfl, ⟨0, rfl⟩⟩
  case round =>
    obtain ⟨k, hk, rfl, ⟨n, hwr⟩⟩ := hrel
    subst hwr
    by_cases hlt : k < l.length
    · obtain ⟨b, o, rfl, hc⟩ := entsGet hi hlt
      obtain ⟨p0, p1, p2⟩ := hc k hlt
      have q1 : (k : Int) < (l.length : Int) := by omega
      have hpf := unhide Hf k hlt
      have hbp : l[k].path = bs (pth l[k]) := (bs_of _).symm
      have hbd : l[k].data = bs l[k].data.data.toList := (bs_of _).symm
      rw [hbp] at p0
      rw [hbd] at p2
      have p0' : (w.drewN n).cell? ⟨b, o + k * 3, none⟩ = some (.string (bs (pth l[k]))) := p0
      have p1' : (w.drewN n).cell? ⟨b, o + k * 3 + 1, none⟩ = some (.int .i64 l[k].kind) := p1
      have p2' : (w.drewN n).cell? ⟨b, o + k * 3 + 2, none⟩ = some (.string (bs l[k].data.data.toList)) := p2
      clear p0 p1 p2 hbp hbd hc
      generalize pth l[k] = p at *
      generalize l[k].data.data.toList = t at *
      generalize l[k].kind = kd at *
      generalize hw7 : w.drewN n = w7 at *
      have Hw7 := hide hw7
      clear hw7
      by_cases hk3 : kd = 3
      · subst hk3
        have hok := hpf rfl
        have Hok := hide hok
        have hpl := hok.pl
        have htl := hok.tl
        clear hok hpf
        go_wp2_with fail
        refine (keepUp p _ (by omega)).mono ?_
        rintro e w1 ⟨rfl, q, hw1⟩
        subst hw1
        have s2' : (w7.drewN q).cell? ⟨b, o + k * 3 + 2, none⟩ = some (.string (bs t)) := p2'
        clear p0' p1' p2'
        generalize hw8 : w7.drewN q = w8 at *
        have Hw8 := hide hw8
        clear hw8
        go_wp2_with fail
        go_loopw [4, 6] (fun av dv wr => (∃ q2, wr = w8.drewN q2) ∧ ∃ (x : List UInt8) (d : Nat), av = .string (bs x) ∧ dv = .int .i64 d ∧ d ≤ 1001 ∧ x.length ≤ 1000 ∧ dq x + d + 1 = (sp p).length ∧ (x ≠ [] → ∀ y ∈ sp x, y ≠ [])) (fun av _ _ => lenOf av)
        case atStart =>
          obtain ⟨u1, u2⟩ := up_dq (unhide Hok).nm
          exact ⟨⟨0, rfl⟩, upPath p, 0, rfl, rfl, by omega, by unfold upPath; rw [List.length_take]; omega, by omega, u2⟩
        case round =>
          obtain ⟨⟨q2, hwr⟩, x, d, rfl, rfl, hd, hxl, hsum, hnm⟩ := hrel
          subst hwr
          have s3' : (w8.drewN q2).cell? ⟨b, o + k * 3 + 2, none⟩ = some (.string (bs t)) := s2'
          have Hs2 := hide s2'
          clear s2'
          have hspl := sp_len p
          by_cases hx : x = []
          · subst hx
            have hd1 : d + 1 = (sp p).length := by simpa [dq] using hsum
            obtain ⟨g1, g2⟩ := (unhide Hok).go
            have htn := (unhide Hok).tn
            rw [← hd1, show ((d + 1 : Nat) : Int) - 1 = (d : Int) by omega] at g2
            obtain ⟨ch, r, rfl⟩ : ∃ c r, t = c :: r := by
              cases t with
              | nil => exact absurd rfl htn
              | cons c r => exact ⟨c, r, rfl⟩
            have hsz := bs_size (ch :: r)
            have q0 : (0 : Int) < ((ch :: r).length : Int) := by simp
            have c0 : (bs (ch :: r))[0]'(by rw [hsz]; simp) = ch := rfl
            have b47 : ((ch.toNat : Int) == 47) = false := by
              simp
              intro h; exact g1 (by simp; exact UInt8.toNat_inj.1 (by simpa using (by omega : ch.toNat = 47)))
            have y1 : ((bs (ch :: r)).toList == ([] : List UInt8)) = false := by rw [ByteArray.toList_eq, bs_data]; rfl
            have y2 : ((bs (ch :: r)).toList == (⟨#[]⟩ : ByteArray).toList) = false := by rw [ByteArray.toList_eq, bs_data]; simp
            have y3 : (bs (ch :: r)).toList.isEmpty = false := by rw [ByteArray.toList_eq, bs_data]; rfl
            have e0 : (bs ([] : List UInt8)) = ⟨#[]⟩ := rfl
            have htl' : (d : Int) + ((ch :: r).length : Int) ≤ 3000 := by omega
            have G2 := hide g2
            have Hht := hide (And.intro htl' htl)
            clear g1 g2 hsum hnm htn htl htl' hspl hd1
            rw [e0]
            generalize hw9 : w8.drewN q2 = w9 at *
            have Hw9 := hide hw9
            clear hw9
            go_wp2_with fail
            go_loopw [6, 7, 8] (fun dv tv nv wr => (∃ q3, wr = w9.drewN q3) ∧ ∃ (y : List UInt8) (e : Int), dv = .int .i64 e ∧ tv = .string (bs y) ∧ 0 ≤ e ∧ e + (y.length : Int) ≤ 3000 ∧ y.length ≤ 1000 ∧ outGo e (sp y) = false) (fun _ tv _ _ => lenOf tv)
            case atStart => exact ⟨⟨0, rfl⟩, ch :: r, (d : Int), rfl, rfl, by omega, (unhide Hht).1, (unhide Hht).2, unhide G2⟩
            case round =>
              obtain ⟨⟨q3, hwr⟩, y, e, rfl, rfl, he0, he1, hyl, hgo⟩ := hrel
              subst hwr
              have Hgo := hide hgo
              clear hgo c0 hsz q0 b47 y1 y2 y3
              by_cases hy : y = []
              · subst hy
                rw [e0]
                go_wp2_with fail
                refine ⟨⟨k + 1, by omega, by go_num, n + (q + (q2 + q3)), by rw [← unhide Hw9, ← unhide Hw8, ← unhide Hw7, World.drewN_drewN, World.drewN_drewN, World.drewN_drewN]⟩, ?_⟩
                simp [intOf]; omega
              · have hz1 : ((bs y).toList == ([] : List UInt8)) = false := by rw [ByteArray.toList_eq, bs_data]; simpa using hy
                have hz2 : ((bs y).toList == (⟨#[]⟩ : ByteArray).toList) = false := by rw [ByteArray.toList_eq, bs_data]; simpa using hy
                have hyz := bs_size y
                generalize hwa : w9.drewN q3 = wa at *
                have Hwa := hide hwa
                clear hwa
                go_wp2_with fail
                go_loop [8] (fun nv => ∃ m : Nat, nv = .int .i64 m ∧ m ≤ y.length ∧ ∀ j (h : j < y.length), j < m → y[j] ≠ 47) (fun nv => y.length - (intOf nv).toNat)
                case atStart => exact ⟨0, rfl, Nat.zero_le _, fun j h hj => by omega⟩
                case round =>
                  obtain ⟨m, rfl, hm, hno⟩ := hrel
                  have Hno := hide hno
                  clear hno
                  by_cases hgoon : ∃ h : m < y.length, y[m] ≠ 47
                  · obtain ⟨hmlt, h47⟩ := hgoon
                    have hpm : (bs y)[m]'(by rw [hyz]; exact hmlt) = y[m] := rfl
                    have h47' : ((y[m].toNat : Int) == 47) = false := by
                      simp
                      intro e; exact h47 (UInt8.toNat_inj.1 (by show y[m].toNat = 47; omega))
                    have hml : (m : Int) < (y.length : Int) := by omega
                    go_wp2_with fail
                    refine ⟨⟨m + 1, by go_num, by omega, fun j h hj => by
                      rcases Nat.eq_or_lt_of_le (Nat.lt_succ_iff.1 hj) with rfl | hlt2
                      · exact h47
                      · exact unhide Hno j h hlt2⟩, ?_⟩
                    simp [intOf]; omega
                  · have hend : ∀ h : m < y.length, y[m] = 47 := fun h => Classical.byContradiction fun hn => hgoon ⟨h, hn⟩
                    obtain ⟨l1, l2⟩ := lead_step e y m hm (unhide Hno) hend (unhide Hgo)
                    have x1 := extract_take y m
                    have x2 := extract_drop y m
                    have x3 := extract_drop (y.drop m) 1
                    rw [List.length_drop] at x3
                    have hm0 : (0 : Int) ≤ (m : Int) := by omega
                    have hm1 : (m : Int) ≤ (y.length : Int) := by omega
                    have hdz := bs_size (y.drop m)
                    have hrl : ((y.drop m).drop 1).length < y.length := by
                      have : 0 < y.length := List.length_pos_iff.2 hy
                      simp only [List.length_drop]; omega
                    have Hrl := hide (show (bs ((y.drop m).drop 1)).size < (bs y).size by rw [bs_size, bs_size]; exact hrl)
                    have hbad : (bs y).toList.isEmpty = false := by rw [ByteArray.toList_eq, bs_data]; simpa using hy
                    have f0a : ((bs (y.take m)).toList == ([] : List UInt8)) = (y.take m == []) := str_eq _ _
                    have f0b : ((bs (y.take m)).toList == (⟨#[]⟩ : ByteArray).toList) = (y.take m == []) := bs_eqb (y.take m) []
                    have f0c : (bs (y.take m)).toList.isEmpty = (y.take m == []) := by rw [ByteArray.toList_eq, bs_data]; cases y.take m <;> rfl
                    have f1a : ((bs (y.take m)).toList == ([46] : List UInt8)) = (y.take m == [46]) := str_eq _ _
                    have f1b : ((bs (y.take m)).toList == (⟨#[46]⟩ : ByteArray).toList) = (y.take m == [46]) := bs_eqb (y.take m) [46]
                    have f2a : ((bs (y.take m)).toList == ([46, 46] : List UInt8)) = (y.take m == [46, 46]) := str_eq _ _
                    have f2b : ((bs (y.take m)).toList == (⟨#[46, 46]⟩ : ByteArray).toList) = (y.take m == [46, 46]) := bs_eqb (y.take m) [46, 46]
                    have hcase : ((y.take m == []) = true ∧ stepL e (y.take m) = e) ∨ ((y.take m == []) = false ∧ (y.take m == [46]) = true ∧ stepL e (y.take m) = e) ∨ ((y.take m == []) = false ∧ (y.take m == [46]) = false ∧ (y.take m == [46, 46]) = true ∧ stepL e (y.take m) = e - 1) ∨ ((y.take m == []) = false ∧ (y.take m == [46]) = false ∧ (y.take m == [46, 46]) = false ∧ stepL e (y.take m) = e + 1) := by
                      generalize y.take m = x
                      unfold stepL
                      by_cases a0 : x = []
                      · subst a0; left; simp
                      · by_cases a1 : x = [46]
                        · subst a1; right; left; simp
                        · by_cases a2 : x = [46, 46]
                          · subst a2; right; right; left; simp
                          · right; right; right; simp [a0, a1, a2]
                    have hE : (∃ h : m < y.length, y[m] = 47) ∨ m = y.length := by
                      rcases Nat.lt_or_ge m y.length with h | h
                      · exact .inl ⟨h, hend h⟩
                      · exact .inr (by omega)
                    clear hgoon hend
                    generalize hxx : y.take m = x at *
                    generalize hst : stepL e x = e' at *
                    have Hl2 := hide l2
                    have Hxx := hide (And.intro hxx hst)
                    clear l2 hxx hst
                    rcases hE with ⟨hmlt, h47⟩ | rfl
                    · have hpm : (bs y)[m]'(by rw [hyz]; exact hmlt) = y[m] := rfl
                      have h47' : ((y[m].toNat : Int) == 47) = true := by rw [h47]; rfl
                      have hml : (m : Int) < (y.length : Int) := by omega
                      have hdn : y.drop m ≠ [] := fun h => by have := congrArg List.length h; simp at this; omega
                      have d1 : ((bs (y.drop m)).toList == ([] : List UInt8)) = false := by rw [ByteArray.toList_eq, bs_data]; simpa using hdn
                      have d2 : ((bs (y.drop m)).toList == (⟨#[]⟩ : ByteArray).toList) = false := by rw [ByteArray.toList_eq, bs_data]; simpa using hdn
                      have hd1 : (1 : Int) ≤ ((y.drop m).length : Int) := by have := List.length_pos_iff.2 hdn; omega
                      have Hdn := hide hdn
                      clear hdn
                      rw [List.drop_drop] at x3 Hrl Hl2 hrl
                      have HH := hide (And.intro hrl (And.intro hyl he1))
                      clear hm h47
                      rcases hcase with ⟨hb0, rfl⟩ | ⟨hb0, hb1, rfl⟩ | ⟨hb0, hb1, hb2, rfl⟩ | ⟨hb0, hb1, hb2, rfl⟩
                      all_goals
                        rw [hb0] at f0a f0b f0c
                        try rw [hb1] at f1a f1b
                        try rw [hb2] at f2a f2b
                        try clear hb0 hb1 hb2
                        go_wp2_with fail
                        refine ⟨⟨⟨q3, (unhide Hwa).symm⟩, y.drop (m + 1), _, rfl, rfl, l1, ?_, ?_, unhide Hl2⟩, unhide Hrl⟩
                        · have := unhide HH; omega
                        · have := unhide HH; omega
                    · have hdn : y.drop y.length = [] := List.drop_length
                      rw [hdn] at x2 hrl Hrl Hl2
                      rw [e0] at x2
                      have HH := hide (And.intro hrl (And.intro hyl he1))
                      clear hm hdn x3 hdz
                      rcases hcase with ⟨hb0, rfl⟩ | ⟨hb0, hb1, rfl⟩ | ⟨hb0, hb1, hb2, rfl⟩ | ⟨hb0, hb1, hb2, rfl⟩
                      all_goals
                        rw [hb0] at f0a f0b f0c
                        try rw [hb1] at f1a f1b
                        try rw [hb2] at f2a f2b
                        try clear hb0 hb1 hb2
                        go_wp2_with fail
                        refine ⟨⟨⟨q3, (unhide Hwa).symm⟩, [], _, rfl, rfl, l1, ?_, ?_, unhide Hl2⟩, unhide Hrl⟩
                        · have := unhide HH; simp at this ⊢; omega
                        · simp
          · have hz1 : ((bs x).toList == ([] : List UInt8)) = false := by rw [ByteArray.toList_eq, bs_data]; simpa using hx
            have hz2 : ((bs x).toList == (⟨#[]⟩ : ByteArray).toList) = false := by rw [ByteArray.toList_eq, bs_data]; simpa using hx
            obtain ⟨u1, u2⟩ := up_dq (hnm hx)
            have hus := up_short hx
            have hdx : dq x = (sp x).length := by simp [dq, hx]
            have Hu := hide (And.intro u2 (And.intro (show dq (upPath x) + (d + 1) + 1 = (sp p).length by omega) (And.intro (show d + 1 ≤ 1001 by omega) (show (bs (upPath x)).size < (bs x).size by rw [bs_size, bs_size]; exact hus))))
            have hul : (upPath x).length ≤ 1000 := by omega
            clear u1 u2 hus hdx hsum hnm hspl
            go_wp2_with fail
            refine (keepUp x _ (by omega)).mono ?_
            rintro e w1 ⟨rfl, q3, hw1⟩
            subst hw1
            go_wp2_with fail
            exact ⟨⟨⟨q2 + q3, rfl⟩, upPath x, d + 1, rfl, by go_num, (unhide Hu).2.2.1, hul, (unhide Hu).2.1, (unhide Hu).1⟩, (unhide Hu).2.2.2⟩
      · have hk3' : (kd == 3) = false := by simpa using hk3
        clear hpf
        go_wp2_with fail
        refine ⟨⟨k + 1, by omega, by go_num, n, (unhide Hw7).symm⟩, ?_⟩
        simp [intOf]; omega
    · obtain rfl : k = l.length := by omega
      go_wp2_with fail
      go_ret
      exact ⟨rfl, n, rfl⟩
end Go.Proofs.YtjmacegibchplaaGreatDoor

/-
  What a store holds is never more than its room by uploads; trees are of bounded size; links of a tree do not lead out. No walk.
-/
namespace Go.Proofs.YtjmacegibchplaaGreatDoor
set_option linter.unusedVariables false

theorem sum_put_le (room : Int) (st : List (List UInt8 × List UInt8)) (b : List UInt8) : sumP (putP room st b).2 ≤ sumP st + b.length := by
  unfold putP
  split
  · simp
  · split
    · simp
    · simp only [sumP_app]; omega
theorem sum_put_room (room : Int) (st : List (List UInt8 × List UInt8)) (b : List UInt8) (h : (sumP st : Int) ≤ room) : (sumP (putP room st b).2 : Int) ≤ room := by
  unfold putP
  split
  · exact h
  · split
    · exact h
    · simp only [sumP_app]; omega
theorem sum_app (a b : List (List UInt8 × List UInt8)) : sumP (a ++ b) = sumP a + sumP b := by
  induction a with
  | nil => simp [sumP]
  | cons x r ih => obtain ⟨k, v⟩ := x; simp only [List.cons_append, sumP, ih]; omega
theorem sum_filtL (f : List UInt8 × List UInt8 → Bool) (a : List (List UInt8 × List UInt8)) : sumP (a.filter f) ≤ sumP a := by
  induction a with
  | nil => simp [sumP]
  | cons x r ih =>
    obtain ⟨k, v⟩ := x
    rw [List.filter_cons]
    split
    · simp only [sumP]; omega
    · simp only [sumP]; omega
theorem sum_plant_le (st : List (List UInt8 × List UInt8)) (d b : List UInt8) : sumP (plantP st d b) ≤ sumP st + b.length := by
  unfold plantP
  rw [sum_app]
  have := sum_filtL (fun p => !(p.1 == d)) st
  split
  · simp only [sumP]; omega
  · simp only [sumP]; omega
section
variable {room : Int} {Q : List (List UInt8 × List UInt8) → Prop} (hQ : ∀ st b, Q st → Q (putP room st b).2)
include hQ
theorem putsP_keep : ∀ (l : List (List UInt8)) (st : List (List UInt8 × List UInt8)), Q st → Q (putsP room st l).2
  | [], st, h => h
  | b :: r, st, h => by
    simp only [putsP]
    split
    · exact hQ _ _ h
    · exact putsP_keep r _ (hQ _ _ h)
theorem tryP_keep (link : List Int) (l : List (List UInt8)) : ∀ (k : Nat) (st : List (List UInt8 × List UInt8)) (s : Nat × Nat × Nat), Q st → Q (tryP room link l k st s).2.1
  | 0, st, s, h => h
  | k + 1, st, s, h => by
    simp only [tryP]
    have h1 := putsP_keep hQ l st h
    have h2 := putsP_keep hQ l _ h1
    split
    · exact tryP_keep link l k _ _ h
    · split
      · split
        · exact h2
        · exact h1
      · refine tryP_keep link l k _ _ ?_
        split
        · exact h2
        · exact h1
theorem sendP_keep (batch : Int) (tries : Nat) (link : List Int) : ∀ (f : Nat) (miss : List (List UInt8)) (st : List (List UInt8 × List UInt8)) (s : Nat × Nat × Nat), Q st → Q (sendP room batch tries link f miss st s).2.1
  | 0, miss, st, s, h => h
  | f + 1, miss, st, s, h => by
    simp only [sendP]
    split
    · exact h
    · split
      · exact tryP_keep hQ _ _ _ _ _ h
      · exact sendP_keep batch tries link f _ _ _ (tryP_keep hQ _ _ _ _ _ h)
theorem bringP_keep (batch : Int) (tries : Nat) (link : List Int) (blobs : List (List UInt8)) (st : List (List UInt8 × List UInt8)) (h : Q st) : Q (bringP room batch tries link blobs st).2.1 := by
  simp only [bringP]
  split
  · exact tryP_keep hQ _ _ _ _ _ h
  · exact sendP_keep hQ _ _ _ _ _ _ _ (tryP_keep hQ _ _ _ _ _ h)
theorem upP_keep (l : List En) (tries batch : Int) (L : List Int) (st : List (List UInt8 × List UInt8)) (h : Q st) : Q (upP room l tries batch L st).2.2.2 := by
  unfold upP
  split
  · exact h
  · split
    · exact h
    · split
      · exact h
      · exact bringP_keep hQ _ _ _ _ _ h
end
theorem up_room (room : Int) (l : List En) (tries batch : Int) (L : List Int) (st : List (List UInt8 × List UInt8)) (h : (sumP st : Int) ≤ room) : (sumP (upP room l tries batch L st).2.2.2 : Int) ≤ room :=
  upP_keep (Q := fun st => (sumP st : Int) ≤ room) (fun st b h => sum_put_room room st b h) l tries batch L st h
/-- the sizes of a tree's entries -/
theorem tree_data (l : List En) (ht : Tree l) (i : Nat) (h : i < l.length) : l[i].data.size ≤ 60 := by
  have hk := fineP_kind l i h (ht.fine i h)
  rcases kind_cases hk with ⟨_, e⟩ | ⟨_, e⟩ | e
  · rw [e]; decide
  · exact e
  · have := fineP_link l i h (ht.fine i h) e
    unfold P.isTarget at this
    simp at this
    have h2 : l[i].data.data.toList.length = l[i].data.size := rfl
    have h3 : l[i].data.data.size = l[i].data.size := rfl
    omega
theorem tree_fit (l : List En) (ht : Tree l) : TFit l := fun i h => by
  have h1 := tree_path l ht i h
  have h2 := tree_data l ht i h
  have h3 : l[i].path.data.toList.length = l[i].path.size := rfl
  exact ⟨by omega, by unfold maxLen; omega⟩
theorem tree_lead (l : List En) (ht : Tree l) (hw : wrongP l = 0) (i : Nat) (h : i < l.length) (hk : l[i].kind = 3) : LeadOk (pth l[i]) l[i].data.data.toList := by
  have h1 := tree_path l ht i h
  have h2 := tree_data l ht i h
  have h3 := fineP_link l i h (ht.fine i h) hk
  have h4 := fineP_name l i h (ht.fine i h)
  refine ⟨fun x hx => ?_, ?_, ?_, ?_, ?_⟩
  · have := h4 x hx
    rintro rfl
    simp [P.isName] at this
  · show l[i].path.data.toList.length ≤ 1000
    omega
  · have h5 : l[i].data.data.toList.length = l[i].data.size := rfl
    omega
  · intro e
    rw [e] at h3
    simp [P.isTarget] at h3
  · have hwy := wrong_yes l ht
    rw [hw] at hwy
    have hany : l.any escP = false := by
      cases ha : l.any escP with
      | false => rfl
      | true => rw [ha] at hwy; simp at hwy
    have := List.any_eq_false.1 hany l[i] (List.getElem_mem h)
    unfold escP at this
    simp [hk] at this
    exact this
end Go.Proofs.YtjmacegibchplaaGreatDoor

/-
  A tree's entries in another order are the same tree: its blobs are the same. No walk.
-/
namespace Go.Proofs.YtjmacegibchplaaGreatDoor
set_option linter.unusedVariables false

/-- what a tree's entries are, one by one -/
theorem tree_up (l : List En) (ht : Tree l) (e : En) (he : e ∈ l) : upPath (pth e) = [] ∨ ∃ t ∈ l, pth t = upPath (pth e) ∧ t.kind = 0 := by
  obtain ⟨i, hi, rfl⟩ := List.mem_iff_getElem.1 he
  have hf := ht.fine i hi
  simp only [fineP, Bool.and_eq_true, Bool.not_eq_true'] at hf
  have gu := hf.1.2
  rw [en_getD l i hi] at gu
  unfold upBad at gu
  rcases cut_cases (pth l[i]) with ⟨_, _, e2, _⟩ | ⟨a, n, e, _, e1, e2, _⟩
  · exact .inl e2
  · right
    have hlen : ¬ (sp l[i].path.data.toList).length ≤ 1 := by
      have e1' : sp l[i].path.data.toList = sp a ++ [n] := e1
      rw [e1']; simp; exact sp_ne a
    rw [if_neg hlen] at gu
    have e2' : upPath l[i].path.data.toList = a := e2
    rw [e2'] at gu
    rw [e2]
    rcases find_at l a with ⟨j, hj, ej, hp, hs, _⟩ | ⟨hn, _⟩
    · rw [ej, if_neg (by omega), Int.toNat_natCast, en_getD l j hj] at gu
      exact ⟨l[j], List.getElem_mem hj, hp, by simpa using gu⟩
    · rw [hn] at gu
      simp at gu
theorem tree_once (l : List En) (ht : Tree l) : l.Pairwise (fun a b => pth a ≠ pth b) := by
  rw [List.pairwise_iff_getElem]
  intro i j hi hj hij h
  have := tree_inj l ht i j hi hj h
  omega
/-- other lists of the same entries -/
theorem tree_same {l m : List En} (ht : Tree l) (hw : wrongP l = 0) (hm : ∀ e, e ∈ m ↔ e ∈ l) (hlen : m.length ≤ 40) (hon : m.Pairwise (fun a b => pth a ≠ pth b)) : Tree m ∧ wrongP m = 0 := by
  refine treeIs m hlen hon (fun e he => ?_) (fun e he => ?_) (fun e he => ?_) (fun e he => ?_) (fun e he hk => ?_)
  · rcases tree_up l ht e ((hm e).1 he) with h | ⟨t, h1, h2⟩
    · exact .inl h
    · exact .inr ⟨t, (hm t).2 h1, h2⟩
  · obtain ⟨i, hi, rfl⟩ := List.mem_iff_getElem.1 ((hm e).1 he)
    exact fineP_name l i hi (ht.fine i hi)
  · obtain ⟨i, hi, rfl⟩ := List.mem_iff_getElem.1 ((hm e).1 he)
    exact fineP_deep l i hi (ht.fine i hi)
  · obtain ⟨i, hi, rfl⟩ := List.mem_iff_getElem.1 ((hm e).1 he)
    exact fineP_kind l i hi (ht.fine i hi)
  · have hwy := wrong_yes l ht
    rw [hw] at hwy
    have hany : l.any escP = false := by
      cases ha : l.any escP with
      | false => rfl
      | true => rw [ha] at hwy; simp at hwy
    have := List.any_eq_false.1 hany e ((hm e).1 he)
    unfold escP at this
    simp [hk] at this
    exact this
theorem ents_of (l : List En) (ht : Tree l) (p : List UInt8) : ((insP l p).map (fun i => l.getD i en0)).Pairwise (fun a b => less (nmE p a) (nmE p b) = true) ∧ ∀ e, e ∈ (insP l p).map (fun i => l.getD i en0) ↔ e ∈ l ∧ kidB p e = true := by
  constructor
  · rw [List.pairwise_map]
    exact insG_sorted l p _ _
  · intro e
    simp only [List.mem_map]
    constructor
    · rintro ⟨i, hi, rfl⟩
      obtain ⟨hl, n, hn⟩ := (insP_iff l ht p i).1 hi
      rw [en_getD l i hl]
      exact ⟨List.getElem_mem hl, by unfold kidB pth; rw [hn]; rfl⟩
    · rintro ⟨hm, hk⟩
      obtain ⟨i, hi, rfl⟩ := List.mem_iff_getElem.1 hm
      unfold kidB pth at hk
      obtain ⟨n, hn⟩ := Option.isSome_iff_exists.1 hk
      exact ⟨i, (insP_iff l ht p i).2 ⟨hi, n, hn⟩, en_getD l i hi⟩
theorem blob_turn {l m : List En} (hl : Tree l) (hm : Tree m) (h : ∀ e, e ∈ m ↔ e ∈ l) : ∀ f p, blobP m f p = blobP l f p
  | 0, p => rfl
  | f + 1, p => by
    have ih : blobP m f = blobP l f := funext (blob_turn hl hm h f)
    simp only [blobP, items_itF, ih]
    have e : (insP m p).map (fun i => m.getD i en0) = (insP l p).map (fun i => l.getD i en0) := by
      obtain ⟨s1, m1⟩ := ents_of m hm p
      obtain ⟨s2, m2⟩ := ents_of l hl p
      exact order_one (fun a b => less (nmE p a) (nmE p b)) (fun _ => less_irr _) (fun _ _ _ => less_trans _ _ _) _ _ s1 s2 (fun e => by rw [m1, m2, h])
    rw [e]
theorem all_mem (l : List En) (x : List UInt8) : x ∈ allP l ↔ x = blobP l 6 [] ∨ ∃ e ∈ l, x ∈ partP l e := by
  unfold allP allTo
  rw [List.take_length]
  simp
theorem all_same {l m : List En} (hl : Tree l) (hm : Tree m) (h : ∀ e, e ∈ m ↔ e ∈ l) (x : List UInt8) : x ∈ allP m ↔ x ∈ allP l := by
  rw [all_mem, all_mem]
  have hb := blob_turn hl hm h
  have hp : ∀ e, partP m e = partP l e := fun e => by unfold partP; rw [hb]
  rw [hb]
  constructor
  · rintro (e | ⟨e, he, hx⟩)
    · exact .inl e
    · exact .inr ⟨e, (h e).1 he, by rw [← hp]; exact hx⟩
  · rintro (e | ⟨e, he, hx⟩)
    · exact .inl e
    · exact .inr ⟨e, (h e).2 he, by rw [hp]; exact hx⟩
theorem outs_same {A B : List (List UInt8)} (h : ∀ x, x ∈ A ↔ x ∈ B) : outsP A = outsP B := by
  rcases outs_spec B with ⟨hn, x, hx, y, hy, e, hne⟩ | ⟨out, ho, hs, hmm, hu⟩
  · rw [hn]
    exact outs_none A x y ((h x).2 hx) ((h y).2 hy) e hne
  · rw [ho]
    exact outs_of A out hs (fun x => by rw [hmm, h]) (fun x hx y hy => hu x ((h x).1 hx) y ((h y).1 hy))
theorem built_same {l m : List En} (hl : Tree l) (hm : Tree m) (h : ∀ e, e ∈ m ↔ e ∈ l) : builtP m = builtP l := outs_same (all_same hl hm h)
/-- a tree from its other end -/
theorem tree_rev {l : List En} (ht : Tree l) (hw : wrongP l = 0) : Tree l.reverse ∧ wrongP l.reverse = 0 ∧ builtP l.reverse = builtP l ∧ blobP l.reverse 6 [] = blobP l 6 [] := by
  have hm : ∀ e, e ∈ l.reverse ↔ e ∈ l := fun e => List.mem_reverse
  obtain ⟨h1, h2⟩ := tree_same ht hw hm (by rw [List.length_reverse]; exact ht.len) (by rw [List.pairwise_reverse]; exact (tree_once l ht).imp (fun h e => h e.symm))
  exact ⟨h1, h2, built_same ht h1 hm, blob_turn ht h1 hm 6 []⟩
end Go.Proofs.YtjmacegibchplaaGreatDoor

/-
  A tree brought over a link that loses things, and brought again: over plain lists. No walk.
-/
namespace Go.Proofs.YtjmacegibchplaaGreatDoor
set_option linter.unusedVariables false

theorem try_nil2 (room : Int) (link : List Int) : ∀ (k : Nat) (st : List (List UInt8 × List UInt8)) (s : Nat × Nat × Nat), ((tryP room link [] k st s).1 = 0 ∨ (tryP room link [] k st s).1 = 10) ∧ (tryP room link [] k st s).2.2.2 = s.2
  | 0, st, s => by simp [tryP]
  | k + 1, st, s => by
    simp only [tryP]
    split
    · have := try_nil2 room link k st (s.1 + 1, s.2.1 + 0, s.2.2 + 0)
      exact this
    · have h2 : (if link.getD s.1 0 = 3 then putsP room (putsP room st []).2 [] else putsP room st []) = (0, st) := by
        split <;> simp [putsP]
      split
      · rw [h2]; exact ⟨.inl rfl, rfl⟩
      · rw [h2]
        exact try_nil2 room link k st (s.1 + 1, s.2.1 + 0, s.2.2 + 0)
theorem up_again (room : Int) {t : List En} {blobs : List (List UInt8)} (hw : wrongP t = 0) (hb : builtP t = some blobs) {tries batch : Int} {L : List Int} (hp : planOk tries batch L = true) {st : List (List UInt8 × List UInt8)} (hall : ∀ b ∈ blobs, (atP st (P.digest b)).isSome = true) :
    ((upP room t tries batch L st).2.2.1 = 0 ∧ (upP room t tries batch L st).1 = P.digest (blobP t 6 []) ∨ (upP room t tries batch L st).2.2.1 = 10) ∧ (upP room t tries batch L st).2.1.2 = (0, 0) := by
  have hm : blobs.filter (fun b => !(atP st (P.digest b)).isSome) = [] := by
    rw [List.filter_eq_nil_iff]
    intro b hbb
    rw [hall b hbb]
    simp
  have hbr : ((bringP room batch tries.toNat L blobs st).1 = 0 ∨ (bringP room batch tries.toNat L blobs st).1 = 10) ∧ (bringP room batch tries.toNat L blobs st).2.2.2 = (0, 0) := by
    obtain ⟨h1, h2⟩ := try_nil2 room L tries.toNat st (0, 0, 0)
    simp only [bringP, hm]
    split
    · exact ⟨h1, h2⟩
    · rename_i hz
      have hz' : (tryP room L [] tries.toNat st (0, 0, 0)).1 = 0 := by simpa using hz
      simp only [List.length_nil, sendP]
      exact ⟨by simp, h2⟩
  unfold upP
  rw [if_neg (by simpa using hw), hb]
  simp only [hp, Bool.true_eq_false, if_false]
  refine ⟨?_, hbr.2⟩
  rcases hbr.1 with h | h
  · left; exact ⟨h, by rw [if_pos h]⟩
  · right; exact h
theorem up_first {t : List En} {blobs : List (List UInt8)} (ht : Tree t) (hw : wrongP t = 0) (hb : builtP t = some blobs) {batch : Int} {L : List Int} (hp : planOk 9 batch L = true) (U : List UInt8 × (Nat × Nat × Nat) × Int × List (List UInt8 × List UInt8)) (hU : upP 100000 t.reverse 9 batch L [] = U) :
    (U.2.2.1 = 0 ∧ U.1 = P.digest (blobP t 6 []) ∧ blobs.length ≤ U.2.1.2.1 ∧ bytesP blobs ≤ U.2.1.2.2 ∧ U.2.1.2.1 ≤ 9 * blobs.length ∧ (L.countP badK = 0 → U.2.1.2.1 = blobs.length) ∧ Held (atP U.2.2.2) t ∧ ∀ b ∈ blobs, (atP U.2.2.2 (P.digest b)).isSome = true) ∨ (U.2.2.1 = 10 ∧ 9 ≤ L.countP badK) := by
  obtain ⟨h1, h2, h3, h4⟩ := tree_rev ht hw
  obtain ⟨f1, f2, f3, f4⟩ := built_facts ht hb
  rw [hb] at h3
  unfold upP at hU
  rw [if_neg (by simpa using h2), h3] at hU
  simp only [hp, Bool.true_eq_false, if_false] at hU
  rw [h4] at hU
  obtain ⟨miss, hmiss, hgrew, hcase⟩ := bring_any (room := 100000) (blobs := blobs) (by omega) batch 9 L [] (roomy_nil _ _)
  have hm : miss = blobs := by
    rw [hmiss, List.filter_eq_self]
    intro b _
    simp [atP]
  subst hm
  have e9 : (9 : Int).toNat = 9 := rfl
  rw [e9] at hU
  subst hU
  rcases hcase with ⟨c1, c2, c3, c4, c5, c6⟩ | ⟨c1, c2⟩
  · left
    exact ⟨c1, by rw [if_pos c1], c3, c5, c4, c6, bring_held hb (fun d b h => by simp [atP] at h) hgrew c2, c2⟩
  · right
    exact ⟨c1, c2⟩
theorem order_same {t : List En} (ht : Tree t) (i : Nat) (h : i < (orderP t).length) : t.countP (fun z => enEq (orderP t)[i] z) = 1 := by
  have hm : (orderP t)[i] ∈ t := (order_mem t ht _).1 (List.getElem_mem h)
  generalize (orderP t)[i] = x at *
  have ho := tree_once t ht
  clear ht h
  induction t with
  | nil => simp at hm
  | cons y r ih =>
    rw [List.pairwise_cons] at ho
    rw [List.countP_cons]
    rcases List.mem_cons.1 hm with e | e
    · subst e
      have hz : r.countP (fun z => enEq x z) = 0 := by
        rw [List.countP_eq_zero]
        intro z hz he
        have := (enEq_iff x z).1 he
        subst this
        exact ho.1 x hz rfl
      rw [hz, if_pos ((enEq_iff x x).2 rfl)]
    · have hne : ¬ enEq x y = true := fun he => by
        have := (enEq_iff x y).1 he
        subst this
        exact ho.1 x e rfl
      rw [ih e ho.2, if_neg hne]
theorem plan_link (batch : Int) (link : List Int) (hb : 1 ≤ batch ∧ batch ≤ 5000) : planOk 9 batch ((link.take 60).map (fun r => pickP r 4)) = true := by
  unfold planOk
  rw [Bool.and_eq_true, decide_eq_true_eq, List.all_eq_true]
  refine ⟨by omega, fun k hk => ?_⟩
  obtain ⟨r, _, rfl⟩ := List.mem_map.1 hk
  have h1 : 0 ≤ pickP r 4 := by unfold pickP; exact Int.emod_nonneg _ (by decide)
  have h2 : pickP r 4 < 4 := by unfold pickP; exact Int.emod_lt_of_pos _ (by decide)
  simp; omega
end Go.Proofs.YtjmacegibchplaaGreatDoor

/-
  The document's examples: the plain answers. No walk.
-/
namespace Go.Proofs.YtjmacegibchplaaGreatDoor
set_option linter.unusedVariables false

theorem kn_d0 : P.digest [] = [48, 48, 49] := by kernel_rfl
theorem kn_d1 : P.digest [97] = [49, 54, 57] := by kernel_rfl
theorem kn_d2 : P.digest [84, 0] = [53, 99, 55] := by kernel_rfl
theorem kn_e0 : errOf [] = 0 ∧ rootOf [] = [53, 99, 55] ∧ outOf [] = [[84, 0]] := ⟨by kernel_rfl, by kernel_rfl, by kernel_rfl⟩
def knL : List En := [⟨⟨#[97]⟩, 1, ⟨#[120]⟩⟩]
theorem kn_e1 : errOf knL = 0 ∧ (outOf knL).length = 2 := ⟨by kernel_rfl, by kernel_rfl⟩
theorem kn_c0 : decOk [84, 1, 3, 1, 108, 0] = none := by kernel_rfl
theorem kn_c1 : decOk [84, 1, 3, 1, 108, 1, 120] = some [⟨⟨#[108]⟩, 3, ⟨#[]⟩, 0, ⟨#[120]⟩⟩] := by kernel_rfl
def knA : List En := [⟨⟨#[100]⟩, 0, ⟨#[]⟩⟩, ⟨⟨#[100, 47, 108]⟩, 3, ⟨#[46, 46, 47, 120]⟩⟩]
def knB : List En := [⟨⟨#[100]⟩, 0, ⟨#[]⟩⟩, ⟨⟨#[100, 47, 108]⟩, 3, ⟨#[46, 46, 47, 46, 46, 47, 120]⟩⟩]
def knC : List En := [⟨⟨#[108]⟩, 3, ⟨#[120, 47, 46, 46, 47, 46, 46]⟩⟩]
theorem kn_e3 : errOf knA = 0 ∧ errOf knB = 2 ∧ errOf knC = 2 := ⟨by kernel_rfl, by kernel_rfl, by kernel_rfl⟩
def knU := upP 1000 knL 2 5000 [1, 2] []
def knV := upP 1000 knL 3 5000 [1, 2] knU.2.2.2
theorem kn_u : knU.1 = [] ∧ knU.2.1 = (2, 0, 0) ∧ knU.2.2.1 = 10 := ⟨by kernel_rfl, by kernel_rfl, by kernel_rfl⟩
theorem kn_us : sumP knU.2.2.2 ≤ 1000 := by decide +kernel
theorem kn_vs : sumP knV.2.2.2 ≤ 1000 := by decide +kernel
def knO : List (List UInt8) := outOf knL
theorem kn_v : knV.2.2.1 = 0 ∧ knV.2.1.1 = 4 ∧ knV.2.1.2.1 = 2 ∧ knV.2.1.2.2 = (knO.getD 0 []).length + (knO.getD 1 []).length := ⟨by kernel_rfl, by kernel_rfl, by kernel_rfl, by kernel_rfl⟩
theorem kn_o : outOf knL = [knO.getD 0 [], knO.getD 1 []] ∧ (knO.getD 0 []).length ≤ 2000 ∧ (knO.getD 1 []).length ≤ 2000 := ⟨by kernel_rfl, by decide +kernel, by decide +kernel⟩
theorem kn_f : fetchP (atP knV.2.2.2) (rootOf knL) 1 1 = (0, knL) := by kernel_rfl
end Go.Proofs.YtjmacegibchplaaGreatDoor
