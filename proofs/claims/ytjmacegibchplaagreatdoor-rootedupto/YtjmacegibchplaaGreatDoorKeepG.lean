/-
  Does a link lead out (the statements' own test)? The two files of one digest.
-/
import Derived.Test.YtjmacegibchplaaGreatDoorKeepD
namespace Go.Proofs.YtjmacegibchplaaGreatDoor
open Go.RowKit
set_option linter.unusedVariables false

/-- how deep a name leads -/
def stepL (e : Int) (x : List UInt8) : Int := if x = [46, 46] then e - 1 else if x = [] ∨ x = [46] then e else e + 1
theorem go_cons {e : Int} {x : List UInt8} {r : List (List UInt8)} (h : outGo e (x :: r) = false) : 0 ≤ stepL e x ∧ outGo (stepL e x) r = false := by
  unfold stepL
  simp only [outGo] at h
  generalize (if x = [46, 46] then e - 1 else if x = [] ∨ x = [46] then e else e + 1) = d at *
  by_cases hd : d < 0
  · rw [if_pos hd] at h; simp at h
  · rw [if_neg hd] at h; exact ⟨by omega, h⟩
theorem lead_step (e : Int) (t : List UInt8) (n : Nat) (hn : n ≤ t.length) (hno : ∀ j (h : j < t.length), j < n → t[j] ≠ 47) (hend : ∀ h : n < t.length, t[n] = 47) (h : outGo e (sp t) = false) :
    0 ≤ stepL e (t.take n) ∧ outGo (stepL e (t.take n)) (sp ((t.drop n).drop 1)) = false := by
  have hx : P.has (t.take n) 47 = false := has_false.2 (fun hm => by
    obtain ⟨j, hj, he⟩ := List.mem_iff_getElem.1 hm
    rw [List.length_take] at hj
    rw [List.getElem_take] at he
    exact hno j (by omega) (by omega) he)
  rcases Nat.eq_or_lt_of_le hn with hE | hlt
  · have h1 : t.take n = t := by rw [hE, List.take_length]
    have h2 : t.drop n = [] := by rw [hE, List.drop_length]
    rw [h1] at hx ⊢
    rw [h2]
    rw [sp_end t hx] at h
    have := go_cons h
    refine ⟨this.1, ?_⟩
    show outGo (stepL e t) [[]] = false
    have h0 := this.1
    generalize stepL e t = d at *
    simp [outGo]
    exact h0
  · have e1 : t = t.take n ++ 47 :: t.drop (n + 1) := by
      have := hend hlt
      rw [← this, ← List.drop_eq_getElem_cons hlt, List.take_append_drop]
    have h' : outGo e (t.take n :: sp (t.drop (n + 1))) = false := by rw [← sp_slash _ _ hx, ← e1]; exact h
    have := go_cons h'
    rw [List.drop_drop]
    exact this
/-- how deep a directory stands -/
def dq (q : List UInt8) : Nat := if q = [] then 0 else (sp q).length
theorem up_dq {q : List UInt8} (hnm : ∀ p ∈ sp q, p ≠ []) : dq (upPath q) + 1 = (sp q).length ∧ (upPath q ≠ [] → ∀ p ∈ sp (upPath q), p ≠ []) := by
  rcases cut_cases q with ⟨_, h1, h2, _⟩ | ⟨a, n, e, _, h1, h2, _⟩
  · rw [h2, h1]
    exact ⟨by simp [dq], fun h => absurd rfl h⟩
  · rw [h2, h1]
    have ha : a ≠ [] := fun h => by
      subst h
      exact hnm [] (by rw [h1]; simp [show sp ([] : List UInt8) = [[]] from rfl]) rfl
    refine ⟨by simp [dq, ha], fun _ p hp => hnm p (by rw [h1]; simp [hp])⟩
/-- what leads asks of a link -/
structure LeadOk (p t : List UInt8) : Prop where
  nm : ∀ x ∈ sp p, x ≠ []
  pl : p.length ≤ 1000
  tl : t.length ≤ 1000
  tn : t ≠ []
  out : outP ((sp p).length - 1) t = false
theorem LeadOk.go {p t : List UInt8} (h : LeadOk p t) : t.head? ≠ some 47 ∧ outGo ((sp p).length - 1) (sp t) = false := by
  have := h.out
  unfold outP at this
  split at this
  · simp at this
  · rename_i hn
    exact ⟨hn, this⟩
def lenOf (v : Value) : Nat := match v with
  | .string b => b.size
  | _ => 0
set_option maxRecDepth 100000 in
set_option maxHeartbeats 2000000 in
theorem keepLeads (l : List En) (a : Option Addr) (c : Nat) (w : World) (hl : l.length ≤ 1000) (hi : LiesE w a l) (hf : ∀ i (h : i < l.length), l[i].kind = 3 → LeadOk (pth l[i]) l[i].data.data.toList) :
    Calls Tryz.prog 38 #[.slice a l.length c] w fun e w' => e = .returned (.bool false) ∧ ∃ n, w' = w.drewN n := by
  have Hf := hide hf
  clear hf
  go_enter Tryz.func38, Tryz.ntmps38
  go_wp2_with fail
  go_loopw [3] (fun i wr => ∃ k : Nat, k ≤ l.length ∧ i = .int .i64 k ∧ (∃ n, wr = w.drewN n)) (fun i _ => l.length - (intOf i).toNat)
  case atStart => exact ⟨0, by omega, rfl, ⟨0, rfl⟩⟩
  case round =>
    obtain ⟨k, hk, rfl, ⟨n, hwr⟩⟩ := hrel
    subst hwr
    by_cases hlt : k < l.length
    · obtain ⟨b, o, rfl, hc⟩ := entsGet hi hlt
      obtain ⟨p0, p1, p2⟩ := hc k hlt
      have q1 : (k : Int) < (l.length : Int) := by omega
      have hpf := unhide Hf k hlt
      have hbp : l[k].path = bs (pth l[k]) := (bs_of _).symm
      have hbd : l[k].data = bs l[k].data.data.toList := (bs_of _).symm
      rw [hbp] at p0
      rw [hbd] at p2
      have p0' : (w.drewN n).cell? ⟨b, o + k * 3, none⟩ = some (.string (bs (pth l[k]))) := p0
      have p1' : (w.drewN n).cell? ⟨b, o + k * 3 + 1, none⟩ = some (.int .i64 l[k].kind) := p1
      have p2' : (w.drewN n).cell? ⟨b, o + k * 3 + 2, none⟩ = some (.string (bs l[k].data.data.toList)) := p2
      clear p0 p1 p2 hbp hbd hc
      generalize pth l[k] = p at *
      generalize l[k].data.data.toList = t at *
      generalize l[k].kind = kd at *
      generalize hw7 : w.drewN n = w7 at *
      have Hw7 := hide hw7
      clear hw7
      by_cases hk3 : kd = 3
      · subst hk3
        have hok := hpf rfl
        have Hok := hide hok
        have hpl := hok.pl
        have htl := hok.tl
        clear hok hpf
        go_wp2_with fail
        refine (keepUp p _ (by omega)).mono ?_
        rintro e w1 ⟨rfl, q, hw1⟩
        subst hw1
        have s2' : (w7.drewN q).cell? ⟨b, o + k * 3 + 2, none⟩ = some (.string (bs t)) := p2'
        clear p0' p1' p2'
        generalize hw8 : w7.drewN q = w8 at *
        have Hw8 := hide hw8
        clear hw8
        go_wp2_with fail
        go_loopw [4, 6] (fun av dv wr => (∃ q2, wr = w8.drewN q2) ∧ ∃ (x : List UInt8) (d : Nat), av = .string (bs x) ∧ dv = .int .i64 d ∧ d ≤ 1001 ∧ x.length ≤ 1000 ∧ dq x + d + 1 = (sp p).length ∧ (x ≠ [] → ∀ y ∈ sp x, y ≠ [])) (fun av _ _ => lenOf av)
        case atStart =>
          obtain ⟨u1, u2⟩ := up_dq (unhide Hok).nm
          exact ⟨⟨0, rfl⟩, upPath p, 0, rfl, rfl, by omega, by unfold upPath; rw [List.length_take]; omega, by omega, u2⟩
        case round =>
          obtain ⟨⟨q2, hwr⟩, x, d, rfl, rfl, hd, hxl, hsum, hnm⟩ := hrel
          subst hwr
          have s3' : (w8.drewN q2).cell? ⟨b, o + k * 3 + 2, none⟩ = some (.string (bs t)) := s2'
          have Hs2 := hide s2'
          clear s2'
          have hspl := sp_len p
          by_cases hx : x = []
          · subst hx
            have hd1 : d + 1 = (sp p).length := by simpa [dq] using hsum
            obtain ⟨g1, g2⟩ := (unhide Hok).go
            have htn := (unhide Hok).tn
            rw [← hd1, show ((d + 1 : Nat) : Int) - 1 = (d : Int) by omega] at g2
            obtain ⟨ch, r, rfl⟩ : ∃ c r, t = c :: r := by
              cases t with
              | nil => exact absurd rfl htn
              | cons c r => exact ⟨c, r, rfl⟩
            have hsz := bs_size (ch :: r)
            have q0 : (0 : Int) < ((ch :: r).length : Int) := by simp
            have c0 : (bs (ch :: r))[0]'(by rw [hsz]; simp) = ch := rfl
            have b47 : ((ch.toNat : Int) == 47) = false := by
              simp
              intro h; exact g1 (by simp; exact UInt8.toNat_inj.1 (by simpa using (by omega : ch.toNat = 47)))
            have y1 : ((bs (ch :: r)).toList == ([] : List UInt8)) = false := by rw [ByteArray.toList_eq, bs_data]; rfl
            have y2 : ((bs (ch :: r)).toList == (⟨#[]⟩ : ByteArray).toList) = false := by rw [ByteArray.toList_eq, bs_data]; simp
            have y3 : (bs (ch :: r)).toList.isEmpty = false := by rw [ByteArray.toList_eq, bs_data]; rfl
            have e0 : (bs ([] : List UInt8)) = ⟨#[]⟩ := rfl
            have htl' : (d : Int) + ((ch :: r).length : Int) ≤ 3000 := by omega
            have G2 := hide g2
            have Hht := hide (And.intro htl' htl)
            clear g1 g2 hsum hnm htn htl htl' hspl hd1
            rw [e0]
            generalize hw9 : w8.drewN q2 = w9 at *
            have Hw9 := hide hw9
            clear hw9
            go_wp2_with fail
            go_loopw [6, 7, 8] (fun dv tv nv wr => (∃ q3, wr = w9.drewN q3) ∧ ∃ (y : List UInt8) (e : Int), dv = .int .i64 e ∧ tv = .string (bs y) ∧ 0 ≤ e ∧ e + (y.length : Int) ≤ 3000 ∧ y.length ≤ 1000 ∧ outGo e (sp y) = false) (fun _ tv _ _ => lenOf tv)
            case atStart => exact ⟨⟨0, rfl⟩, ch :: r, (d : Int), rfl, rfl, by omega, (unhide Hht).1, (unhide Hht).2, unhide G2⟩
            case round =>
              obtain ⟨⟨q3, hwr⟩, y, e, rfl, rfl, he0, he1, hyl, hgo⟩ := hrel
              subst hwr
              have Hgo := hide hgo
              clear hgo c0 hsz q0 b47 y1 y2 y3
              by_cases hy : y = []
              · subst hy
                rw [e0]
                go_wp2_with fail
                refine ⟨⟨k + 1, by omega, by go_num, n + (q + (q2 + q3)), by rw [← unhide Hw9, ← unhide Hw8, ← unhide Hw7, World.drewN_drewN, World.drewN_drewN, World.drewN_drewN]⟩, ?_⟩
                simp [intOf]; omega
              · have hz1 : ((bs y).toList == ([] : List UInt8)) = false := by rw [ByteArray.toList_eq, bs_data]; simpa using hy
                have hz2 : ((bs y).toList == (⟨#[]⟩ : ByteArray).toList) = false := by rw [ByteArray.toList_eq, bs_data]; simpa using hy
                have hyz := bs_size y
                generalize hwa : w9.drewN q3 = wa at *
                have Hwa := hide hwa
                clear hwa
                go_wp2_with fail
                go_loop [8] (fun nv => ∃ m : Nat, nv = .int .i64 m ∧ m ≤ y.length ∧ ∀ j (h : j < y.length), j < m → y[j] ≠ 47) (fun nv => y.length - (intOf nv).toNat)
                case atStart => exact ⟨0, rfl, Nat.zero_le _, fun j h hj => by omega⟩
                case round =>
                  obtain ⟨m, rfl, hm, hno⟩ := hrel
                  have Hno := hide hno
                  clear hno
                  by_cases hgoon : ∃ h : m < y.length, y[m] ≠ 47
                  · obtain ⟨hmlt, h47⟩ := hgoon
                    have hpm : (bs y)[m]'(by rw [hyz]; exact hmlt) = y[m] := rfl
                    have h47' : ((y[m].toNat : Int) == 47) = false := by
                      simp
                      intro e; exact h47 (UInt8.toNat_inj.1 (by show y[m].toNat = 47; omega))
                    have hml : (m : Int) < (y.length : Int) := by omega
                    go_wp2_with fail
                    refine ⟨⟨m + 1, by go_num, by omega, fun j h hj => by
                      rcases Nat.eq_or_lt_of_le (Nat.lt_succ_iff.1 hj) with rfl | hlt2
                      · exact h47
                      · exact unhide Hno j h hlt2⟩, ?_⟩
                    simp [intOf]; omega
                  · have hend : ∀ h : m < y.length, y[m] = 47 := fun h => Classical.byContradiction fun hn => hgoon ⟨h, hn⟩
                    obtain ⟨l1, l2⟩ := lead_step e y m hm (unhide Hno) hend (unhide Hgo)
                    have x1 := extract_take y m
                    have x2 := extract_drop y m
                    have x3 := extract_drop (y.drop m) 1
                    rw [List.length_drop] at x3
                    have hm0 : (0 : Int) ≤ (m : Int) := by omega
                    have hm1 : (m : Int) ≤ (y.length : Int) := by omega
                    have hdz := bs_size (y.drop m)
                    have hrl : ((y.drop m).drop 1).length < y.length := by
                      have : 0 < y.length := List.length_pos_iff.2 hy
                      simp only [List.length_drop]; omega
                    have Hrl := hide (show (bs ((y.drop m).drop 1)).size < (bs y).size by rw [bs_size, bs_size]; exact hrl)
                    have hbad : (bs y).toList.isEmpty = false := by rw [ByteArray.toList_eq, bs_data]; simpa using hy
                    have f0a : ((bs (y.take m)).toList == ([] : List UInt8)) = (y.take m == []) := str_eq _ _
                    have f0b : ((bs (y.take m)).toList == (⟨#[]⟩ : ByteArray).toList) = (y.take m == []) := bs_eqb (y.take m) []
                    have f0c : (bs (y.take m)).toList.isEmpty = (y.take m == []) := by rw [ByteArray.toList_eq, bs_data]; cases y.take m <;> rfl
                    have f1a : ((bs (y.take m)).toList == ([46] : List UInt8)) = (y.take m == [46]) := str_eq _ _
                    have f1b : ((bs (y.take m)).toList == (⟨#[46]⟩ : ByteArray).toList) = (y.take m == [46]) := bs_eqb (y.take m) [46]
                    have f2a : ((bs (y.take m)).toList == ([46, 46] : List UInt8)) = (y.take m == [46, 46]) := str_eq _ _
                    have f2b : ((bs (y.take m)).toList == (⟨#[46, 46]⟩ : ByteArray).toList) = (y.take m == [46, 46]) := bs_eqb (y.take m) [46, 46]
                    have hcase : ((y.take m == []) = true ∧ stepL e (y.take m) = e) ∨ ((y.take m == []) = false ∧ (y.take m == [46]) = true ∧ stepL e (y.take m) = e) ∨ ((y.take m == []) = false ∧ (y.take m == [46]) = false ∧ (y.take m == [46, 46]) = true ∧ stepL e (y.take m) = e - 1) ∨ ((y.take m == []) = false ∧ (y.take m == [46]) = false ∧ (y.take m == [46, 46]) = false ∧ stepL e (y.take m) = e + 1) := by
                      generalize y.take m = x
                      unfold stepL
                      by_cases a0 : x = []
                      · subst a0; left; simp
                      · by_cases a1 : x = [46]
                        · subst a1; right; left; simp
                        · by_cases a2 : x = [46, 46]
                          · subst a2; right; right; left; simp
                          · right; right; right; simp [a0, a1, a2]
                    have hE : (∃ h : m < y.length, y[m] = 47) ∨ m = y.length := by
                      rcases Nat.lt_or_ge m y.length with h | h
                      · exact .inl ⟨h, hend h⟩
                      · exact .inr (by omega)
                    clear hgoon hend
                    generalize hxx : y.take m = x at *
                    generalize hst : stepL e x = e' at *
                    have Hl2 := hide l2
                    have Hxx := hide (And.intro hxx hst)
                    clear l2 hxx hst
                    rcases hE with ⟨hmlt, h47⟩ | rfl
                    · have hpm : (bs y)[m]'(by rw [hyz]; exact hmlt) = y[m] := rfl
                      have h47' : ((y[m].toNat : Int) == 47) = true := by rw [h47]; rfl
                      have hml : (m : Int) < (y.length : Int) := by omega
                      have hdn : y.drop m ≠ [] := fun h => by have := congrArg List.length h; simp at this; omega
                      have d1 : ((bs (y.drop m)).toList == ([] : List UInt8)) = false := by rw [ByteArray.toList_eq, bs_data]; simpa using hdn
                      have d2 : ((bs (y.drop m)).toList == (⟨#[]⟩ : ByteArray).toList) = false := by rw [ByteArray.toList_eq, bs_data]; simpa using hdn
                      have hd1 : (1 : Int) ≤ ((y.drop m).length : Int) := by have := List.length_pos_iff.2 hdn; omega
                      have Hdn := hide hdn
                      clear hdn
                      rw [List.drop_drop] at x3 Hrl Hl2 hrl
                      have HH := hide (And.intro hrl (And.intro hyl he1))
                      clear hm h47
                      rcases hcase with ⟨hb0, rfl⟩ | ⟨hb0, hb1, rfl⟩ | ⟨hb0, hb1, hb2, rfl⟩ | ⟨hb0, hb1, hb2, rfl⟩
                      all_goals
                        rw [hb0] at f0a f0b f0c
                        try rw [hb1] at f1a f1b
                        try rw [hb2] at f2a f2b
                        try clear hb0 hb1 hb2
                        go_wp2_with fail
                        refine ⟨⟨⟨q3, (unhide Hwa).symm⟩, y.drop (m + 1), _, rfl, rfl, l1, ?_, ?_, unhide Hl2⟩, unhide Hrl⟩
                        · have := unhide HH; omega
                        · have := unhide HH; omega
                    · have hdn : y.drop y.length = [] := List.drop_length
                      rw [hdn] at x2 hrl Hrl Hl2
                      rw [e0] at x2
                      have HH := hide (And.intro hrl (And.intro hyl he1))
                      clear hm hdn x3 hdz
                      rcases hcase with ⟨hb0, rfl⟩ | ⟨hb0, hb1, rfl⟩ | ⟨hb0, hb1, hb2, rfl⟩ | ⟨hb0, hb1, hb2, rfl⟩
                      all_goals
                        rw [hb0] at f0a f0b f0c
                        try rw [hb1] at f1a f1b
                        try rw [hb2] at f2a f2b
                        try clear hb0 hb1 hb2
                        go_wp2_with fail
                        refine ⟨⟨⟨q3, (unhide Hwa).symm⟩, [], _, rfl, rfl, l1, ?_, ?_, unhide Hl2⟩, unhide Hrl⟩
                        · have := unhide HH; simp at this ⊢; omega
                        · simp
          · have hz1 : ((bs x).toList == ([] : List UInt8)) = false := by rw [ByteArray.toList_eq, bs_data]; simpa using hx
            have hz2 : ((bs x).toList == (⟨#[]⟩ : ByteArray).toList) = false := by rw [ByteArray.toList_eq, bs_data]; simpa using hx
            obtain ⟨u1, u2⟩ := up_dq (hnm hx)
            have hus := up_short hx
            have hdx : dq x = (sp x).length := by simp [dq, hx]
            have Hu := hide (And.intro u2 (And.intro (show dq (upPath x) + (d + 1) + 1 = (sp p).length by omega) (And.intro (show d + 1 ≤ 1001 by omega) (show (bs (upPath x)).size < (bs x).size by rw [bs_size, bs_size]; exact hus))))
            have hul : (upPath x).length ≤ 1000 := by omega
            clear u1 u2 hus hdx hsum hnm hspl
            go_wp2_with fail
            refine (keepUp x _ (by omega)).mono ?_
            rintro e w1 ⟨rfl, q3, hw1⟩
            subst hw1
            go_wp2_with fail
            exact ⟨⟨⟨q2 + q3, rfl⟩, upPath x, d + 1, rfl, by go_num, (unhide Hu).2.2.1, hul, (unhide Hu).2.1, (unhide Hu).1⟩, (unhide Hu).2.2.2⟩
      · have hk3' : (kd == 3) = false := by simpa using hk3
        clear hpf
        go_wp2_with fail
        refine ⟨⟨k + 1, by omega, by go_num, n, (unhide Hw7).symm⟩, ?_⟩
        simp [intOf]; omega
    · obtain rfl : k = l.length := by omega
      go_wp2_with fail
      go_ret
      exact ⟨rfl, n, rfl⟩
end Go.Proofs.YtjmacegibchplaaGreatDoor
