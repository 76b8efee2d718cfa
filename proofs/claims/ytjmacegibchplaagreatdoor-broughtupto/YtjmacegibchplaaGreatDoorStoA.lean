import Derived.Test.YtjmacegibchplaaGreatDoorTreeG
import Derived.Test.YtjmacegibchplaaGreatDoorUplP
/-
  Are two trees the same (the document's own test); is a text one of some (the statements' own).
-/
namespace Go.Proofs.YtjmacegibchplaaGreatDoor
open Go.RowKit
set_option linter.unusedVariables false

def enEq (x y : En) : Bool := x.path.toList == y.path.toList && (x.kind == y.kind && x.data.toList == y.data.toList)
theorem enEq_iff (x y : En) : enEq x y = true ↔ x = y := by
  obtain ⟨p, k, d⟩ := x
  obtain ⟨q, m, e⟩ := y
  simp only [enEq, ByteArray.toList_eq, Bool.and_eq_true, beq_iff_eq, En.mk.injEq]
  constructor
  · rintro ⟨h1, h2, h3⟩
    exact ⟨by rw [← bs_of p, h1, bs_of], h2, by rw [← bs_of d, h3, bs_of]⟩
  · rintro ⟨rfl, rfl, rfl⟩; exact ⟨rfl, rfl, rfl⟩
/-- the i-th of a is one of b -/
def inP (a b : List En) (i : Nat) : Bool := !decide (findP b (a.getD i en0).path.data.toList < 0) && enEq (b.getD (findP b (a.getD i en0).path.data.toList).toNat en0) (a.getD i en0)
def sameP (a b : List En) : Bool := a.length == b.length && (List.range a.length).all (inP a b)
set_option maxRecDepth 100000 in
set_option maxHeartbeats 1000000 in
theorem same_any (x y : List En) (a1 a2 : Option Addr) (c1 c2 : Nat) (w : World) (hx : x.length ≤ maxLen) (hy : y.length ≤ maxLen) (h1 : LiesE w a1 x) (h2 : LiesE w a2 y) :
    Calls Tryz.prog 18 #[.slice a1 x.length c1, .slice a2 y.length c2] w fun e w' => e = .returned (.bool (sameP x y)) ∧ ∃ n, w' = w.drewN n := by
  have hy' := hy
  unfold maxLen at hx hy
  have Hs := hide (show sameP x y = (x.length == y.length && (List.range x.length).all (inP x y)) from rfl)
  by_cases hlen : x.length = y.length
  · have hb : ((x.length : Int) != (y.length : Int)) = false := by simp [hlen]
    have Hl := hide (show (x.length == y.length) = true by simpa using hlen)
    clear hlen
    go_enter Tryz.func18, Tryz.ntmps18
    go_wp2_with fail
    go_loopw [5] (fun i wr => ∃ k : Nat, k ≤ x.length ∧ i = .int .i64 k ∧ (∃ n, wr = w.drewN n) ∧ (List.range k).all (inP x y) = true) (fun i _ => x.length - (intOf i).toNat)
    case atStart => exact ⟨0, by omega, rfl, ⟨0, rfl⟩, rfl⟩
    case round =>
      obtain ⟨k, hk, rfl, ⟨n, hwr⟩, hall⟩ := hrel
      subst hwr
      have Hall := hide hall
      clear hall
      by_cases hlt : k < x.length
      · obtain ⟨b1, o1, rfl, i1⟩ := EntsAt.get h1 hlt
        obtain ⟨p0, p1, p2⟩ := i1 k hlt
        have Hin := hide (show inP x y k = (!decide (findP y x[k].path.data.toList < 0) && enEq (y.getD (findP y x[k].path.data.toList).toNat en0) x[k]) by unfold inP; rw [en_getD x k hlt])
        have Hsu := hide (range_all_succ (inP x y) k)
        have Hat := hide (range_all_at (inP x y) x.length k hlt)
        clear i1
        generalize x[k] = e at *
        obtain ⟨ep, ek, ed⟩ := e
        simp only at p0 p1 p2 Hin
        have q1 : (k : Int) < (x.length : Int) := by omega
        have h2n : LiesE (w.drewN n) a2 y := h2.below (below_drewN (Below.refl _ _) n) (Nat.le_refl _)
        go_wp2_with fail
        refine (find_any y a2 c2 ep _ hy' h2n).mono ?_
        rintro e w1 ⟨rfl, hw1⟩
        subst hw1
        have hbd := findP_bd y ep.data.toList
        generalize findP y ep.data.toList = fi at *
        have p0' : (w.drewN n).cell? ⟨b1, o1 + k * 3, none⟩ = some (.string ep) := p0
        have p1' : (w.drewN n).cell? ⟨b1, o1 + k * 3 + 1, none⟩ = some (.int .i64 ek) := p1
        have p2' : (w.drewN n).cell? ⟨b1, o1 + k * 3 + 2, none⟩ = some (.string ed) := p2
        by_cases hneg : fi < 0
        · have g : decide (fi < 0) = true := by simpa using hneg
          have Hr := hide (show sameP x y = false by rw [unhide Hs, unhide Hat (by rw [unhide Hin, g]; rfl), Bool.and_false])
          clear Hin Hsu Hat
          generalize hw7 : w.drewN n = w7 at *
          have Hw7 := hide hw7
          clear hw7 p0 p1 p2
          go_wp2_with fail
          go_quiet (fail)
          go_wp2
          go_ret
          exact ⟨ret_bool (unhide Hr).symm, n + nq, by rw [← unhide Hw7, World.drewN_drewN]⟩
        · have g : decide (fi < 0) = false := by simpa using hneg
          obtain ⟨m, rfl⟩ : ∃ m : Nat, fi = (m : Int) := ⟨fi.toNat, by omega⟩
          have hm : m < y.length := by omega
          have hm' : (m : Int) < (y.length : Int) := by omega
          obtain ⟨b2, o2, rfl, i2⟩ := EntsAt.get h2n hm
          obtain ⟨r0, r1, r2⟩ := i2 m hm
          rw [Int.toNat_natCast, en_getD y m hm, g] at Hin
          clear i2
          generalize y[m] = z at *
          obtain ⟨zp, zk, zd⟩ := z
          simp only at r0 r1 r2 Hin
          have heq : ∀ w, (Op.equalIn 10000 32 (.agg #[.string zp, .int .i64 zk, .string zd]) (.agg #[.string ep, .int .i64 ek, .string ed])).run Tryz.prog w = .ok (enEq ⟨zp, zk, zd⟩ ⟨ep, ek, ed⟩) w := fun w => by rw [eq_ent]; rfl
          generalize enEq ⟨zp, zk, zd⟩ ⟨ep, ek, ed⟩ = E at *
          generalize hw7 : w.drewN n = w7 at *
          have Hw7 := hide hw7
          clear hw7 p0 p1 p2
          cases E with
          | false =>
            have Hr := hide (show sameP x y = false by rw [unhide Hs, unhide Hat (unhide Hin), Bool.and_false])
            clear Hin Hsu Hat
            go_wp2_with fail
            go_quiet (fail)
            go_wp2
            go_ret
            exact ⟨ret_bool (unhide Hr).symm, n + nq, by rw [← unhide Hw7, World.drewN_drewN]⟩
          | true =>
            have Hr := hide (show (List.range (k + 1)).all (inP x y) = true by rw [unhide Hsu, unhide Hall, unhide Hin]; rfl)
            clear Hin Hsu Hat
            go_wp2_with fail
            go_quiet (fail)
            go_wp2
            go_roundw
            case rel => exact ⟨k + 1, by omega, by go_num, ⟨n + nq, by rw [← unhide Hw7, World.drewN_drewN]⟩, unhide Hr⟩
            case measure => simp [intOf]; omega
      · obtain rfl : k = x.length := by omega
        go_wp2_with fail
        go_ret
        exact ⟨ret_bool (by rw [unhide Hs, unhide Hl, unhide Hall]; rfl), n, rfl⟩
  · have hb : ((x.length : Int) != (y.length : Int)) = true := by simp; omega
    have Hr := hide (show sameP x y = false by rw [unhide Hs, show (x.length == y.length) = false by simpa using hlen]; rfl)
    clear hlen
    go_enter Tryz.func18, Tryz.ntmps18
    go_wp2_with fail
    go_ret
    exact ⟨ret_bool (unhide Hr).symm, 0, rfl⟩
set_option maxHeartbeats 1000000 in
theorem oneOf_any (s : List UInt8) (l : List (List UInt8)) (a : Option Addr) (c : Nat) (w : World) (hl : l.length ≤ maxLen) (h : TextsAt w a l) :
    Calls Tryz.prog 19 #[.string (bs s), .slice a l.length c] w fun e w' => e = .returned (.bool (l.any (· == s))) ∧ w' = w := by
  unfold maxLen at hl
  go_enter Tryz.func19, Tryz.ntmps19
  go_wp2_with fail
  go_loop [5] (fun i => ∃ k : Nat, k ≤ l.length ∧ i = .int .i64 k ∧ (l.take k).any (· == s) = false) (fun i => l.length - (intOf i).toNat)
  case atStart => exact ⟨0, by omega, rfl, rfl⟩
  case round =>
    obtain ⟨k, hk, rfl, hany⟩ := hrel
    have Hany := hide hany
    clear hany
    by_cases hlt : k < l.length
    · obtain ⟨b, o, rfl, hct⟩ : ∃ b o, a = some ⟨b, o, none⟩ ∧ ∀ i (h : i < l.length), w.cell? ⟨b, o + i, none⟩ = some (strVal l[i]) := by
        rcases h with h | h
        · subst h; simp at hlt
        · exact h
      have ck := hct k hlt
      unfold strVal at ck
      have Hs := hide (any_take_succ (· == s) l k hlt)
      have Ha := hide (any_at (· == s) l k hlt)
      clear hct h
      generalize l[k] = x at *
      have hE := str_eq2 x s
      generalize (x == s) = E at *
      have q1 : (k : Int) < (l.length : Int) := by omega
      cases E with
      | true =>
        have Hr := hide (unhide Ha rfl)
        clear Hs Ha
        go_wp2_with fail
        go_ret
        exact ⟨ret_bool (unhide Hr).symm, rfl⟩
      | false =>
        have Hr := hide (show (l.take (k + 1)).any (· == s) = false by rw [unhide Hs, unhide Hany]; rfl)
        clear Hs Ha
        go_wp2_with fail
        go_round
        case rel => exact ⟨k + 1, by omega, by go_num, unhide Hr⟩
        case measure => simp [intOf]; omega
    · obtain rfl : k = l.length := by omega
      have Hr := hide (show l.any (· == s) = false by have := unhide Hany; rwa [List.take_length] at this)
      go_wp2_with fail
      go_ret
      exact ⟨ret_bool (unhide Hr).symm, rfl⟩
end Go.Proofs.YtjmacegibchplaaGreatDoor

/-
  The document's store: where a digest stands, and what.
-/
namespace Go.Proofs.YtjmacegibchplaaGreatDoor
open Go.RowKit
set_option linter.unusedVariables false

/-- the place of a digest -/
def idxP (st : List (List UInt8 × List UInt8)) (d : List UInt8) : Int := match st.findIdx? (fun p => p.1 == d) with
  | some i => (i : Int)
  | none => -1
theorem idx_hit (st : List (List UInt8 × List UInt8)) (d : List UInt8) (k : Nat) (hk : k < st.length) (he : st[k].1 = d) (hno : ∀ j (h : j < st.length), j < k → st[j].1 ≠ d) : idxP st d = (k : Int) := by
  have : st.findIdx? (fun p => p.1 == d) = some k := by
    rw [List.findIdx?_eq_some_iff_getElem]
    exact ⟨hk, by simpa using he, fun j hj => by simpa using hno j (by omega) hj⟩
  unfold idxP
  rw [this]
theorem idx_none (st : List (List UInt8 × List UInt8)) (d : List UInt8) (hno : ∀ j (h : j < st.length), st[j].1 ≠ d) : idxP st d = -1 := by
  have : st.findIdx? (fun p => p.1 == d) = none := by
    rw [List.findIdx?_eq_none_iff]
    intro x hx
    obtain ⟨j, hj, rfl⟩ := List.mem_iff_getElem.1 hx
    simpa using hno j hj
  unfold idxP
  rw [this]
theorem atP_idx : ∀ (st : List (List UInt8 × List UInt8)) (d : List UInt8), (idxP st d = -1 ∧ atP st d = none) ∨ ∃ k, ∃ h : k < st.length, idxP st d = (k : Int) ∧ atP st d = some st[k].2
  | [], d => .inl ⟨rfl, rfl⟩
  | (k, b) :: r, d => by
    by_cases e : k = d
    · refine .inr ⟨0, by simp, ?_, by simp [atP, e]⟩
      exact idx_hit _ _ 0 (by simp) (by simpa using e) (fun j _ h => by omega)
    · rcases atP_idx r d with ⟨h1, h2⟩ | ⟨i, hi, h1, h2⟩
      · refine .inl ⟨idx_none _ _ (fun j hj => ?_), by simp [atP, e, h2]⟩
        cases j with
        | zero => simpa using e
        | succ j =>
          intro hc
          unfold idxP at h1
          split at h1
          · omega
          · rename_i hn
            rw [List.findIdx?_eq_none_iff] at hn
            have hj' : j < r.length := by simpa using hj
            have := hn r[j] (List.getElem_mem hj')
            simp at this hc
            exact this hc
      · refine .inr ⟨i + 1, by simpa using hi, ?_, by simp [atP, e, h2]⟩
        unfold idxP at h1
        split at h1
        · rename_i m hm
          obtain rfl : m = i := by omega
          rw [List.findIdx?_eq_some_iff_getElem] at hm
          obtain ⟨hml, hmp, hmn⟩ := hm
          refine idx_hit _ _ (m + 1) (by simpa using hml) (by simpa using hmp) (fun j hj hlt => ?_)
          cases j with
          | zero => simpa using e
          | succ j => simpa using hmn j (by omega)
        · omega
/-- the document's store in memory -/
def RStore (w : World) (pb : Nat) (room : Int) (st : List (List UInt8 × List UInt8)) : Prop := w.cell? ⟨pb, 0, none⟩ = some (.int .i64 room) ∧
  ∃ a1 c1 a2 c2, w.cell? ⟨pb, 1, none⟩ = some (.slice a1 st.length c1) ∧ w.cell? ⟨pb, 2, none⟩ = some (.slice a2 st.length c2) ∧ TextsAt w a1 (st.map (·.1)) ∧ TextsAt w a2 (st.map (·.2))
theorem textsGet {w : World} {a : Option Addr} {l : List (List UInt8)} (h : TextsAt w a l) {k : Nat} (hk : k < l.length) : ∃ b o, a = some ⟨b, o, none⟩ ∧ w.cell? ⟨b, o + k, none⟩ = some (strVal l[k]) := by
  rcases h with h | ⟨b, o, e, h⟩
  · subst h; simp at hk
  · exact ⟨b, o, e, h k hk⟩
set_option maxHeartbeats 1000000 in
theorem refAt_any (st : List (List UInt8 × List UInt8)) (pb : Nat) (room : Int) (d : List UInt8) (w : World) (hl : st.length ≤ maxLen) (h : RStore w pb room st) :
    Calls Tryz.prog 158 #[.pointer (some ⟨pb, 0, none⟩), .string (bs d)] w fun e w' => e = .returned (.int .i64 (idxP st d)) ∧ w' = w := by
  unfold maxLen at hl
  obtain ⟨-, a1, c1, a2, c2, f1, -, t1, -⟩ := h
  go_enter Tryz.func158, Tryz.ntmps158
  go_wp2_with fail
  go_loop [5] (fun i => ∃ k : Nat, k ≤ st.length ∧ i = .int .i64 k ∧ ∀ j (h : j < st.length), j < k → st[j].1 ≠ d) (fun i => st.length - (intOf i).toNat)
  case atStart => exact ⟨0, by omega, rfl, fun j _ h => by omega⟩
  case round =>
    obtain ⟨k, hk, rfl, hno⟩ := hrel
    have Hno := hide hno
    clear hno
    by_cases hlt : k < st.length
    · obtain ⟨b, o, rfl, hc⟩ := textsGet t1 (k := k) (by simpa using hlt)
      rw [List.getElem_map] at hc
      have q1 : (k : Int) < (st.length : Int) := by omega
      have Hhit := hide (fun he => idx_hit st d k hlt he (unhide Hno))
      have Hnx := hide (show st[k].1 ≠ d → ∀ j (h : j < st.length), j < k + 1 → st[j].1 ≠ d from fun hne j h hj => by
        rcases Nat.lt_or_ge j k with h1 | h1
        · exact unhide Hno j h h1
        · obtain rfl : j = k := by omega
          exact hne)
      unfold strVal at hc
      generalize st[k].1 = x at *
      have hE := str_eq2 x d
      clear t1
      by_cases heq : x = d
      · have hx : (x == d) = true := by simpa using heq
        rw [hx] at hE
        have Hr := hide (unhide Hhit heq)
        clear heq hx
        go_wp2_with fail
        go_ret
        exact ⟨ret_int (unhide Hr).symm, rfl⟩
      · have hx : (x == d) = false := by simpa using heq
        rw [hx] at hE
        go_wp2_with fail
        go_round
        case rel => exact ⟨k + 1, by omega, by go_num, unhide Hnx heq⟩
        case measure => simp [intOf]; omega
    · obtain rfl : k = st.length := by omega
      go_wp2_with fail
      go_ret
      exact ⟨ret_int (by rw [idx_none st d (fun j h => unhide Hno j h h)]), rfl⟩
def getB (st : List (List UInt8 × List UInt8)) (d : List UInt8) : List UInt8 := (atP st d).getD []
def getE (st : List (List UInt8 × List UInt8)) (d : List UInt8) : Int := if (atP st d).isSome then 0 else 7
set_option maxHeartbeats 1000000 in
theorem refGet_any (st : List (List UInt8 × List UInt8)) (pb : Nat) (room : Int) (d : List UInt8) (w : World) (hl : st.length ≤ maxLen) (h : RStore w pb room st) :
    Calls Tryz.prog 119 #[.pointer (some ⟨pb, 0, none⟩), .string (bs d)] w fun e w' => e = .returned (.tuple #[.string (bs (getB st d)), .int .i64 (getE st d)]) ∧ w' = w := by
  have hat := fun w' (hw : RStore w' pb room st) => refAt_any st pb room d w' hl hw
  unfold maxLen at hl
  have h0 := h
  have Hg := hide (show getB st d = (atP st d).getD [] ∧ getE st d = if (atP st d).isSome then 0 else 7 from ⟨rfl, rfl⟩)
  obtain ⟨-, a1, c1, a2, c2, f1, f2, t1, t2⟩ := h
  rcases atP_idx st d with ⟨i1, i2⟩ | ⟨k, hk, i1, i2⟩
  · have Hr := hide (show getB st d = [] ∧ getE st d = 7 by rw [(unhide Hg).1, (unhide Hg).2, i2]; exact ⟨rfl, rfl⟩)
    go_enter Tryz.func119, Tryz.ntmps119
    go_wp2_with (go_at_call 158; refine (hat _ h0).mono ?_; rintro e w' ⟨rfl, rfl⟩; rw [i1])
    go_ret2
    exact ⟨by rw [(unhide Hr).1, (unhide Hr).2]; rfl, rfl⟩
  · obtain ⟨b, o, rfl, hc⟩ := textsGet t2 (k := k) (by simpa using hk)
    rw [List.getElem_map] at hc
    unfold strVal at hc
    have Hr := hide (show getB st d = st[k].2 ∧ getE st d = 0 by rw [(unhide Hg).1, (unhide Hg).2, i2]; exact ⟨rfl, rfl⟩)
    have q1 : (k : Int) < (st.length : Int) := by omega
    generalize st[k].2 = x at *
    go_enter Tryz.func119, Tryz.ntmps119
    go_wp2_with (go_at_call 158; refine (hat _ h0).mono ?_; rintro e w' ⟨rfl, rfl⟩; rw [i1])
    go_ret2
    exact ⟨by rw [(unhide Hr).1, (unhide Hr).2]; rfl, rfl⟩
end Go.Proofs.YtjmacegibchplaaGreatDoor
