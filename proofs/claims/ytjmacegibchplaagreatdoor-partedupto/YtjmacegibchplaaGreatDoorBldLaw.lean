import Derived.Test.YtjmacegibchplaaGreatDoorTWc
import Derived.Test.YtjmacegibchplaaGreatDoorTreeF
import Derived.OwnWalk
/-
  The program's test of a tree is the document's. Plain lists, no walk.
-/
namespace Go.Proofs.YtjmacegibchplaaGreatDoor
set_option linter.unusedVariables false

theorem dataOk_bad (x : En) : dataOk x.kind x.data.data.toList = !kindBad x := by
  obtain ⟨pa, k, d⟩ := x
  unfold dataOk kindBad
  simp only
  by_cases h0 : k = 0
  · subst h0
    rw [ByteArray.toList_eq]
    cases d.data.toList <;> simp
  · rw [if_neg h0]
    by_cases h12 : k = 1 ∨ k = 2
    · rw [if_pos h12]
      have hs : (d.data.toList.length : Int) = (d.size : Int) := by simp
      rw [hs]
      rcases h12 with rfl | rfl <;> simp <;> (by_cases h : (d.size : Int) ≤ 60 <;> simp [h] <;> omega)
    · rw [if_neg h12]
      have h1 : ¬ k = 1 := fun h => h12 (.inl h)
      have h2 : ¬ k = 2 := fun h => h12 (.inr h)
      by_cases h3 : k = 3
      · subst h3; simp
      · rw [if_neg h3]
        have : k < 0 ∨ 3 < k := by omega
        rcases this with h | h <;> simp [h]
theorem find_at (l : List En) (p : List UInt8) : (∃ j, ∃ h : j < l.length, findP l p = (j : Int) ∧ l[j].path.data.toList = p ∧ l.find? (fun e => e.path.data.toList == p) = some l[j] ∧ ∀ k (hk : k < j), l[k].path.data.toList ≠ p) ∨ (findP l p = -1 ∧ l.find? (fun e => e.path.data.toList == p) = none) := by
  unfold findP
  cases hf : l.findIdx? (fun e => e.path.data.toList == p) with
  | none =>
    right
    refine ⟨rfl, ?_⟩
    rw [List.findIdx?_eq_none_iff] at hf
    rw [List.find?_eq_none]
    intro x hx
    simpa using hf x hx
  | some j =>
    left
    have hj := List.findIdx?_eq_some_iff_getElem.1 hf
    obtain ⟨h, h1, h2⟩ := hj
    refine ⟨j, h, rfl, by simpa using h1, ?_, fun k hk => by simpa using h2 k hk⟩
    rw [List.find?_eq_some_iff_getElem]
    exact ⟨h1, j, h, rfl, fun k hk => by simpa using h2 k hk⟩
theorem treeB_iff (l : List En) : treeB l = true ↔ Tree l := by
  constructor
  · intro h
    simp only [treeB, Bool.and_eq_true, decide_eq_true_eq, List.all_eq_true, List.mem_range] at h
    obtain ⟨⟨h40, h1⟩, h2⟩ := h
    refine ⟨h40, fun i hi => ?_⟩
    have g1 := h1 i hi
    have g2 := h2 i hi
    simp only [ok1, entOk, Bool.and_eq_true, pathOk, decide_eq_true_eq, dataOk_bad] at g1
    obtain ⟨gk, ⟨gp, gn⟩, gd⟩ := g1
    have hpi : pathAt l i = (l.getD i en0).path.data.toList := rfl
    have hfind : findP l (pathAt l i) = (i : Int) := by
      rcases find_at l (pathAt l i) with ⟨j, hj, e, ep, _, hlt⟩ | ⟨_, hn⟩
      · rw [e]
        have hji : ¬ j < i := fun hji => by
          have : kindOf (l.take i) (pathAt l i) = none := by simpa using gk
          unfold kindOf at this
          simp only [Option.map_eq_none_iff, List.find?_eq_none] at this
          exact this l[j] (List.mem_take_iff_getElem.2 ⟨j, by omega, rfl⟩) (by simpa using ep)
        have hij : ¬ i < j := fun hij => hlt i hij (by rw [hpi, en_getD l i hi])
        have : i = j := by omega
        rw [this]
      · rw [List.find?_eq_none] at hn
        exact absurd (show (l[i].path.data.toList == pathAt l i) = true by rw [hpi, en_getD l i hi]; simp) (hn l[i] (List.getElem_mem hi))
    have hup : upBad l (pathAt l i) = false := by
      unfold upBad
      rcases cut_cases (pathAt l i) with ⟨_, e1, _, _⟩ | ⟨a, n, e, _, e1, e2, _⟩
      · rw [if_pos (by rw [e1]; simp)]
      · have hane : a ≠ [] := by
          intro h0
          subst h0
          have : ([] : List UInt8) ∈ sp (pathAt l i) := by rw [e1]; simp [sp]
          rw [List.all_eq_true] at gn
          have := gn [] this
          simp [P.isName] at this
        have hlen : ¬ (sp (pathAt l i)).length ≤ 1 := by rw [e1]; simp; exact sp_ne a
        rw [if_neg hlen, e2]
        have hk0 : kindOf l a = some 0 := by
          simp only [ok2, Bool.or_eq_true] at g2
          unfold upAt at g2
          rw [e2] at g2
          rcases g2 with g2 | g2
          · exact absurd (List.isEmpty_iff.1 g2) hane
          · simpa using g2
        unfold kindOf at hk0
        rcases find_at l a with ⟨j, hj, ej, _, hs, _⟩ | ⟨_, hn⟩
        · rw [hs] at hk0
          rw [ej, if_neg (by omega), Int.toNat_natCast, en_getD l j hj]
          have hk : l[j].kind = 0 := by simpa using hk0
          simp [hk]
        · rw [hn] at hk0; simp at hk0
    simp only [fineP, Bool.and_eq_true, decide_eq_true_eq, beq_iff_eq, Bool.not_eq_true']
    exact ⟨⟨⟨⟨gp, gn⟩, by simpa using gd⟩, hup⟩, hfind⟩
  · intro ht
    simp only [treeB, Bool.and_eq_true, decide_eq_true_eq, List.all_eq_true, List.mem_range]
    refine ⟨⟨ht.len, fun i hi => ?_⟩, fun i hi => ?_⟩
    · have hf := ht.fine i hi
      have hpi : pathAt l i = (l.getD i en0).path.data.toList := rfl
      simp only [fineP, Bool.and_eq_true, decide_eq_true_eq, beq_iff_eq, Bool.not_eq_true'] at hf
      obtain ⟨⟨⟨⟨gp, gn⟩, gd⟩, gu⟩, gf⟩ := hf
      simp only [ok1, entOk, Bool.and_eq_true, pathOk, decide_eq_true_eq, dataOk_bad]
      refine ⟨?_, ⟨gp, gn⟩, by rw [gd]; rfl⟩
      rw [Option.isNone_iff_eq_none]
      unfold kindOf
      rw [Option.map_eq_none_iff, List.find?_eq_none]
      intro x hx hp
      obtain ⟨j, hj, rfl⟩ := List.getElem_of_mem hx
      rw [List.length_take] at hj
      rw [List.getElem_take] at hp
      have hjl : j < l.length := by omega
      have := tree_inj l ht j i hjl hi (by have : l[j].path.data.toList = pathAt l i := by simpa using hp
                                           rw [this, hpi, en_getD l i hi])
      omega
    · simp only [ok2, Bool.or_eq_true]
      have hf := ht.fine i hi
      simp only [fineP, Bool.and_eq_true, Bool.not_eq_true'] at hf
      have gu : upBad l (pathAt l i) = false := hf.1.2
      unfold upBad at gu
      rcases cut_cases (pathAt l i) with ⟨_, _, e2, _⟩ | ⟨a, n, e, _, e1, e2, _⟩
      · left; unfold upAt; rw [e2]; rfl
      · right
        have hlen : ¬ (sp (pathAt l i)).length ≤ 1 := by rw [e1]; simp; exact sp_ne a
        rw [if_neg hlen, e2] at gu
        unfold upAt
        rw [e2]
        rcases find_at l a with ⟨j, hj, ej, _, hs, _⟩ | ⟨hn, _⟩
        · rw [ej, if_neg (by omega), Int.toNat_natCast, en_getD l j hj] at gu
          have hk : l[j].kind = 0 := by simpa using gu
          unfold kindOf
          rw [hs]
          simp [hk]
        · rw [hn, if_pos (by omega)] at gu; simp at gu
theorem wrong_no (l : List En) (h : ¬ Tree l) : wrongP l = 1 := by
  rw [wrongP_eq]
  by_cases h40 : 40 < l.length
  · rw [if_pos h40]
  · rw [if_neg h40]
    by_cases ha : (List.range l.length).all (fineP l) = false
    · rw [if_pos ha]
    · exfalso
      refine h ⟨by omega, fun i hi => ?_⟩
      have : (List.range l.length).all (fineP l) = true := by simpa using ha
      exact List.all_eq_true.1 this i (by simpa using hi)
theorem wrong_yes (l : List En) (h : Tree l) : wrongP l = if l.any escP then 2 else 0 := by
  rw [wrongP_eq, if_neg (by have := h.len; omega), if_neg]
  have : (List.range l.length).all (fineP l) = true := List.all_eq_true.2 (fun i hi => h.fine i (by simpa using hi))
  rw [this]; simp
end Go.Proofs.YtjmacegibchplaaGreatDoor

/-
  The document's Build: its contract.
-/
namespace Go.Proofs.YtjmacegibchplaaGreatDoor
open Go.RowKit
set_option linter.unusedVariables false

theorem tree_of (l : List En) (h : wrongP l = 0) : Tree l := by
  rw [wrongP_eq] at h
  split at h
  · simp at h
  · rename_i h40
    split at h
    · simp at h
    · rename_i ha
      refine ⟨by omega, fun i hi => ?_⟩
      have : (List.range l.length).all (fineP l) = true := by simpa using ha
      exact List.all_eq_true.1 this i (by simpa using hi)
/-- how a Build of the document ends -/
def BuildEnd (l : List En) (base : Nat) (e : Ending) (w' : World) : Prop :=
  (wrongP l ≠ 0 ∧ e = .returned (.tuple #[.string ⟨#[]⟩, .slice none 0 0, .int .i64 (wrongP l)])) ∨
  (wrongP l = 0 ∧ builtP l = none ∧ e = .returned (.tuple #[.string ⟨#[]⟩, .slice none 0 0, .int .i64 3])) ∨
  ∃ out v, wrongP l = 0 ∧ builtP l = some out ∧ e = .returned (.tuple #[.string (bs (P.digest (blobP l 6 []))), v, .int .i64 0]) ∧ OwnsS w' base v out
set_option maxHeartbeats 1000000 in
theorem refBuild_any (l : List En) (a : Option Addr) (c : Nat) (w : World) (hl : l.length ≤ maxLen) (hi : LiesE w a l) (hf : TFit l) :
    Calls Tryz.prog 17 #[.slice a l.length c] w fun e w' => Below w.heap.size w w' ∧ BuildEnd l w.heap.size e w' := by
  go_enter Tryz.func17, Tryz.ntmps17
  go_wp2_with fail
  refine (wrong_any l a c w hl hi hf).mono ?_
  rintro e w1 ⟨rfl, hb1⟩
  obtain ⟨W, hW⟩ : ∃ W, wrongP l = W := ⟨_, rfl⟩
  by_cases h0 : W = 0
  · subst h0
    have ht := tree_of l hW
    have HW := hide hW
    rw [hW]
    clear hW
    go_wp2_with fail
    refine (built_any l ht (fun i h => (hf i h).2) a c w1 (hi.below hb1 (Nat.le_refl _))).mono ?_
    rintro e w2 ⟨hb2, h2⟩
    have hw2 := hb1.trans (hb2.mono hb1.size)
    rcases h2 with ⟨hn, rfl⟩ | ⟨out, v, hs, rfl, ho⟩
    · have Hn := hide hn
      clear hn
      go_wp2_with fail
      go_ret3
      exact ⟨hw2, .inr (.inl ⟨unhide HW, unhide Hn, rfl⟩)⟩
    · have Hs := hide hs
      clear hs
      go_wp2_with fail
      refine (blob_any l ht (fun i h => (hf i h).2) 6 [] a c w2 (hi.below hw2 (Nat.le_refl _)) (.inl rfl) (by simp) (by rw [dep_nil]; omega) (by rw [dep_nil]; omega)).mono ?_
      rintro e w3 ⟨rfl, hb3⟩
      have hw3 := hw2.trans (hb3.mono hw2.size)
      have ho3 := (ho.below hb3).weak hb1.size
      have hsm := blob_small l ht 6 [] (.inl rfl)
      clear ho hb3
      generalize hB : blobP l 6 [] = B at *
      have HB := hide hB
      clear hB
      go_wp2_with fail
      refine (refDigest_bs B _ (by omega)).mono ?_
      rintro e w4 ⟨rfl, n4, hw4⟩
      subst hw4
      go_wp2_with fail
      go_ret3
      exact ⟨below_drewN hw3 _, .inr (.inr ⟨out, v, unhide HW, unhide Hs, by rw [unhide HB]; rfl, ho3.below (below_drewN (Below.refl _ _) _)⟩)⟩
  · have g : (W != 0) = true := by simpa using h0
    have HW := hide hW
    rw [hW]
    clear hW
    go_wp2_with fail
    go_ret3
    exact ⟨hb1, .inl ⟨by rw [unhide HW]; exact h0, by rw [unhide HW]; rfl⟩⟩
set_option maxHeartbeats 1000000 in
theorem sameTexts_same (l : List (List UInt8)) (a1 a2 : Option Addr) (c1 c2 : Nat) (w : World) (hl : l.length ≤ maxLen) (h1 : TextsAt w a1 l) (h2 : TextsAt w a2 l) :
    Calls Tryz.prog 41 #[.slice a1 l.length c1, .slice a2 l.length c2] w fun e w' => e = .returned (.bool true) ∧ ∃ n, w' = w.drewN n := by
  unfold maxLen at hl
  have hb : ((l.length : Int) != (l.length : Int)) = false := by simp
  go_enter Tryz.func41, Tryz.ntmps41
  go_wp2_with fail
  go_loopw [5] (fun i wr => ∃ k : Nat, k ≤ l.length ∧ i = .int .i64 k ∧ ∃ n, wr = w.drewN n) (fun i _ => l.length - (intOf i).toNat)
  case atStart => exact ⟨0, by omega, rfl, 0, rfl⟩
  case round =>
    obtain ⟨k, hk, rfl, n, hwr⟩ := hrel
    subst hwr
    by_cases hlt : k < l.length
    · obtain ⟨b1, o1, rfl, i1⟩ : ∃ b o, a1 = some ⟨b, o, none⟩ ∧ ∀ i (h : i < l.length), w.cell? ⟨b, o + i, none⟩ = some (strVal l[i]) := by
        rcases h1 with h | h
        · subst h; simp at hlt
        · exact h
      obtain ⟨b2, o2, rfl, i2⟩ : ∃ b o, a2 = some ⟨b, o, none⟩ ∧ ∀ i (h : i < l.length), w.cell? ⟨b, o + i, none⟩ = some (strVal l[i]) := by
        rcases h2 with h | h
        · subst h; simp at hlt
        · exact h
      have p0 := i1 k hlt
      have r0 := i2 k hlt
      clear i1 i2
      generalize l[k] = x at *
      unfold strVal at p0 r0
      have hlt' : (k : Int) < (l.length : Int) := by omega
      have heq : ((bs x).toList == (bs x).toList) = true := by simp
      go_wp2_with fail
      go_quiet (fail)
      go_wp2
      go_roundw
      case rel => exact ⟨k + 1, by omega, by go_num, _, rfl⟩
      case measure => simp [intOf]; omega
    · obtain rfl : k = l.length := by omega
      go_wp2_with fail
      go_ret
      exact ⟨rfl, n, rfl⟩
end Go.Proofs.YtjmacegibchplaaGreatDoor

/-
  Are two trees the same (the document's own test); is a text one of some (the statements' own).
-/
namespace Go.Proofs.YtjmacegibchplaaGreatDoor
open Go.RowKit
set_option linter.unusedVariables false

def enEq (x y : En) : Bool := x.path.toList == y.path.toList && (x.kind == y.kind && x.data.toList == y.data.toList)
theorem enEq_iff (x y : En) : enEq x y = true ↔ x = y := by
  obtain ⟨p, k, d⟩ := x
  obtain ⟨q, m, e⟩ := y
  simp only [enEq, ByteArray.toList_eq, Bool.and_eq_true, beq_iff_eq, En.mk.injEq]
  constructor
  · rintro ⟨h1, h2, h3⟩
    exact ⟨by rw [← bs_of p, h1, bs_of], h2, by rw [← bs_of d, h3, bs_of]⟩
  · rintro ⟨rfl, rfl, rfl⟩; exact ⟨rfl, rfl, rfl⟩
/-- the i-th of a is one of b -/
def inP (a b : List En) (i : Nat) : Bool := !decide (findP b (a.getD i en0).path.data.toList < 0) && enEq (b.getD (findP b (a.getD i en0).path.data.toList).toNat en0) (a.getD i en0)
def sameP (a b : List En) : Bool := a.length == b.length && (List.range a.length).all (inP a b)
set_option maxRecDepth 100000 in
set_option maxHeartbeats 1000000 in
theorem same_any (x y : List En) (a1 a2 : Option Addr) (c1 c2 : Nat) (w : World) (hx : x.length ≤ maxLen) (hy : y.length ≤ maxLen) (h1 : LiesE w a1 x) (h2 : LiesE w a2 y) :
    Calls Tryz.prog 18 #[.slice a1 x.length c1, .slice a2 y.length c2] w fun e w' => e = .returned (.bool (sameP x y)) ∧ ∃ n, w' = w.drewN n := by
  have hy' := hy
  unfold maxLen at hx hy
  have Hs := hide (show sameP x y = (x.length == y.length && (List.range x.length).all (inP x y)) from rfl)
  by_cases hlen : x.length = y.length
  · have hb : ((x.length : Int) != (y.length : Int)) = false := by simp [hlen]
    have Hl := hide (show (x.length == y.length) = true by simpa using hlen)
    clear hlen
    go_enter Tryz.func18, Tryz.ntmps18
    go_wp2_with fail
    go_loopw [5] (fun i wr => ∃ k : Nat, k ≤ x.length ∧ i = .int .i64 k ∧ (∃ n, wr = w.drewN n) ∧ (List.range k).all (inP x y) = true) (fun i _ => x.length - (intOf i).toNat)
    case atStart => exact ⟨0, by omega, rfl, ⟨0, rfl⟩, rfl⟩
    case round =>
      obtain ⟨k, hk, rfl, ⟨n, hwr⟩, hall⟩ := hrel
      subst hwr
      have Hall := hide hall
      clear hall
      by_cases hlt : k < x.length
      · obtain ⟨b1, o1, rfl, i1⟩ := EntsAt.get h1 hlt
        obtain ⟨p0, p1, p2⟩ := i1 k hlt
        have Hin := hide (show inP x y k = (!decide (findP y x[k].path.data.toList < 0) && enEq (y.getD (findP y x[k].path.data.toList).toNat en0) x[k]) by unfold inP; rw [en_getD x k hlt])
        have Hsu := hide (range_all_succ (inP x y) k)
        have Hat := hide (range_all_at (inP x y) x.length k hlt)
        clear i1
        generalize x[k] = e at *
        obtain ⟨ep, ek, ed⟩ := e
        simp only at p0 p1 p2 Hin
        have q1 : (k : Int) < (x.length : Int) := by omega
        have h2n : LiesE (w.drewN n) a2 y := h2.below (below_drewN (Below.refl _ _) n) (Nat.le_refl _)
        go_wp2_with fail
        refine (find_any y a2 c2 ep _ hy' h2n).mono ?_
        rintro e w1 ⟨rfl, hw1⟩
        subst hw1
        have hbd := findP_bd y ep.data.toList
        generalize findP y ep.data.toList = fi at *
        have p0' : (w.drewN n).cell? ⟨b1, o1 + k * 3, none⟩ = some (.string ep) := p0
        have p1' : (w.drewN n).cell? ⟨b1, o1 + k * 3 + 1, none⟩ = some (.int .i64 ek) := p1
        have p2' : (w.drewN n).cell? ⟨b1, o1 + k * 3 + 2, none⟩ = some (.string ed) := p2
        by_cases hneg : fi < 0
        · have g : decide (fi < 0) = true := by simpa using hneg
          have Hr := hide (show sameP x y = false by rw [unhide Hs, unhide Hat (by rw [unhide Hin, g]; rfl), Bool.and_false])
          clear Hin Hsu Hat
          generalize hw7 : w.drewN n = w7 at *
          have Hw7 := hide hw7
          clear hw7 p0 p1 p2
          go_wp2_with fail
          go_quiet (fail)
          go_wp2
          go_ret
          exact ⟨ret_bool (unhide Hr).symm, n + nq, by rw [← unhide Hw7, World.drewN_drewN]⟩
        · have g : decide (fi < 0) = false := by simpa using hneg
          obtain ⟨m, rfl⟩ : ∃ m : Nat, fi = (m : Int) := ⟨fi.toNat, by omega⟩
          have hm : m < y.length := by omega
          have hm' : (m : Int) < (y.length : Int) := by omega
          obtain ⟨b2, o2, rfl, i2⟩ := EntsAt.get h2n hm
          obtain ⟨r0, r1, r2⟩ := i2 m hm
          rw [Int.toNat_natCast, en_getD y m hm, g] at Hin
          clear i2
          generalize y[m] = z at *
          obtain ⟨zp, zk, zd⟩ := z
          simp only at r0 r1 r2 Hin
          have heq : ∀ w, (Op.equalIn 10000 32 (.agg #[.string zp, .int .i64 zk, .string zd]) (.agg #[.string ep, .int .i64 ek, .string ed])).run Tryz.prog w = .ok (enEq ⟨zp, zk, zd⟩ ⟨ep, ek, ed⟩) w := fun w => by rw [eq_ent]; rfl
          generalize enEq ⟨zp, zk, zd⟩ ⟨ep, ek, ed⟩ = E at *
          generalize hw7 : w.drewN n = w7 at *
          have Hw7 := hide hw7
          clear hw7 p0 p1 p2
          cases E with
          | false =>
            have Hr := hide (show sameP x y = false by rw [unhide Hs, unhide Hat (unhide Hin), Bool.and_false])
            clear Hin Hsu Hat
            go_wp2_with fail
            go_quiet (fail)
            go_wp2
            go_ret
            exact ⟨ret_bool (unhide Hr).symm, n + nq, by rw [← unhide Hw7, World.drewN_drewN]⟩
          | true =>
            have Hr := hide (show (List.range (k + 1)).all (inP x y) = true by rw [unhide Hsu, unhide Hall, unhide Hin]; rfl)
            clear Hin Hsu Hat
            go_wp2_with fail
            go_quiet (fail)
            go_wp2
            go_roundw
            case rel => exact ⟨k + 1, by omega, by go_num, ⟨n + nq, by rw [← unhide Hw7, World.drewN_drewN]⟩, unhide Hr⟩
            case measure => simp [intOf]; omega
      · obtain rfl : k = x.length := by omega
        go_wp2_with fail
        go_ret
        exact ⟨ret_bool (by rw [unhide Hs, unhide Hl, unhide Hall]; rfl), n, rfl⟩
  · have hb : ((x.length : Int) != (y.length : Int)) = true := by simp; omega
    have Hr := hide (show sameP x y = false by rw [unhide Hs, show (x.length == y.length) = false by simpa using hlen]; rfl)
    clear hlen
    go_enter Tryz.func18, Tryz.ntmps18
    go_wp2_with fail
    go_ret
    exact ⟨ret_bool (unhide Hr).symm, 0, rfl⟩
set_option maxHeartbeats 1000000 in
theorem oneOf_any (s : List UInt8) (l : List (List UInt8)) (a : Option Addr) (c : Nat) (w : World) (hl : l.length ≤ maxLen) (h : TextsAt w a l) :
    Calls Tryz.prog 19 #[.string (bs s), .slice a l.length c] w fun e w' => e = .returned (.bool (l.any (· == s))) ∧ w' = w := by
  unfold maxLen at hl
  go_enter Tryz.func19, Tryz.ntmps19
  go_wp2_with fail
  go_loop [5] (fun i => ∃ k : Nat, k ≤ l.length ∧ i = .int .i64 k ∧ (l.take k).any (· == s) = false) (fun i => l.length - (intOf i).toNat)
  case atStart => exact ⟨0, by omega, rfl, rfl⟩
  case round =>
    obtain ⟨k, hk, rfl, hany⟩ := hrel
    have Hany := hide hany
    clear hany
    by_cases hlt : k < l.length
    · obtain ⟨b, o, rfl, hct⟩ : ∃ b o, a = some ⟨b, o, none⟩ ∧ ∀ i (h : i < l.length), w.cell? ⟨b, o + i, none⟩ = some (strVal l[i]) := by
        rcases h with h | h
        · subst h; simp at hlt
        · exact h
      have ck := hct k hlt
      unfold strVal at ck
      have Hs := hide (any_take_succ (· == s) l k hlt)
      have Ha := hide (any_at (· == s) l k hlt)
      clear hct h
      generalize l[k] = x at *
      have hE := str_eq2 x s
      generalize (x == s) = E at *
      have q1 : (k : Int) < (l.length : Int) := by omega
      cases E with
      | true =>
        have Hr := hide (unhide Ha rfl)
        clear Hs Ha
        go_wp2_with fail
        go_ret
        exact ⟨ret_bool (unhide Hr).symm, rfl⟩
      | false =>
        have Hr := hide (show (l.take (k + 1)).any (· == s) = false by rw [unhide Hs, unhide Hany]; rfl)
        clear Hs Ha
        go_wp2_with fail
        go_round
        case rel => exact ⟨k + 1, by omega, by go_num, unhide Hr⟩
        case measure => simp [intOf]; omega
    · obtain rfl : k = l.length := by omega
      have Hr := hide (show l.any (· == s) = false by have := unhide Hany; rwa [List.take_length] at this)
      go_wp2_with fail
      go_ret
      exact ⟨ret_bool (unhide Hr).symm, rfl⟩
end Go.Proofs.YtjmacegibchplaaGreatDoor

/-
  One Build held against the document's, as the statements do: over any Build that answers as the document's.
-/
namespace Go.Proofs.YtjmacegibchplaaGreatDoor
open Go.RowKit
set_option linter.unusedVariables false

/-- what is asked of the world, and stays -/
def Stays (G : World → Prop) : Prop := ∀ w w', G w → Below w.heap.size w w' → G w'
/-- the program's Build answers as the document's, in every world of which G holds -/
def ProgBuild (G : World → Prop) : Prop := ∀ (l : List En) (a : Option Addr) (c : Nat) (w : World), G w → l.length ≤ maxLen → LiesE w a l → TFit l →
  Calls Tryz.prog 24 #[.slice a l.length c] w fun e w' => Below w.heap.size w w' ∧ BuildEnd l w.heap.size e w'
theorem entriesOf_any (l : List En) (a : Option Addr) (c : Nat) (w : World) (hl : l.length * 40 ≤ 140737488351232) (hi : LiesE w a l) (hn : a = none → l = [] ∧ c = 0) :
    Calls Tryz.prog 15 #[.slice a l.length c] w fun e w' => ∃ a' c', e = .returned (.slice a' l.length c') ∧ LiesE w' a' l ∧ Below w.heap.size w w' ∧
      ∀ w2, Below w'.heap.size w' w2 → Calls Tryz.prog 16 #[.slice a' l.length c', .slice a l.length c] w2 fun e w3 => e = .returned (.bool true) ∧ ∃ n, w3 = w2.drewN n := by
  cases a with
  | none =>
    obtain ⟨rfl, rfl⟩ := hn rfl
    refine (entriesOf_nil w).mono ?_
    rintro e w' ⟨rfl, rfl⟩
    exact ⟨none, 0, rfl, .inl rfl, Below.refl _ _, fun w2 _ => stillEntries_nil w2⟩
  | some ad =>
    refine (entriesOf_some l ad c w hl hi).mono ?_
    rintro e w' ⟨rfl, hm, hb⟩
    refine ⟨_, _, rfl, .inr ⟨w.heap.size, 0, rfl, fun i h => ?_⟩, hb, fun w2 h2 => ?_⟩
    · have := hm i (by rw [emarked_len l 8 (by omega)]; omega)
      rwa [emarked_lo l i h] at this
    · exact stillEntries_some l w.heap.size (some ad) c w2 hl (hm.below h2 (Nat.le_refl _)) ((hi.below hb (Nat.le_refl _)).below h2 (Nat.le_refl _))
def outOf (l : List En) : List (List UInt8) := if wrongP l = 0 then (builtP l).getD [] else []
theorem outG_len (A : List (List UInt8)) : ∀ f last out, outG A f last = some out → out.length ≤ f
  | 0, _, out, h => by simp [outG] at h; subst h; simp
  | f + 1, last, out, h => by
    simp only [outG] at h
    split at h
    · simp at h; subst h; simp
    · split at h
      · simp at h
      · cases ho : outG A f (P.digest (A.getD (nxtD A last).toNat [])) with
        | none => rw [ho] at h; simp at h
        | some r =>
          rw [ho] at h
          have := outG_len A f _ r ho
          simp at h; subst h; simp; omega
theorem builtP_len (l : List En) (ht : Tree l) (out : List (List UInt8)) (h : builtP l = some out) : out.length ≤ 100 := by
  have h1 := outG_len _ _ _ out h
  have h2 := allTo_len l l.length (Nat.le_refl _)
  have := ht.len
  unfold allP at h1
  omega
set_option maxRecDepth 100000 in
set_option maxHeartbeats 1000000 in
theorem built_law {G : World → Prop} (hS : Stays G) (hP : ProgBuild G) (l : List En) (a : Option Addr) (c : Nat) (w : World) (hG : G w) (hl : l.length * 40 ≤ 140737488351232) (hi : LiesE w a l) (hn : a = none → l = [] ∧ c = 0) (hf : TFit l) :
    Calls Tryz.prog 12 #[.slice a l.length c] w fun e w' => ∃ v, e = .returned (.tuple #[v, .bool true]) ∧ OwnsS w' w.heap.size v (outOf l) ∧ Below w.heap.size w w' := by
  have hlm : l.length ≤ maxLen := by unfold maxLen; omega
  go_enter Tryz.func12, Tryz.ntmps12
  go_wp2_with fail
  refine (entriesOf_any l a c w hl hi hn).mono ?_
  rintro e w1 ⟨a', c', rfl, hi1, hb1, hstill⟩
  have Hstill := hide hstill
  clear hstill
  go_wp2_with fail
  refine (hP l a' c' w1 (hS _ _ hG hb1) hlm hi1 hf).mono ?_
  rintro e w2 ⟨hb2, h2⟩
  have hw2 := hb1.trans (hb2.mono hb1.size)
  have hi2 := hi.below hw2 (Nat.le_refl _)
  have hsame := sameTexts_same
  rcases h2 with ⟨hw, rfl⟩ | ⟨hw, hbu, rfl⟩ | ⟨out, v, hw, hbu, rfl, ho⟩
  · have Hw := hide hw
    have Ho := hide (show outOf l = [] by unfold outOf; rw [if_neg hw])
    have g : (wrongP l != 0) = true := by simpa using hw
    clear hw hsame
    go_wp2_with fail
    refine (unhide Hstill w2 hb2).mono ?_
    rintro e w3 ⟨rfl, n3, hw3⟩
    have hb3 : Below w.heap.size w w3 := by rw [hw3]; exact below_drewN hw2 _
    clear hw3
    go_wp2_with fail
    refine (refBuild_any l a c w3 hlm (hi.below hb3 (Nat.le_refl _)) hf).mono ?_
    rintro e w4 ⟨hb4, h4⟩
    have hw4 := hb3.trans (hb4.mono hb3.size)
    rcases h4 with ⟨-, rfl⟩ | ⟨h0, -⟩ | ⟨_, _, h0, -⟩
    · generalize wrongP l = W at *
      go_wp2_with fail
      refine (sameTexts_same [] none none 0 0 w4 (by decide) (.inl rfl) (.inl rfl)).mono ?_
      rintro e w5 ⟨rfl, n5, hw5⟩
      have hb5 : Below w.heap.size w w5 := by rw [hw5]; exact below_drewN hw4 _
      clear hw5
      go_wp2_with fail
      go_ret2
      exact ⟨_, rfl, by rw [unhide Ho]; exact World.ownsRow_nil _ _ _ _, hb5⟩
    · exact absurd h0 (unhide Hw)
    · exact absurd h0 (unhide Hw)
  · have Hw := hide hw
    have Hbu := hide hbu
    have Ho := hide (show outOf l = [] by unfold outOf; rw [if_pos hw, hbu]; rfl)
    clear hw hbu hsame
    go_wp2_with fail
    refine (unhide Hstill w2 hb2).mono ?_
    rintro e w3 ⟨rfl, n3, hw3⟩
    have hb3 : Below w.heap.size w w3 := by rw [hw3]; exact below_drewN hw2 _
    clear hw3
    go_wp2_with fail
    refine (refBuild_any l a c w3 hlm (hi.below hb3 (Nat.le_refl _)) hf).mono ?_
    rintro e w4 ⟨hb4, h4⟩
    have hw4 := hb3.trans (hb4.mono hb3.size)
    rcases h4 with ⟨h0, -⟩ | ⟨-, -, rfl⟩ | ⟨_, _, -, h0, -⟩
    · exact absurd (unhide Hw) h0
    · go_wp2_with fail
      refine (sameTexts_same [] none none 0 0 w4 (by decide) (.inl rfl) (.inl rfl)).mono ?_
      rintro e w5 ⟨rfl, n5, hw5⟩
      have hb5 : Below w.heap.size w w5 := by rw [hw5]; exact below_drewN hw4 _
      clear hw5
      go_wp2_with fail
      go_ret2
      exact ⟨_, rfl, by rw [unhide Ho]; exact World.ownsRow_nil _ _ _ _, hb5⟩
    · rw [unhide Hbu] at h0; simp at h0
  · have Hw := hide hw
    have Hbu := hide hbu
    have hlen := builtP_len l (tree_of l hw) out hbu
    have Ho := hide (show outOf l = out by unfold outOf; rw [if_pos hw, hbu]; rfl)
    obtain ⟨ao, co, rfl, hto, -, -⟩ := ho.texts
    clear hw hbu hsame
    go_wp2_with fail
    refine (unhide Hstill w2 hb2).mono ?_
    rintro e w3 ⟨rfl, n3, hw3⟩
    have hb23 : Below w2.heap.size w2 w3 := by rw [hw3]; exact below_drewN (Below.refl _ _) _
    have hb3 := hw2.trans (hb23.mono hw2.size)
    clear hw3
    go_wp2_with fail
    refine (refBuild_any l a c w3 hlm (hi.below hb3 (Nat.le_refl _)) hf).mono ?_
    rintro e w4 ⟨hb4, h4⟩
    have hw4 := hb3.trans (hb4.mono hb3.size)
    have hb24 := hb23.trans (hb4.mono hb23.size)
    rcases h4 with ⟨h0, -⟩ | ⟨-, h0, -⟩ | ⟨out2, v2, -, h0, rfl, ho2⟩
    · exact absurd (unhide Hw) h0
    · rw [unhide Hbu] at h0; simp at h0
    · rw [unhide Hbu] at h0
      obtain rfl := Option.some.inj h0
      obtain ⟨a2, c2, rfl, ht2, -, -⟩ := ho2.texts
      generalize bs (P.digest (blobP l 6 [])) = R at *
      have gR : (R.toList == R.toList) = true := by simp
      clear h0
      go_wp2_with fail
      refine (sameTexts_same out ao a2 co c2 w4 (by unfold maxLen; omega) (hto.below hb24 (Nat.le_refl _)) ht2).mono ?_
      rintro e w5 ⟨rfl, n5, hw5⟩
      have hb25 : Below w2.heap.size w2 w5 := by rw [hw5]; exact below_drewN hb24 _
      have hb5 := hw2.trans (hb25.mono hw2.size)
      clear hw5
      go_wp2_with fail
      go_ret2
      exact ⟨_, rfl, by rw [unhide Ho]; exact (ho.below hb25).weak hb1.size, hb5⟩
end Go.Proofs.YtjmacegibchplaaGreatDoor
