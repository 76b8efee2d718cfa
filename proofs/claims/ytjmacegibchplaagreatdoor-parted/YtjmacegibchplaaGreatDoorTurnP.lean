import Derived.Test.YtjmacegibchplaaGreatDoorTWc
import Derived.Test.YtjmacegibchplaaGreatDoorCardA
import Derived.OwnWalk
import Derived.Test.YtjmacegibchplaaGreatDoorFetR
/-
  The program's test of a tree is the document's. Plain lists, no walk.
-/
namespace Go.Proofs.YtjmacegibchplaaGreatDoor
set_option linter.unusedVariables false
theorem dataOk_bad (x : En) : dataOk x.kind x.data.data.toList = !kindBad x := by
  obtain ⟨pa, k, d⟩ := x
  unfold dataOk kindBad
  simp only
  by_cases h0 : k = 0
  · subst h0
    rw [ByteArray.toList_eq]
    cases d.data.toList <;> simp
  · rw [if_neg h0]
    by_cases h12 : k = 1 ∨ k = 2
    · rw [if_pos h12]
      have hs : (d.data.toList.length : Int) = (d.size : Int) := by simp
      rw [hs]
      rcases h12 with rfl | rfl <;> simp <;> (by_cases h : (d.size : Int) ≤ 60 <;> simp [h] <;> omega)
    · rw [if_neg h12]
      have h1 : ¬ k = 1 := fun h => h12 (.inl h)
      have h2 : ¬ k = 2 := fun h => h12 (.inr h)
      by_cases h3 : k = 3
      · subst h3; simp
      · rw [if_neg h3]
        have : k < 0 ∨ 3 < k := by omega
        rcases this with h | h <;> simp [h]
theorem find_at (l : List En) (p : List UInt8) : (∃ j, ∃ h : j < l.length, findP l p = (j : Int) ∧ l[j].path.data.toList = p ∧ l.find? (fun e => e.path.data.toList == p) = some l[j] ∧ ∀ k (hk : k < j), l[k].path.data.toList ≠ p) ∨ (findP l p = -1 ∧ l.find? (fun e => e.path.data.toList == p) = none) := by
  unfold findP
  cases hf : l.findIdx? (fun e => e.path.data.toList == p) with
  | none =>
    right
    refine ⟨rfl, ?_⟩
    rw [List.findIdx?_eq_none_iff] at hf
    rw [List.find?_eq_none]
    intro x hx
    simpa using hf x hx
  | some j =>
    left
    have hj := List.findIdx?_eq_some_iff_getElem.1 hf
    obtain ⟨h, h1, h2⟩ := hj
    refine ⟨j, h, rfl, by simpa using h1, ?_, fun k hk => by simpa using h2 k hk⟩
    rw [List.find?_eq_some_iff_getElem]
    exact ⟨h1, j, h, rfl, fun k hk => by simpa using h2 k hk⟩
theorem treeB_iff (l : List En) : treeB l = true ↔ Tree l := by
  constructor
  · intro h
    simp only [treeB, Bool.and_eq_true, decide_eq_true_eq, List.all_eq_true, List.mem_range] at h
    obtain ⟨⟨h40, h1⟩, h2⟩ := h
    refine ⟨h40, fun i hi => ?_⟩
    have g1 := h1 i hi
    have g2 := h2 i hi
    simp only [ok1, entOk, Bool.and_eq_true, pathOk, decide_eq_true_eq, dataOk_bad] at g1
    obtain ⟨gk, ⟨gp, gn⟩, gd⟩ := g1
    have hpi : pathAt l i = (l.getD i en0).path.data.toList := rfl
    have hfind : findP l (pathAt l i) = (i : Int) := by
      rcases find_at l (pathAt l i) with ⟨j, hj, e, ep, _, hlt⟩ | ⟨_, hn⟩
      · rw [e]
        have hji : ¬ j < i := fun hji => by
          have : kindOf (l.take i) (pathAt l i) = none := by simpa using gk
          unfold kindOf at this
          simp only [Option.map_eq_none_iff, List.find?_eq_none] at this
          exact this l[j] (List.mem_take_iff_getElem.2 ⟨j, by omega, rfl⟩) (by simpa using ep)
        have hij : ¬ i < j := fun hij => hlt i hij (by rw [hpi, en_getD l i hi])
        have : i = j := by omega
        rw [this]
      · rw [List.find?_eq_none] at hn
        exact absurd (show (l[i].path.data.toList == pathAt l i) = true by rw [hpi, en_getD l i hi]; simp) (hn l[i] (List.getElem_mem hi))
    have hup : upBad l (pathAt l i) = false := by
      unfold upBad
      rcases cut_cases (pathAt l i) with ⟨_, e1, _, _⟩ | ⟨a, n, e, _, e1, e2, _⟩
      · rw [if_pos (by rw [e1]; simp)]
      · have hane : a ≠ [] := by
          intro h0
          subst h0
          have : ([] : List UInt8) ∈ sp (pathAt l i) := by rw [e1]; simp [sp]
          rw [List.all_eq_true] at gn
          have := gn [] this
          simp [P.isName] at this
        have hlen : ¬ (sp (pathAt l i)).length ≤ 1 := by rw [e1]; simp; exact sp_ne a
        rw [if_neg hlen, e2]
        have hk0 : kindOf l a = some 0 := by
          simp only [ok2, Bool.or_eq_true] at g2
          unfold upAt at g2
          rw [e2] at g2
          rcases g2 with g2 | g2
          · exact absurd (List.isEmpty_iff.1 g2) hane
          · simpa using g2
        unfold kindOf at hk0
        rcases find_at l a with ⟨j, hj, ej, _, hs, _⟩ | ⟨_, hn⟩
        · rw [hs] at hk0
          rw [ej, if_neg (by omega), Int.toNat_natCast, en_getD l j hj]
          have hk : l[j].kind = 0 := by simpa using hk0
          simp [hk]
        · rw [hn] at hk0; simp at hk0
    simp only [fineP, Bool.and_eq_true, decide_eq_true_eq, beq_iff_eq, Bool.not_eq_true']
    exact ⟨⟨⟨⟨gp, gn⟩, by simpa using gd⟩, hup⟩, hfind⟩
  · intro ht
    simp only [treeB, Bool.and_eq_true, decide_eq_true_eq, List.all_eq_true, List.mem_range]
    refine ⟨⟨ht.len, fun i hi => ?_⟩, fun i hi => ?_⟩
    · have hf := ht.fine i hi
      have hpi : pathAt l i = (l.getD i en0).path.data.toList := rfl
      simp only [fineP, Bool.and_eq_true, decide_eq_true_eq, beq_iff_eq, Bool.not_eq_true'] at hf
      obtain ⟨⟨⟨⟨gp, gn⟩, gd⟩, gu⟩, gf⟩ := hf
      simp only [ok1, entOk, Bool.and_eq_true, pathOk, decide_eq_true_eq, dataOk_bad]
      refine ⟨?_, ⟨gp, gn⟩, by rw [gd]; rfl⟩
      rw [Option.isNone_iff_eq_none]
      unfold kindOf
      rw [Option.map_eq_none_iff, List.find?_eq_none]
      intro x hx hp
      obtain ⟨j, hj, rfl⟩ := List.getElem_of_mem hx
      rw [List.length_take] at hj
      rw [List.getElem_take] at hp
      have hjl : j < l.length := by omega
      have := tree_inj l ht j i hjl hi (by have : l[j].path.data.toList = pathAt l i := by simpa using hp
                                           rw [this, hpi, en_getD l i hi])
      omega
    · simp only [ok2, Bool.or_eq_true]
      have hf := ht.fine i hi
      simp only [fineP, Bool.and_eq_true, Bool.not_eq_true'] at hf
      have gu : upBad l (pathAt l i) = false := hf.1.2
      unfold upBad at gu
      rcases cut_cases (pathAt l i) with ⟨_, _, e2, _⟩ | ⟨a, n, e, _, e1, e2, _⟩
      · left; unfold upAt; rw [e2]; rfl
      · right
        have hlen : ¬ (sp (pathAt l i)).length ≤ 1 := by rw [e1]; simp; exact sp_ne a
        rw [if_neg hlen, e2] at gu
        unfold upAt
        rw [e2]
        rcases find_at l a with ⟨j, hj, ej, _, hs, _⟩ | ⟨hn, _⟩
        · rw [ej, if_neg (by omega), Int.toNat_natCast, en_getD l j hj] at gu
          have hk : l[j].kind = 0 := by simpa using gu
          unfold kindOf
          rw [hs]
          simp [hk]
        · rw [hn, if_pos (by omega)] at gu; simp at gu
theorem wrong_no (l : List En) (h : ¬ Tree l) : wrongP l = 1 := by
  rw [wrongP_eq]
  by_cases h40 : 40 < l.length
  · rw [if_pos h40]
  · rw [if_neg h40]
    by_cases ha : (List.range l.length).all (fineP l) = false
    · rw [if_pos ha]
    · exfalso
      refine h ⟨by omega, fun i hi => ?_⟩
      have : (List.range l.length).all (fineP l) = true := by simpa using ha
      exact List.all_eq_true.1 this i (by simpa using hi)
theorem wrong_yes (l : List En) (h : Tree l) : wrongP l = if l.any escP then 2 else 0 := by
  rw [wrongP_eq, if_neg (by have := h.len; omega), if_neg]
  have : (List.range l.length).all (fineP l) = true := List.all_eq_true.2 (fun i hi => h.fine i (by simpa using hi))
  rw [this]; simp
end Go.Proofs.YtjmacegibchplaaGreatDoor

/-
  The document's Build: its contract.
-/
namespace Go.Proofs.YtjmacegibchplaaGreatDoor
open Go.RowKit
set_option linter.unusedVariables false
theorem tree_of (l : List En) (h : wrongP l = 0) : Tree l := by
  rw [wrongP_eq] at h
  split at h
  · simp at h
  · rename_i h40
    split at h
    · simp at h
    · rename_i ha
      refine ⟨by omega, fun i hi => ?_⟩
      have : (List.range l.length).all (fineP l) = true := by simpa using ha
      exact List.all_eq_true.1 this i (by simpa using hi)
def BuildEnd (l : List En) (base : Nat) (e : Ending) (w' : World) : Prop :=
  (wrongP l ≠ 0 ∧ e = .returned (.tuple #[.string ⟨#[]⟩, .slice none 0 0, .int .i64 (wrongP l)])) ∨
  (wrongP l = 0 ∧ builtP l = none ∧ e = .returned (.tuple #[.string ⟨#[]⟩, .slice none 0 0, .int .i64 3])) ∨
  ∃ out v, wrongP l = 0 ∧ builtP l = some out ∧ e = .returned (.tuple #[.string (bs (P.digest (blobP l 6 []))), v, .int .i64 0]) ∧ OwnsS w' base v out
end Go.Proofs.YtjmacegibchplaaGreatDoor

/-
  Are two trees the same (the document's own test); is a text one of some (the statements' own).
-/
namespace Go.Proofs.YtjmacegibchplaaGreatDoor
open Go.RowKit
set_option linter.unusedVariables false
def enEq (x y : En) : Bool := x.path.toList == y.path.toList && (x.kind == y.kind && x.data.toList == y.data.toList)
theorem enEq_iff (x y : En) : enEq x y = true ↔ x = y := by
  obtain ⟨p, k, d⟩ := x
  obtain ⟨q, m, e⟩ := y
  simp only [enEq, ByteArray.toList_eq, Bool.and_eq_true, beq_iff_eq, En.mk.injEq]
  constructor
  · rintro ⟨h1, h2, h3⟩
    exact ⟨by rw [← bs_of p, h1, bs_of], h2, by rw [← bs_of d, h3, bs_of]⟩
  · rintro ⟨rfl, rfl, rfl⟩; exact ⟨rfl, rfl, rfl⟩
def inP (a b : List En) (i : Nat) : Bool := !decide (findP b (a.getD i en0).path.data.toList < 0) && enEq (b.getD (findP b (a.getD i en0).path.data.toList).toNat en0) (a.getD i en0)
def sameP (a b : List En) : Bool := a.length == b.length && (List.range a.length).all (inP a b)
end Go.Proofs.YtjmacegibchplaaGreatDoor

/-
  One Build held against the document's, as the statements do: over any Build that answers as the document's.
-/
namespace Go.Proofs.YtjmacegibchplaaGreatDoor
open Go.RowKit
set_option linter.unusedVariables false
def ProgBuild (G : World → Prop) : Prop := ∀ (l : List En) (a : Option Addr) (c : Nat) (w : World), G w → l.length ≤ maxLen → LiesE w a l → TFit l →
  Calls Tryz.prog 24 #[.slice a l.length c] w fun e w' => Below w.heap.size w w' ∧ BuildEnd l w.heap.size e w'
def outOf (l : List En) : List (List UInt8) := if wrongP l = 0 then (builtP l).getD [] else []
end Go.Proofs.YtjmacegibchplaaGreatDoor

/-
  The statement on Clash: its body, over any Clash that answers as the document asks.
-/
namespace Go.Proofs.YtjmacegibchplaaGreatDoor
open Go.RowKit
set_option linter.unusedVariables false
def errOf (l : List En) : Int := if wrongP l ≠ 0 then wrongP l else if builtP l = none then 3 else 0
def rootOf (l : List En) : List UInt8 := if errOf l = 0 then P.digest (blobP l 6 []) else []
def clashErr (x y : List En) : Int := if errOf x ≠ 0 then errOf x else if errOf y ≠ 0 then errOf y else if sameP x y = true ∨ rootOf x ≠ rootOf y then 11 else 0
structure ClashOk (x y : List En) (r : List UInt8 × List UInt8 × Int) : Prop where
  err : r.2.2 = clashErr x y
  none : r.2.2 ≠ 0 → r.1 = [] ∧ r.2.1 = []
  some : r.2.2 = 0 → r.1 ≠ r.2.1 ∧ r.1 ∈ outOf x ∧ r.2.1 ∈ outOf y ∧ P.digest r.1 = P.digest r.2.1
def ProgClash (G : World → Prop) (cl : List En → List En → List UInt8 × List UInt8 × Int) : Prop :=
  (∀ x y, TFit x → TFit y → ClashOk x y (cl x y)) ∧
  ∀ (x y : List En) (a1 a2 : Option Addr) (c1 c2 : Nat) (w : World), G w → x.length ≤ maxLen → y.length ≤ maxLen → LiesE w a1 x → LiesE w a2 y → TFit x → TFit y →
    Calls Tryz.prog 14 #[.slice a1 x.length c1, .slice a2 y.length c2] w fun e w' => e = .returned (.tuple #[.string (bs (cl x y).1), .string (bs (cl x y).2.1), .int .i64 (cl x y).2.2]) ∧ Below w.heap.size w w'
end Go.Proofs.YtjmacegibchplaaGreatDoor

/-
  A tree's entries in another order are the same tree: its blobs are the same. No walk.
-/
namespace Go.Proofs.YtjmacegibchplaaGreatDoor
set_option linter.unusedVariables false
theorem tree_up (l : List En) (ht : Tree l) (e : En) (he : e ∈ l) : upPath (pth e) = [] ∨ ∃ t ∈ l, pth t = upPath (pth e) ∧ t.kind = 0 := by
  obtain ⟨i, hi, rfl⟩ := List.mem_iff_getElem.1 he
  have hf := ht.fine i hi
  simp only [fineP, Bool.and_eq_true, Bool.not_eq_true'] at hf
  have gu := hf.1.2
  rw [en_getD l i hi] at gu
  unfold upBad at gu
  rcases cut_cases (pth l[i]) with ⟨_, _, e2, _⟩ | ⟨a, n, e, _, e1, e2, _⟩
  · exact .inl e2
  · right
    have hlen : ¬ (sp l[i].path.data.toList).length ≤ 1 := by
      have e1' : sp l[i].path.data.toList = sp a ++ [n] := e1
      rw [e1']; simp; exact sp_ne a
    rw [if_neg hlen] at gu
    have e2' : upPath l[i].path.data.toList = a := e2
    rw [e2'] at gu
    rw [e2]
    rcases find_at l a with ⟨j, hj, ej, hp, hs, _⟩ | ⟨hn, _⟩
    · rw [ej, if_neg (by omega), Int.toNat_natCast, en_getD l j hj] at gu
      exact ⟨l[j], List.getElem_mem hj, hp, by simpa using gu⟩
    · rw [hn] at gu
      simp at gu
theorem tree_once (l : List En) (ht : Tree l) : l.Pairwise (fun a b => pth a ≠ pth b) := by
  rw [List.pairwise_iff_getElem]
  intro i j hi hj hij h
  have := tree_inj l ht i j hi hj h
  omega
theorem tree_same {l m : List En} (ht : Tree l) (hw : wrongP l = 0) (hm : ∀ e, e ∈ m ↔ e ∈ l) (hlen : m.length ≤ 40) (hon : m.Pairwise (fun a b => pth a ≠ pth b)) : Tree m ∧ wrongP m = 0 := by
  refine treeIs m hlen hon (fun e he => ?_) (fun e he => ?_) (fun e he => ?_) (fun e he => ?_) (fun e he hk => ?_)
  · rcases tree_up l ht e ((hm e).1 he) with h | ⟨t, h1, h2⟩
    · exact .inl h
    · exact .inr ⟨t, (hm t).2 h1, h2⟩
  · obtain ⟨i, hi, rfl⟩ := List.mem_iff_getElem.1 ((hm e).1 he)
    exact fineP_name l i hi (ht.fine i hi)
  · obtain ⟨i, hi, rfl⟩ := List.mem_iff_getElem.1 ((hm e).1 he)
    exact fineP_deep l i hi (ht.fine i hi)
  · obtain ⟨i, hi, rfl⟩ := List.mem_iff_getElem.1 ((hm e).1 he)
    exact fineP_kind l i hi (ht.fine i hi)
  · have hwy := wrong_yes l ht
    rw [hw] at hwy
    have hany : l.any escP = false := by
      cases ha : l.any escP with
      | false => rfl
      | true => rw [ha] at hwy; simp at hwy
    have := List.any_eq_false.1 hany e ((hm e).1 he)
    unfold escP at this
    simp [hk] at this
    exact this
theorem ents_of (l : List En) (ht : Tree l) (p : List UInt8) : ((insP l p).map (fun i => l.getD i en0)).Pairwise (fun a b => less (nmE p a) (nmE p b) = true) ∧ ∀ e, e ∈ (insP l p).map (fun i => l.getD i en0) ↔ e ∈ l ∧ kidB p e = true := by
  constructor
  · rw [List.pairwise_map]
    exact insG_sorted l p _ _
  · intro e
    simp only [List.mem_map]
    constructor
    · rintro ⟨i, hi, rfl⟩
      obtain ⟨hl, n, hn⟩ := (insP_iff l ht p i).1 hi
      rw [en_getD l i hl]
      exact ⟨List.getElem_mem hl, by unfold kidB pth; rw [hn]; rfl⟩
    · rintro ⟨hm, hk⟩
      obtain ⟨i, hi, rfl⟩ := List.mem_iff_getElem.1 hm
      unfold kidB pth at hk
      obtain ⟨n, hn⟩ := Option.isSome_iff_exists.1 hk
      exact ⟨i, (insP_iff l ht p i).2 ⟨hi, n, hn⟩, en_getD l i hi⟩
theorem blob_turn {l m : List En} (hl : Tree l) (hm : Tree m) (h : ∀ e, e ∈ m ↔ e ∈ l) : ∀ f p, blobP m f p = blobP l f p
  | 0, p => rfl
  | f + 1, p => by
    have ih : blobP m f = blobP l f := funext (blob_turn hl hm h f)
    simp only [blobP, items_itF, ih]
    have e : (insP m p).map (fun i => m.getD i en0) = (insP l p).map (fun i => l.getD i en0) := by
      obtain ⟨s1, m1⟩ := ents_of m hm p
      obtain ⟨s2, m2⟩ := ents_of l hl p
      exact order_one (fun a b => less (nmE p a) (nmE p b)) (fun _ => less_irr _) (fun _ _ _ => less_trans _ _ _) _ _ s1 s2 (fun e => by rw [m1, m2, h])
    rw [e]
theorem all_mem (l : List En) (x : List UInt8) : x ∈ allP l ↔ x = blobP l 6 [] ∨ ∃ e ∈ l, x ∈ partP l e := by
  unfold allP allTo
  rw [List.take_length]
  simp
theorem all_same {l m : List En} (hl : Tree l) (hm : Tree m) (h : ∀ e, e ∈ m ↔ e ∈ l) (x : List UInt8) : x ∈ allP m ↔ x ∈ allP l := by
  rw [all_mem, all_mem]
  have hb := blob_turn hl hm h
  have hp : ∀ e, partP m e = partP l e := fun e => by unfold partP; rw [hb]
  rw [hb]
  constructor
  · rintro (e | ⟨e, he, hx⟩)
    · exact .inl e
    · exact .inr ⟨e, (h e).1 he, by rw [← hp]; exact hx⟩
  · rintro (e | ⟨e, he, hx⟩)
    · exact .inl e
    · exact .inr ⟨e, (h e).2 he, by rw [hp]; exact hx⟩
theorem outs_same {A B : List (List UInt8)} (h : ∀ x, x ∈ A ↔ x ∈ B) : outsP A = outsP B := by
  rcases outs_spec B with ⟨hn, x, hx, y, hy, e, hne⟩ | ⟨out, ho, hs, hmm, hu⟩
  · rw [hn]
    exact outs_none A x y ((h x).2 hx) ((h y).2 hy) e hne
  · rw [ho]
    exact outs_of A out hs (fun x => by rw [hmm, h]) (fun x hx y hy => hu x ((h x).1 hx) y ((h y).1 hy))
theorem built_same {l m : List En} (hl : Tree l) (hm : Tree m) (h : ∀ e, e ∈ m ↔ e ∈ l) : builtP m = builtP l := outs_same (all_same hl hm h)
theorem tree_rev {l : List En} (ht : Tree l) (hw : wrongP l = 0) : Tree l.reverse ∧ wrongP l.reverse = 0 ∧ builtP l.reverse = builtP l ∧ blobP l.reverse 6 [] = blobP l 6 [] := by
  have hm : ∀ e, e ∈ l.reverse ↔ e ∈ l := fun e => List.mem_reverse
  obtain ⟨h1, h2⟩ := tree_same ht hw hm (by rw [List.length_reverse]; exact ht.len) (by rw [List.pairwise_reverse]; exact (tree_once l ht).imp (fun h e => h e.symm))
  exact ⟨h1, h2, built_same ht h1 hm, blob_turn ht h1 hm 6 []⟩
end Go.Proofs.YtjmacegibchplaaGreatDoor
