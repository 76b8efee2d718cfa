/-
  Two trees that differ in one file, by two files of one digest: their roots are the same. No walk.
-/
import Derived.Test.YtjmacegibchplaaGreatDoorTurnP
import Derived.Test.YtjmacegibchplaaGreatDoorFetR
namespace Go.Proofs.YtjmacegibchplaaGreatDoor
set_option linter.unusedVariables false
def twoX (a b : List UInt8) : List UInt8 := a.take 20 ++ [48, 5] ++ b.take 20
def twoY (a b : List UInt8) : List UInt8 := a.take 20 ++ [63, 153] ++ b.take 20
theorem two_step (n : Int) : P.step (P.step n 48) 5 = P.step (P.step n 63) 153 := by
  unfold P.step
  have e1 : ((48 : UInt8).toNat : Int) = 48 := rfl
  have e2 : ((5 : UInt8).toNat : Int) = 5 := rfl
  have e3 : ((63 : UInt8).toNat : Int) = 63 := rfl
  have e4 : ((153 : UInt8).toNat : Int) = 153 := rfl
  rw [e1, e2, e3, e4]
  omega
theorem two_digest (a b : List UInt8) : P.digest (twoX a b) = P.digest (twoY a b) := by
  unfold P.digest P.dnum twoX twoY
  simp only [List.foldl_append, List.foldl_cons, List.foldl_nil]
  rw [two_step]
theorem two_len (a b : List UInt8) : (twoX a b).length = (twoY a b).length ∧ (twoX a b).length ≤ 42 := by
  unfold twoX twoY
  have h1 := List.length_take_le 20 a
  have h2 := List.length_take_le 20 b
  simp only [List.length_append, List.length_cons, List.length_nil]
  exact ⟨trivial, by omega⟩
theorem two_ne (a b : List UInt8) : twoX a b ≠ twoY a b := by
  unfold twoX twoY
  intro h
  rw [List.append_assoc, List.append_assoc] at h
  have := List.append_cancel_left h
  simp at this
theorem treeG_take (texts : List (List UInt8)) : ∀ (r : List Int) (k i : Nat) (dirs : List (List UInt8 × Nat)), (treeG texts r i dirs).take k = treeG texts (r.take k) i dirs
  | [], k, i, dirs => by simp [treeG]
  | v :: r, 0, i, dirs => by simp [treeG]
  | v :: r, k + 1, i, dirs => by simp only [treeG, List.take_succ_cons, treeG_take texts r k]
theorem treeP_take (raw : List Int) (texts : List (List UInt8)) (k : Nat) (hk : k ≤ 30) : (treeP raw texts).take k = treeP (raw.take k) texts := by
  unfold treeP
  rw [treeG_take, ← List.map_take, List.take_take, List.take_take, Nat.min_comm k 30]
theorem treeP_zero (raw : List Int) (texts : List (List UInt8)) (e : En) (he : e ∈ treeP raw texts) : pth e ≠ [48] := by
  obtain ⟨k, hk, rfl⟩ := List.mem_iff_getElem.1 he
  have hr : ((raw.take 30).map (fun c => pickP c 1099511627776)).length ≤ 30 := by simp; omega
  have hlen := treeG_len texts ((raw.take 30).map (fun c => pickP c 1099511627776)) 0 [([], 0)]
  have hf := treeG_fine texts ((raw.take 30).map (fun c => pickP c 1099511627776)) 0 [([], 0)] [] (by intro p hp; simp at hp; subst hp; exact ⟨[], rfl, .inl ⟨rfl, rfl⟩, by simp, .inl rfl⟩) (by omega) k hk
  have hl := hf.last
  intro h
  have hl2 : (nameOf [48]).drop 1 = digP (0 + k) := by rw [← h]; exact hl
  have hk30 : 0 + k < 30 := by unfold treeP at hk; omega
  have hd := (dig_name ⟨0 + k, hk30⟩).2.2.2
  simp only at hd
  rw [← hl2] at hd
  exact absurd hd (by decide)
def zeroE (x : List UInt8) : En := ⟨⟨#[48]⟩, 1, bs x⟩
theorem zero_pth (x : List UInt8) : pth (zeroE x) = [48] := rfl
theorem tree_zero {t : List En} (ht : Tree t) (hw : wrongP t = 0) (h29 : t.length ≤ 29) (h0 : ∀ e ∈ t, pth e ≠ [48]) (x : List UInt8) (hx : x.length ≤ 60) : Tree (zeroE x :: t) ∧ wrongP (zeroE x :: t) = 0 := by
  refine treeIs (zeroE x :: t) (by simp; omega) ?_ (fun e he => ?_) (fun e he => ?_) (fun e he => ?_) (fun e he => ?_) (fun e he hk => ?_)
  · rw [List.pairwise_cons]
    exact ⟨fun e he h => h0 e he (by rw [← h]; rfl), tree_once t ht⟩
  · rcases List.mem_cons.1 he with rfl | he
    · left; rfl
    · rcases tree_up t ht e he with h | ⟨u, h1, h2⟩
      · exact .inl h
      · exact .inr ⟨u, List.mem_cons_of_mem _ h1, h2⟩
  · rcases List.mem_cons.1 he with rfl | he
    · intro p hp
      rw [zero_pth] at hp
      have : p = [48] := by simpa [sp] using hp
      subst this
      decide
    · obtain ⟨i, hi, rfl⟩ := List.mem_iff_getElem.1 he
      exact fineP_name t i hi (ht.fine i hi)
  · rcases List.mem_cons.1 he with rfl | he
    · rw [zero_pth]; decide
    · obtain ⟨i, hi, rfl⟩ := List.mem_iff_getElem.1 he
      exact fineP_deep t i hi (ht.fine i hi)
  · rcases List.mem_cons.1 he with rfl | he
    · have hz : (bs x).size ≤ 60 := by rw [bs_size]; exact hx
      unfold kindBad zeroE
      simp; omega
    · obtain ⟨i, hi, rfl⟩ := List.mem_iff_getElem.1 he
      exact fineP_kind t i hi (ht.fine i hi)
  · rcases List.mem_cons.1 he with rfl | he
    · simp [zeroE] at hk
    · have hwy := wrong_yes t ht
      rw [hw] at hwy
      have hany : t.any escP = false := by
        cases ha : t.any escP with
        | false => rfl
        | true => rw [ha] at hwy; simp at hwy
      have := List.any_eq_false.1 hany e he
      unfold escP at this
      simp [hk] at this
      exact this
def phiE (x y : List UInt8) (e : En) : En := if pth e = [48] then zeroE y else e
theorem blob_two {t : List En} {x y : List UInt8} (hx : Tree (zeroE x :: t)) (hy : Tree (zeroE y :: t)) (h0 : ∀ e ∈ t, pth e ≠ [48]) (hd : P.digest x = P.digest y) (hl : x.length = y.length) : ∀ f p, blobP (zeroE y :: t) f p = blobP (zeroE x :: t) f p
  | 0, p => rfl
  | f + 1, p => by
    have ih : blobP (zeroE y :: t) f = blobP (zeroE x :: t) f := funext (blob_two hx hy h0 hd hl f)
    have hphi : ∀ e ∈ zeroE x :: t, pth (phiE x y e) = pth e ∧ (∀ bl, itF p bl (phiE x y e) = itF p bl e) := by
      intro e he
      rcases List.mem_cons.1 he with rfl | he
      · have : phiE x y (zeroE x) = zeroE y := by unfold phiE; rw [if_pos (zero_pth x)]
        rw [this]
        refine ⟨rfl, fun bl => ?_⟩
        unfold itF zeroE
        simp only [bs_data, pth]
        rw [if_neg (by decide), if_neg (by decide), if_neg (by decide), if_neg (by decide), hd, hl]
      · have : phiE x y e = e := by unfold phiE; rw [if_neg (h0 e he)]
        rw [this]
        exact ⟨rfl, fun _ => rfl⟩
    have e : (insP (zeroE y :: t) p).map (fun i => (zeroE y :: t).getD i en0) = ((insP (zeroE x :: t) p).map (fun i => (zeroE x :: t).getD i en0)).map (phiE x y) := by
      obtain ⟨s1, m1⟩ := ents_of _ hy p
      obtain ⟨s2, m2⟩ := ents_of _ hx p
      refine order_one (fun a b => less (nmE p a) (nmE p b)) (fun _ => less_irr _) (fun _ _ _ => less_trans _ _ _) _ _ s1 ?_ (fun e => ?_)
      · rw [List.pairwise_map]
        refine s2.imp_of_mem (fun {a b} ha hb h => ?_)
        have h1 := (hphi a ((m2 a).1 ha).1).1
        have h2 := (hphi b ((m2 b).1 hb).1).1
        unfold nmE at h ⊢
        rw [h1, h2]
        exact h
      · rw [m1, List.mem_map]
        constructor
        · rintro ⟨he, hk⟩
          rcases List.mem_cons.1 he with rfl | he
          · refine ⟨zeroE x, (m2 _).2 ⟨by simp, hk⟩, ?_⟩
            unfold phiE; rw [if_pos (zero_pth x)]
          · exact ⟨e, (m2 _).2 ⟨List.mem_cons_of_mem _ he, hk⟩, by unfold phiE; rw [if_neg (h0 e he)]⟩
        · rintro ⟨a, ha, rfl⟩
          obtain ⟨h1, h2⟩ := (m2 a).1 ha
          have h3 := (hphi a h1).1
          constructor
          · rcases List.mem_cons.1 h1 with rfl | h1
            · unfold phiE; rw [if_pos (zero_pth x)]; simp
            · unfold phiE; rw [if_neg (h0 a h1)]; exact List.mem_cons_of_mem _ h1
          · unfold kidB at h2 ⊢; rw [h3]; exact h2
    simp only [blobP, items_itF, ih, e]
    rw [List.map_map]
    congr 1
    obtain ⟨_, m2⟩ := ents_of _ hx p
    generalize (insP (zeroE x :: t) p).map (fun i => (zeroE x :: t).getD i en0) = E at *
    refine List.map_congr_left (fun a ha => ?_)
    exact (hphi a ((m2 a).1 ha).1).2 _
theorem built_err {l : List En} (hw : wrongP l = 0) : (builtP l = none ∧ errOf l = 3) ∨ ∃ out, builtP l = some out ∧ errOf l = 0 ∧ rootOf l = P.digest (blobP l 6 []) ∧ outOf l = out := by
  cases hb : builtP l with
  | none => left; exact ⟨rfl, by unfold errOf; rw [if_neg (by simpa using hw), if_pos hb]⟩
  | some out =>
    right
    have he : errOf l = 0 := by unfold errOf; rw [if_neg (by simpa using hw), if_neg (by rw [hb]; simp)]
    exact ⟨out, rfl, he, by unfold rootOf; rw [if_pos he], by unfold outOf; rw [if_pos hw, hb]; rfl⟩
theorem same_of {l m : List En} (hl : Tree l) (hm : Tree m) (h : ∀ e, e ∈ m ↔ e ∈ l) (hlen : l.length = m.length) : sameP l m = true := by
  unfold sameP
  rw [Bool.and_eq_true, List.all_eq_true]
  refine ⟨by simpa using hlen, fun i hi => ?_⟩
  have hi' : i < l.length := by simpa using hi
  obtain ⟨j, hj, ej⟩ := List.mem_iff_getElem.1 ((h l[i]).2 (List.getElem_mem hi'))
  have hf := find_once m (tree_once m hm) j hj
  unfold inP
  rw [en_getD l i hi']
  have hp : findP m l[i].path.data.toList = (j : Int) := by rw [← ej]; exact hf
  rw [hp, Int.toNat_natCast, en_getD m j hj, ej, (enEq_iff _ _).2 rfl]
  simp
theorem same_not {t : List En} {x y : List UInt8} (hy : Tree (zeroE y :: t)) (hne : x ≠ y) : sameP (zeroE x :: t) (zeroE y :: t) = false := by
  cases h : sameP (zeroE x :: t) (zeroE y :: t) with
  | false => rfl
  | true =>
    exfalso
    unfold sameP at h
    rw [Bool.and_eq_true, List.all_eq_true] at h
    have h0 := h.2 0 (by simp)
    unfold inP at h0
    have hf := find_once (zeroE y :: t) (tree_once _ hy) 0 (by simp)
    have hp : findP (zeroE y :: t) ((zeroE x :: t).getD 0 en0).path.data.toList = 0 := hf
    rw [hp] at h0
    rw [Bool.and_eq_true] at h0
    have h1 := (enEq_iff _ _).1 h0.2
    have h2 : bs y = bs x := congrArg En.data h1
    have h3 : (bs y).data.toList = (bs x).data.toList := by rw [h2]
    rw [bs_data, bs_data] at h3
    exact hne h3.symm
theorem parted_plain {t : List En} (ht : Tree t) (hw : wrongP t = 0) (h29 : t.length ≤ 29) (h0 : ∀ e ∈ t, pth e ≠ [48]) {x y : List UInt8} (hx : x.length ≤ 60) (hl : x.length = y.length) (hd : P.digest x = P.digest y) (hne : x ≠ y) :
    ((errOf (zeroE x :: t) = 3 ∨ errOf (zeroE x :: t) = 0) ∧ (errOf (zeroE y :: t).reverse = 3 ∨ errOf (zeroE y :: t).reverse = 0)) ∧
    (errOf (zeroE x :: t) = 0 → errOf (zeroE y :: t).reverse = 0 → rootOf (zeroE x :: t) = rootOf (zeroE y :: t).reverse ∧ clashErr (zeroE x :: t) (zeroE y :: t) = 0 ∧ clashErr (zeroE x :: t) (zeroE x :: t).reverse = 11 ∧ outOf (zeroE y :: t).reverse = outOf (zeroE y :: t)) := by
  obtain ⟨a1, a2⟩ := tree_zero ht hw h29 h0 x hx
  obtain ⟨b1, b2⟩ := tree_zero ht hw h29 h0 y (by omega)
  obtain ⟨r1, r2, r3, r4⟩ := tree_rev b1 b2
  obtain ⟨s1, s2, s3, s4⟩ := tree_rev a1 a2
  have hblob := blob_two a1 b1 h0 hd hl 6 []
  refine ⟨⟨?_, ?_⟩, fun e1 e2 => ?_⟩
  · rcases built_err a2 with ⟨_, h⟩ | ⟨_, _, h, _⟩
    · exact .inl h
    · exact .inr h
  · rcases built_err r2 with ⟨_, h⟩ | ⟨_, _, h, _⟩
    · exact .inl h
    · exact .inr h
  · rcases built_err a2 with ⟨_, h⟩ | ⟨oa, ha, _, ra, ua⟩
    · omega
    rcases built_err r2 with ⟨_, h⟩ | ⟨ob, hb, _, rb, ub⟩
    · omega
    rcases built_err b2 with ⟨h, _⟩ | ⟨oc, hc, ec, rc, uc⟩
    · rw [r3, h] at hb; simp at hb
    rcases built_err s2 with ⟨h, _⟩ | ⟨od, hd', ed, rd, ud⟩
    · rw [s3, ha] at h; simp at h
    have hobc : ob = oc := by rw [r3, hc] at hb; simpa using hb.symm
    refine ⟨?_, ?_, ?_, ?_⟩
    · rw [ra, rb, r4, hblob]
    · unfold clashErr
      rw [if_neg (by simpa using e1), if_neg (by simpa using ec), if_neg ?_]
      rw [same_not b1 hne, ra, rc, hblob]
      simp
    · unfold clashErr
      rw [if_neg (by simpa using e1), if_neg (by simpa using ed), if_pos ?_]
      left
      exact same_of a1 s1 (fun e => List.mem_reverse) (by simp)
    · rw [ub, uc, hobc]
end Go.Proofs.YtjmacegibchplaaGreatDoor
