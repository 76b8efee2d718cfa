import Derived.Test.YtjmacegibchplaaGreatDoorKeepD
import Derived.Test.YtjmacegibchplaaGreatDoorUpE
import Derived.Test.YtjmacegibchplaaGreatDoorTrP
import Derived.Test.YtjmacegibchplaaGreatDoorFetR
import Derived.Test.YtjmacegibchplaaGreatDoorOfD
import Derived.Test.YtjmacegibchplaaGreatDoorBrgP
import Derived.Test.YtjmacegibchplaaGreatDoorPrD
import Derived.Test.YtjmacegibchplaaGreatDoorOfB
/-
  Does a link lead out (the statements' own test)? The two files of one digest.
-/
namespace Go.Proofs.YtjmacegibchplaaGreatDoor
open Go.RowKit
set_option linter.unusedVariables false
def dq (q : List UInt8) : Nat := if q = [] then 0 else (sp q).length
end Go.Proofs.YtjmacegibchplaaGreatDoor

/-
  What a store holds is never more than its room by uploads; trees are of bounded size; links of a tree do not lead out. No walk.
-/
namespace Go.Proofs.YtjmacegibchplaaGreatDoor
set_option linter.unusedVariables false
theorem sum_put_room (room : Int) (st : List (List UInt8 × List UInt8)) (b : List UInt8) (h : (sumP st : Int) ≤ room) : (sumP (putP room st b).2 : Int) ≤ room := by
  unfold putP
  split
  · exact h
  · split
    · exact h
    · simp only [sumP_app]; omega
section
variable {room : Int} {Q : List (List UInt8 × List UInt8) → Prop} (hQ : ∀ st b, Q st → Q (putP room st b).2)
include hQ
theorem putsP_keep : ∀ (l : List (List UInt8)) (st : List (List UInt8 × List UInt8)), Q st → Q (putsP room st l).2
  | [], st, h => h
  | b :: r, st, h => by
    simp only [putsP]
    split
    · exact hQ _ _ h
    · exact putsP_keep r _ (hQ _ _ h)
theorem tryP_keep (link : List Int) (l : List (List UInt8)) : ∀ (k : Nat) (st : List (List UInt8 × List UInt8)) (s : Nat × Nat × Nat), Q st → Q (tryP room link l k st s).2.1
  | 0, st, s, h => h
  | k + 1, st, s, h => by
    simp only [tryP]
    have h1 := putsP_keep hQ l st h
    have h2 := putsP_keep hQ l _ h1
    split
    · exact tryP_keep link l k _ _ h
    · split
      · split
        · exact h2
        · exact h1
      · refine tryP_keep link l k _ _ ?_
        split
        · exact h2
        · exact h1
theorem sendP_keep (batch : Int) (tries : Nat) (link : List Int) : ∀ (f : Nat) (miss : List (List UInt8)) (st : List (List UInt8 × List UInt8)) (s : Nat × Nat × Nat), Q st → Q (sendP room batch tries link f miss st s).2.1
  | 0, miss, st, s, h => h
  | f + 1, miss, st, s, h => by
    simp only [sendP]
    split
    · exact h
    · split
      · exact tryP_keep hQ _ _ _ _ _ h
      · exact sendP_keep batch tries link f _ _ _ (tryP_keep hQ _ _ _ _ _ h)
theorem bringP_keep (batch : Int) (tries : Nat) (link : List Int) (blobs : List (List UInt8)) (st : List (List UInt8 × List UInt8)) (h : Q st) : Q (bringP room batch tries link blobs st).2.1 := by
  simp only [bringP]
  split
  · exact tryP_keep hQ _ _ _ _ _ h
  · exact sendP_keep hQ _ _ _ _ _ _ _ (tryP_keep hQ _ _ _ _ _ h)
theorem upP_keep (l : List En) (tries batch : Int) (L : List Int) (st : List (List UInt8 × List UInt8)) (h : Q st) : Q (upP room l tries batch L st).2.2.2 := by
  unfold upP
  split
  · exact h
  · split
    · exact h
    · split
      · exact h
      · exact bringP_keep hQ _ _ _ _ _ h
end
theorem up_room (room : Int) (l : List En) (tries batch : Int) (L : List Int) (st : List (List UInt8 × List UInt8)) (h : (sumP st : Int) ≤ room) : (sumP (upP room l tries batch L st).2.2.2 : Int) ≤ room :=
  upP_keep (Q := fun st => (sumP st : Int) ≤ room) (fun st b h => sum_put_room room st b h) l tries batch L st h
theorem tree_data (l : List En) (ht : Tree l) (i : Nat) (h : i < l.length) : l[i].data.size ≤ 60 := by
  have hk := fineP_kind l i h (ht.fine i h)
  rcases kind_cases hk with ⟨_, e⟩ | ⟨_, e⟩ | e
  · rw [e]; decide
  · exact e
  · have := fineP_link l i h (ht.fine i h) e
    unfold P.isTarget at this
    simp at this
    have h2 : l[i].data.data.toList.length = l[i].data.size := rfl
    have h3 : l[i].data.data.size = l[i].data.size := rfl
    omega
theorem tree_fit (l : List En) (ht : Tree l) : TFit l := fun i h => by
  have h1 := tree_path l ht i h
  have h2 := tree_data l ht i h
  have h3 : l[i].path.data.toList.length = l[i].path.size := rfl
  exact ⟨by omega, by unfold maxLen; omega⟩
end Go.Proofs.YtjmacegibchplaaGreatDoor

/-
  A tree's entries in another order are the same tree: its blobs are the same. No walk.
-/
namespace Go.Proofs.YtjmacegibchplaaGreatDoor
set_option linter.unusedVariables false
theorem tree_up (l : List En) (ht : Tree l) (e : En) (he : e ∈ l) : upPath (pth e) = [] ∨ ∃ t ∈ l, pth t = upPath (pth e) ∧ t.kind = 0 := by
  obtain ⟨i, hi, rfl⟩ := List.mem_iff_getElem.1 he
  have hf := ht.fine i hi
  simp only [fineP, Bool.and_eq_true, Bool.not_eq_true'] at hf
  have gu := hf.1.2
  rw [en_getD l i hi] at gu
  unfold upBad at gu
  rcases cut_cases (pth l[i]) with ⟨_, _, e2, _⟩ | ⟨a, n, e, _, e1, e2, _⟩
  · exact .inl e2
  · right
    have hlen : ¬ (sp l[i].path.data.toList).length ≤ 1 := by
      have e1' : sp l[i].path.data.toList = sp a ++ [n] := e1
      rw [e1']; simp; exact sp_ne a
    rw [if_neg hlen] at gu
    have e2' : upPath l[i].path.data.toList = a := e2
    rw [e2'] at gu
    rw [e2]
    rcases find_at l a with ⟨j, hj, ej, hp, hs, _⟩ | ⟨hn, _⟩
    · rw [ej, if_neg (by omega), Int.toNat_natCast, en_getD l j hj] at gu
      exact ⟨l[j], List.getElem_mem hj, hp, by simpa using gu⟩
    · rw [hn] at gu
      simp at gu
theorem tree_once (l : List En) (ht : Tree l) : l.Pairwise (fun a b => pth a ≠ pth b) := by
  rw [List.pairwise_iff_getElem]
  intro i j hi hj hij h
  have := tree_inj l ht i j hi hj h
  omega
theorem tree_same {l m : List En} (ht : Tree l) (hw : wrongP l = 0) (hm : ∀ e, e ∈ m ↔ e ∈ l) (hlen : m.length ≤ 40) (hon : m.Pairwise (fun a b => pth a ≠ pth b)) : Tree m ∧ wrongP m = 0 := by
  refine treeIs m hlen hon (fun e he => ?_) (fun e he => ?_) (fun e he => ?_) (fun e he => ?_) (fun e he hk => ?_)
  · rcases tree_up l ht e ((hm e).1 he) with h | ⟨t, h1, h2⟩
    · exact .inl h
    · exact .inr ⟨t, (hm t).2 h1, h2⟩
  · obtain ⟨i, hi, rfl⟩ := List.mem_iff_getElem.1 ((hm e).1 he)
    exact fineP_name l i hi (ht.fine i hi)
  · obtain ⟨i, hi, rfl⟩ := List.mem_iff_getElem.1 ((hm e).1 he)
    exact fineP_deep l i hi (ht.fine i hi)
  · obtain ⟨i, hi, rfl⟩ := List.mem_iff_getElem.1 ((hm e).1 he)
    exact fineP_kind l i hi (ht.fine i hi)
  · have hwy := wrong_yes l ht
    rw [hw] at hwy
    have hany : l.any escP = false := by
      cases ha : l.any escP with
      | false => rfl
      | true => rw [ha] at hwy; simp at hwy
    have := List.any_eq_false.1 hany e ((hm e).1 he)
    unfold escP at this
    simp [hk] at this
    exact this
theorem ents_of (l : List En) (ht : Tree l) (p : List UInt8) : ((insP l p).map (fun i => l.getD i en0)).Pairwise (fun a b => less (nmE p a) (nmE p b) = true) ∧ ∀ e, e ∈ (insP l p).map (fun i => l.getD i en0) ↔ e ∈ l ∧ kidB p e = true := by
  constructor
  · rw [List.pairwise_map]
    exact insG_sorted l p _ _
  · intro e
    simp only [List.mem_map]
    constructor
    · rintro ⟨i, hi, rfl⟩
      obtain ⟨hl, n, hn⟩ := (insP_iff l ht p i).1 hi
      rw [en_getD l i hl]
      exact ⟨List.getElem_mem hl, by unfold kidB pth; rw [hn]; rfl⟩
    · rintro ⟨hm, hk⟩
      obtain ⟨i, hi, rfl⟩ := List.mem_iff_getElem.1 hm
      unfold kidB pth at hk
      obtain ⟨n, hn⟩ := Option.isSome_iff_exists.1 hk
      exact ⟨i, (insP_iff l ht p i).2 ⟨hi, n, hn⟩, en_getD l i hi⟩
theorem blob_turn {l m : List En} (hl : Tree l) (hm : Tree m) (h : ∀ e, e ∈ m ↔ e ∈ l) : ∀ f p, blobP m f p = blobP l f p
  | 0, p => rfl
  | f + 1, p => by
    have ih : blobP m f = blobP l f := funext (blob_turn hl hm h f)
    simp only [blobP, items_itF, ih]
    have e : (insP m p).map (fun i => m.getD i en0) = (insP l p).map (fun i => l.getD i en0) := by
      obtain ⟨s1, m1⟩ := ents_of m hm p
      obtain ⟨s2, m2⟩ := ents_of l hl p
      exact order_one (fun a b => less (nmE p a) (nmE p b)) (fun _ => less_irr _) (fun _ _ _ => less_trans _ _ _) _ _ s1 s2 (fun e => by rw [m1, m2, h])
    rw [e]
theorem all_mem (l : List En) (x : List UInt8) : x ∈ allP l ↔ x = blobP l 6 [] ∨ ∃ e ∈ l, x ∈ partP l e := by
  unfold allP allTo
  rw [List.take_length]
  simp
theorem all_same {l m : List En} (hl : Tree l) (hm : Tree m) (h : ∀ e, e ∈ m ↔ e ∈ l) (x : List UInt8) : x ∈ allP m ↔ x ∈ allP l := by
  rw [all_mem, all_mem]
  have hb := blob_turn hl hm h
  have hp : ∀ e, partP m e = partP l e := fun e => by unfold partP; rw [hb]
  rw [hb]
  constructor
  · rintro (e | ⟨e, he, hx⟩)
    · exact .inl e
    · exact .inr ⟨e, (h e).1 he, by rw [← hp]; exact hx⟩
  · rintro (e | ⟨e, he, hx⟩)
    · exact .inl e
    · exact .inr ⟨e, (h e).2 he, by rw [hp]; exact hx⟩
theorem outs_same {A B : List (List UInt8)} (h : ∀ x, x ∈ A ↔ x ∈ B) : outsP A = outsP B := by
  rcases outs_spec B with ⟨hn, x, hx, y, hy, e, hne⟩ | ⟨out, ho, hs, hmm, hu⟩
  · rw [hn]
    exact outs_none A x y ((h x).2 hx) ((h y).2 hy) e hne
  · rw [ho]
    exact outs_of A out hs (fun x => by rw [hmm, h]) (fun x hx y hy => hu x ((h x).1 hx) y ((h y).1 hy))
theorem built_same {l m : List En} (hl : Tree l) (hm : Tree m) (h : ∀ e, e ∈ m ↔ e ∈ l) : builtP m = builtP l := outs_same (all_same hl hm h)
theorem tree_rev {l : List En} (ht : Tree l) (hw : wrongP l = 0) : Tree l.reverse ∧ wrongP l.reverse = 0 ∧ builtP l.reverse = builtP l ∧ blobP l.reverse 6 [] = blobP l 6 [] := by
  have hm : ∀ e, e ∈ l.reverse ↔ e ∈ l := fun e => List.mem_reverse
  obtain ⟨h1, h2⟩ := tree_same ht hw hm (by rw [List.length_reverse]; exact ht.len) (by rw [List.pairwise_reverse]; exact (tree_once l ht).imp (fun h e => h e.symm))
  exact ⟨h1, h2, built_same ht h1 hm, blob_turn ht h1 hm 6 []⟩
end Go.Proofs.YtjmacegibchplaaGreatDoor

/-
  A tree brought over a link that loses things, and brought again: over plain lists. No walk.
-/
namespace Go.Proofs.YtjmacegibchplaaGreatDoor
set_option linter.unusedVariables false
theorem try_nil2 (room : Int) (link : List Int) : ∀ (k : Nat) (st : List (List UInt8 × List UInt8)) (s : Nat × Nat × Nat), ((tryP room link [] k st s).1 = 0 ∨ (tryP room link [] k st s).1 = 10) ∧ (tryP room link [] k st s).2.2.2 = s.2
  | 0, st, s => by simp [tryP]
  | k + 1, st, s => by
    simp only [tryP]
    split
    · have := try_nil2 room link k st (s.1 + 1, s.2.1 + 0, s.2.2 + 0)
      exact this
    · have h2 : (if link.getD s.1 0 = 3 then putsP room (putsP room st []).2 [] else putsP room st []) = (0, st) := by
        split <;> simp [putsP]
      split
      · rw [h2]; exact ⟨.inl rfl, rfl⟩
      · rw [h2]
        exact try_nil2 room link k st (s.1 + 1, s.2.1 + 0, s.2.2 + 0)
theorem up_again (room : Int) {t : List En} {blobs : List (List UInt8)} (hw : wrongP t = 0) (hb : builtP t = some blobs) {tries batch : Int} {L : List Int} (hp : planOk tries batch L = true) {st : List (List UInt8 × List UInt8)} (hall : ∀ b ∈ blobs, (atP st (P.digest b)).isSome = true) :
    ((upP room t tries batch L st).2.2.1 = 0 ∧ (upP room t tries batch L st).1 = P.digest (blobP t 6 []) ∨ (upP room t tries batch L st).2.2.1 = 10) ∧ (upP room t tries batch L st).2.1.2 = (0, 0) := by
  have hm : blobs.filter (fun b => !(atP st (P.digest b)).isSome) = [] := by
    rw [List.filter_eq_nil_iff]
    intro b hbb
    rw [hall b hbb]
    simp
  have hbr : ((bringP room batch tries.toNat L blobs st).1 = 0 ∨ (bringP room batch tries.toNat L blobs st).1 = 10) ∧ (bringP room batch tries.toNat L blobs st).2.2.2 = (0, 0) := by
    obtain ⟨h1, h2⟩ := try_nil2 room L tries.toNat st (0, 0, 0)
    simp only [bringP, hm]
    split
    · exact ⟨h1, h2⟩
    · rename_i hz
      have hz' : (tryP room L [] tries.toNat st (0, 0, 0)).1 = 0 := by simpa using hz
      simp only [List.length_nil, sendP]
      exact ⟨by simp, h2⟩
  unfold upP
  rw [if_neg (by simpa using hw), hb]
  simp only [hp, Bool.true_eq_false, if_false]
  refine ⟨?_, hbr.2⟩
  rcases hbr.1 with h | h
  · left; exact ⟨h, by rw [if_pos h]⟩
  · right; exact h
theorem up_first {t : List En} {blobs : List (List UInt8)} (ht : Tree t) (hw : wrongP t = 0) (hb : builtP t = some blobs) {batch : Int} {L : List Int} (hp : planOk 9 batch L = true) (U : List UInt8 × (Nat × Nat × Nat) × Int × List (List UInt8 × List UInt8)) (hU : upP 100000 t.reverse 9 batch L [] = U) :
    (U.2.2.1 = 0 ∧ U.1 = P.digest (blobP t 6 []) ∧ blobs.length ≤ U.2.1.2.1 ∧ bytesP blobs ≤ U.2.1.2.2 ∧ U.2.1.2.1 ≤ 9 * blobs.length ∧ (L.countP badK = 0 → U.2.1.2.1 = blobs.length) ∧ Held (atP U.2.2.2) t ∧ ∀ b ∈ blobs, (atP U.2.2.2 (P.digest b)).isSome = true) ∨ (U.2.2.1 = 10 ∧ 9 ≤ L.countP badK) := by
  obtain ⟨h1, h2, h3, h4⟩ := tree_rev ht hw
  obtain ⟨f1, f2, f3, f4⟩ := built_facts ht hb
  rw [hb] at h3
  unfold upP at hU
  rw [if_neg (by simpa using h2), h3] at hU
  simp only [hp, Bool.true_eq_false, if_false] at hU
  rw [h4] at hU
  obtain ⟨miss, hmiss, hgrew, hcase⟩ := bring_any (room := 100000) (blobs := blobs) (by omega) batch 9 L [] (roomy_nil _ _)
  have hm : miss = blobs := by
    rw [hmiss, List.filter_eq_self]
    intro b _
    simp [atP]
  subst hm
  have e9 : (9 : Int).toNat = 9 := rfl
  rw [e9] at hU
  subst hU
  rcases hcase with ⟨c1, c2, c3, c4, c5, c6⟩ | ⟨c1, c2⟩
  · left
    exact ⟨c1, by rw [if_pos c1], c3, c5, c4, c6, bring_held hb (fun d b h => by simp [atP] at h) hgrew c2, c2⟩
  · right
    exact ⟨c1, c2⟩
theorem order_same {t : List En} (ht : Tree t) (i : Nat) (h : i < (orderP t).length) : t.countP (fun z => enEq (orderP t)[i] z) = 1 := by
  have hm : (orderP t)[i] ∈ t := (order_mem t ht _).1 (List.getElem_mem h)
  generalize (orderP t)[i] = x at *
  have ho := tree_once t ht
  clear ht h
  induction t with
  | nil => simp at hm
  | cons y r ih =>
    rw [List.pairwise_cons] at ho
    rw [List.countP_cons]
    rcases List.mem_cons.1 hm with e | e
    · subst e
      have hz : r.countP (fun z => enEq x z) = 0 := by
        rw [List.countP_eq_zero]
        intro z hz he
        have := (enEq_iff x z).1 he
        subst this
        exact ho.1 x hz rfl
      rw [hz, if_pos ((enEq_iff x x).2 rfl)]
    · have hne : ¬ enEq x y = true := fun he => by
        have := (enEq_iff x y).1 he
        subst this
        exact ho.1 x e rfl
      rw [ih e ho.2, if_neg hne]
theorem plan_link (batch : Int) (link : List Int) (hb : 1 ≤ batch ∧ batch ≤ 5000) : planOk 9 batch ((link.take 60).map (fun r => pickP r 4)) = true := by
  unfold planOk
  rw [Bool.and_eq_true, decide_eq_true_eq, List.all_eq_true]
  refine ⟨by omega, fun k hk => ?_⟩
  obtain ⟨r, _, rfl⟩ := List.mem_map.1 hk
  have h1 : 0 ≤ pickP r 4 := by unfold pickP; exact Int.emod_nonneg _ (by decide)
  have h2 : pickP r 4 < 4 := by unfold pickP; exact Int.emod_lt_of_pos _ (by decide)
  simp; omega
end Go.Proofs.YtjmacegibchplaaGreatDoor

/-
  The document's examples: the plain answers. No walk.
-/
namespace Go.Proofs.YtjmacegibchplaaGreatDoor
set_option linter.unusedVariables false
end Go.Proofs.YtjmacegibchplaaGreatDoor

/-
  The program's Fetch: paths, and what stands under a digest.
-/
namespace Go.Proofs.YtjmacegibchplaaGreatDoor
open Go.RowKit Go.Maps Go.WideMaps
set_option linter.unusedVariables false
theorem join_any (d n : List UInt8) (w : World) (hd : d.length ≤ 100000) (hn : n.length ≤ 100000) :
    Calls Tryz.prog 140 #[.string (bs d), .string (bs n)] w fun e w' => e = .returned (.string (bs (pre d ++ n))) ∧ w' = w := by
  by_cases h : d = []
  · subst h
    have e2 : (bs ([] : List UInt8)).toList.isEmpty = true := by rw [ByteArray.toList_eq, bs_data]; rfl
    have Hr := hide (show bs (pre [] ++ n) = bs n by rfl)
    go_enter Tryz.func140, Tryz.ntmps140
    go_wp2_with fail
    go_ret
    exact ⟨ret_string (unhide Hr).symm, rfl⟩
  · have e1 : ((bs d).toList == (⟨#[]⟩ : ByteArray).toList) = false := by
      have := str_eq2 d []
      rw [show (d == ([] : List UInt8)) = false by simpa using h] at this
      exact this
    have e2 : (bs d).toList.isEmpty = false := by rw [ByteArray.toList_eq, bs_data]; simpa using h
    have Hr := hide (show bs (pre d ++ n) = (bs d ++ (⟨#[47]⟩ : ByteArray)) ++ bs n by
      apply ByteArray.ext
      unfold pre
      rw [if_neg h]
      simp [bs, ByteArray.data_append])
    have hz1 := bs_size d
    have hz2 := bs_size n
    clear h
    go_enter Tryz.func140, Tryz.ntmps140
    go_wp2_with fail
    go_ret
    exact ⟨ret_string (unhide Hr).symm, rfl⟩
set_option maxRecDepth 100000 in
set_option maxHeartbeats 1000000 in
theorem blobUnder_any (st : List (List UInt8 × List UInt8)) (pb um n : Nat) (room : Int) (d : List UInt8) (w : World) (h : PStore w pb um n room st) (hd : d.length ≤ maxLen) (hsz : ∀ b, atP st d = some b → b.length ≤ 10000000) :
    Calls Tryz.prog 138 #[.pointer (some ⟨pb, 0, none⟩), .string (bs d)] w fun e w' => e = .returned (.tuple #[.string (bs (blobS (atP st) d).2), .int .i64 (blobS (atP st) d).1]) ∧ Below w.heap.size w w' := by
  have hget := get_any st pb um n room d w h hd hsz
  cases ha : atP st d with
  | none =>
    have h1 : getB st d = [] := by unfold getB; rw [ha]; rfl
    have h2 : getE st d = 7 := by unfold getE; rw [ha]; rfl
    have Hr := hide (show blobS (atP st) d = (7, []) by unfold blobS; rw [ha])
    rw [h1, h2] at hget
    clear ha h1 h2 hsz h
    go_enter Tryz.func138, Tryz.ntmps138
    go_wp2_with fail
    refine hget.mono ?_
    rintro e w1 ⟨rfl, hb1⟩
    go_wp2_with fail
    go_ret2
    exact ⟨by rw [unhide Hr]; rfl, hb1⟩
  | some b =>
    have h1 : getB st d = b := by unfold getB; rw [ha]; rfl
    have h2 : getE st d = 0 := by unfold getE; rw [ha]; rfl
    have hdg := fun w => tdig b w (hsz b ha)
    rw [h1, h2] at hget
    have hx := str_eq2 (P.digest b) d
    by_cases he : P.digest b = d
    · have Hr := hide (show blobS (atP st) d = (0, b) by unfold blobS; rw [ha]; simp [he])
      rw [show (P.digest b == d) = true by simpa using he] at hx
      clear ha h1 h2 hsz h he
      generalize P.digest b = D at *
      go_enter Tryz.func138, Tryz.ntmps138
      go_wp2_with fail
      refine hget.mono ?_
      rintro e w1 ⟨rfl, hb1⟩
      clear hget
      go_wp2_with fail
      refine (hdg _).mono ?_
      rintro e w2 ⟨rfl, hb2⟩
      have hbb := hb1.trans (hb2.mono hb1.size)
      clear hb1 hb2
      go_wp2_with fail
      go_ret2
      exact ⟨by rw [unhide Hr]; rfl, hbb⟩
    · have Hr := hide (show blobS (atP st) d = (8, []) by unfold blobS; rw [ha]; simp [he])
      rw [show (P.digest b == d) = false by simpa using he] at hx
      clear ha h1 h2 hsz h he
      generalize P.digest b = D at *
      go_enter Tryz.func138, Tryz.ntmps138
      go_wp2_with fail
      refine hget.mono ?_
      rintro e w1 ⟨rfl, hb1⟩
      clear hget
      go_wp2_with fail
      refine (hdg _).mono ?_
      rintro e w2 ⟨rfl, hb2⟩
      have hbb := hb1.trans (hb2.mono hb1.size)
      clear hb1 hb2
      go_wp2_with fail
      go_ret2
      exact ⟨by rw [unhide Hr]; rfl, hbb⟩
theorem itemsOf_any (l : List UInt8) (w : World) (hl : l.length ≤ maxLen) :
    Calls Tryz.prog 139 #[.string (bs l)] w fun e w' => Below w.heap.size w w' ∧ ((decOk l = none ∧ e = .returned (.tuple #[.slice none 0 0, .int .i64 8]))
      ∨ ∃ items v, decOk l = some items ∧ FitAll items ∧ items.length ≤ 255 ∧ e = .returned (.tuple #[v, .int .i64 0]) ∧ OwnsIt w' w.heap.size v items) := by
  go_enter Tryz.func139, Tryz.ntmps139
  go_wp2_with fail
  refine (dirDecode_any l w hl).mono ?_
  rintro e w1 ⟨hb, ⟨hd, rfl⟩ | ⟨items, v, hd, hf, hl2, rfl, ho⟩⟩
  · have Hd := hide hd
    clear hd
    go_wp2_with fail
    go_ret2
    exact ⟨hb, .inl ⟨unhide Hd, rfl⟩⟩
  · have Hd := hide hd
    clear hd
    go_wp2_with fail
    go_ret2
    exact ⟨hb, .inr ⟨items, _, unhide Hd, hf, hl2, rfl, ho⟩⟩
def itV (x : P.It) : Value := .agg #[.string x.name, .int .i64 x.kind, .string x.dig, .int .i64 x.size, .string x.tgt]
set_option maxHeartbeats 1000000 in
theorem target_any (p : List UInt8) (x : P.It) (w : World) (hg : GlobOk w) (hp : p.length ≤ 1100000) (hd1 : (sp p).length ≤ 100) (hl : x.tgt.size ≤ 1100000) :
    Calls Tryz.prog 142 #[.string (bs p), itV x] w fun e w' => Below w.heap.size w w' ∧ e = .returned (if outP (((sp p).length : Int) - 1) x.tgt.data.toList = true then .tuple #[.string ⟨#[]⟩, .slice none 0 0, .int .i64 8] else .tuple #[.string x.tgt, .slice none 0 0, .int .i64 0]) := by
  obtain ⟨nm, kd, dg, sz, tg⟩ := x
  obtain ⟨t, rfl⟩ : ∃ t, tg = bs t := ⟨tg.data.toList, (bs_of tg).symm⟩
  simp only [bs_data, bs_size] at hl ⊢
  have hbA : Below w.heap.size w (w.alloc (.cells #[.string nm, .int .i64 kd, .string dg, .int .i64 sz, .string (bs t)] 47)) := (Below.refl _ _).alloc (Nat.le_refl _) _
  have hle := leads_any p t _ (hg.below hbA (Nat.le_refl _)) hp hd1 hl
  have hbk := heap_alloc_new w (.cells #[.string nm, .int .i64 kd, .string dg, .int .i64 sz, .string (bs t)] 47)
  unfold itV
  generalize hB : outP (((sp p).length : Int) - 1) t = B at *
  clear hB
  have Hle := hide hle
  clear hle
  go_enter Tryz.func142, Tryz.ntmps142
  go_wp2_with fail
  refine (unhide Hle).mono ?_
  rintro e w1 ⟨rfl, hb1⟩
  have k4 := cell_of_block (j := 4) ((hb1.block w.heap.size (by simp)).trans hbk)
  simp only [List.getElem?_toArray, List.getElem?_cons_zero, List.getElem?_cons_succ] at k4
  have hbb : Below w.heap.size w w1 := hbA.trans (hb1.mono hbA.size)
  clear hbA hb1 hbk Hle
  cases B with
  | true =>
    go_wp2_with fail
    go_ret3
    exact ⟨hbb, rfl⟩
  | false =>
    go_wp2_with fail
    go_ret3
    exact ⟨hbb, rfl⟩
end Go.Proofs.YtjmacegibchplaaGreatDoor
