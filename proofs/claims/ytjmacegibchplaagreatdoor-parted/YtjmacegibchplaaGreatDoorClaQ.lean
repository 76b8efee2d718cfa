/-
  Two trees of one root, each without a clash: the same, or two blobs of one digest differ. Plain lists, no walk.
-/
import Derived.Test.YtjmacegibchplaaGreatDoorUpA
import Derived.Test.YtjmacegibchplaaGreatDoorTurnP
namespace Go.Proofs.YtjmacegibchplaaGreatDoor
set_option linter.unusedVariables false
theorem pigeon : ∀ (l m : List (List UInt8)), l.Pairwise (fun x y => x ≠ y) → (∀ a ∈ l, a ∈ m) → l.length ≤ m.length
  | [], m, _, _ => Nat.zero_le _
  | a :: l, m, hn, hs => by
    rw [List.pairwise_cons] at hn
    have ha := hs a (by simp)
    have h := pigeon l (m.erase a) hn.2 (fun b hb => (List.mem_erase_of_ne (fun e => hn.1 b hb e.symm)).2 (hs b (by simp [hb])))
    rw [List.length_erase_of_mem ha] at h
    have := List.length_pos_of_mem ha
    simp; omega
def paths (l : List En) : List (List UInt8) := l.map (fun e => e.path.data.toList)
theorem paths_once (l : List En) (ht : Tree l) : (paths l).Pairwise (fun x y => x ≠ y) := by
  unfold paths; rw [List.pairwise_map]; exact path_once l ht
theorem path_uniq (l : List En) (ht : Tree l) (a b : En) (ha : a ∈ l) (hb : b ∈ l) (h : a.path.data.toList = b.path.data.toList) : a = b := by
  obtain ⟨i, hi, rfl⟩ := List.getElem_of_mem ha
  obtain ⟨j, hj, rfl⟩ := List.getElem_of_mem hb
  have := tree_inj l ht i j hi hj h
  subst this; rfl
theorem inP_iff (x y : List En) (hy : Tree y) (i : Nat) (hi : i < x.length) : inP x y i = true ↔ x[i] ∈ y := by
  unfold inP
  rw [en_getD x i hi]
  rcases find_at y x[i].path.data.toList with ⟨j, hj, e, ep, _, _⟩ | ⟨e, hn⟩
  · rw [e, Int.toNat_natCast, en_getD y j hj]
    have hng : ¬ ((j : Int) < 0) := by omega
    simp only [hng, decide_false, Bool.not_false, Bool.true_and, enEq_iff]
    constructor
    · intro h; rw [← h]; exact List.getElem_mem hj
    · intro h; exact path_uniq y hy _ _ (List.getElem_mem hj) h ep
  · rw [e]
    simp only [show ((-1 : Int) < 0) by decide, decide_true, Bool.not_true, Bool.false_and]
    constructor
    · intro h; simp at h
    · intro h
      rw [List.find?_eq_none] at hn
      exact absurd (by simp) (hn _ h)
theorem same_iff (x y : List En) (hx : Tree x) (hy : Tree y) : sameP x y = true ↔ ∀ e, e ∈ x ↔ e ∈ y := by
  unfold sameP
  simp only [Bool.and_eq_true, beq_iff_eq, List.all_eq_true, List.mem_range]
  constructor
  · rintro ⟨hl, hin⟩
    have hxy : ∀ e ∈ x, e ∈ y := by
      intro e he
      obtain ⟨i, hi, rfl⟩ := List.getElem_of_mem he
      exact (inP_iff x y hy i hi).1 (hin i hi)
    refine fun e => ⟨hxy e, fun he => ?_⟩
    have hp : e.path.data.toList ∈ paths x := by
      refine Classical.byContradiction fun hne => ?_
      have hey : e.path.data.toList ∈ paths y := List.mem_map.2 ⟨e, he, rfl⟩
      have h := pigeon (paths x) ((paths y).erase e.path.data.toList) (paths_once x hx) (fun p hp => by
        refine (List.mem_erase_of_ne (fun e' => hne (by rw [← e']; exact hp))).2 ?_
        obtain ⟨a, ha, rfl⟩ := List.mem_map.1 hp
        exact List.mem_map.2 ⟨a, hxy a ha, rfl⟩)
      rw [List.length_erase_of_mem hey] at h
      have h2 := List.length_pos_of_mem hey
      unfold paths at h h2
      simp only [List.length_map] at h h2
      omega
    obtain ⟨a, ha, e2⟩ := List.mem_map.1 hp
    rw [← path_uniq y hy a e (hxy a ha) he e2]; exact ha
  · intro h
    refine ⟨?_, fun i hi => (inP_iff x y hy i hi).2 ((h _).1 (List.getElem_mem hi))⟩
    have h1 := pigeon (paths x) (paths y) (paths_once x hx) (fun p hp => by
      obtain ⟨a, ha, rfl⟩ := List.mem_map.1 hp
      exact List.mem_map.2 ⟨a, (h a).1 ha, rfl⟩)
    have h2 := pigeon (paths y) (paths x) (paths_once y hy) (fun p hp => by
      obtain ⟨a, ha, rfl⟩ := List.mem_map.1 hp
      exact List.mem_map.2 ⟨a, (h a).2 ha, rfl⟩)
    unfold paths at h1 h2
    simp only [List.length_map] at h1 h2
    omega
theorem kid_ents (x y : List En) (hx : Tree x) (hy : Tree y) (h : ∀ e, e ∈ x ↔ e ∈ y) (d : List UInt8) : (kidsP x d).map (fun i => x.getD i en0) = (kidsP y d).map (fun i => y.getD i en0) := by
  have hs : ∀ (l : List En), Tree l → ((kidsP l d).map (fun i => l.getD i en0)).Pairwise (fun a b => less a.path.data.toList b.path.data.toList = true) := by
    intro l ht
    rw [List.pairwise_map]
    refine List.Pairwise.imp_of_mem ?_ (insG_sorted l (pre d) (l.length + 1) [])
    intro i j hi hj hij
    obtain ⟨hi1, hi2⟩ := (kids_iff l ht d i).1 hi
    obtain ⟨hj1, hj2⟩ := (kids_iff l ht d j).1 hj
    have ei := path_pre l ht i hi1
    have ej := path_pre l ht j hj1
    have ni := nm_up l ht i hi1
    have nj := nm_up l ht j hj1
    rw [hi2] at ei ni
    rw [hj2] at ej nj
    rw [ni, nj] at hij
    show less (pathAt l i) (pathAt l j) = true
    generalize nameOf (pathAt l i) = a at *
    generalize nameOf (pathAt l j) = b at *
    rw [ei, ej, less_pre]; exact hij
  refine order_one (fun a b : En => less a.path.data.toList b.path.data.toList) (fun _ => less_irr _) (fun _ _ _ => less_trans _ _ _) _ _ (hs x hx) (hs y hy) (fun e => ?_)
  rw [← mem_inDir x hx, ← mem_inDir y hy]
  unfold inDir
  simp only [List.mem_filter, h e]
def itemE (p : List UInt8) (bl : List UInt8 → List UInt8) (e : En) : P.It :=
  if e.kind = 3 then ⟨bs (e.path.data.toList.drop p.length), 3, ⟨#[]⟩, 0, e.data⟩
  else ⟨bs (e.path.data.toList.drop p.length), e.kind, bs (P.digest (if e.kind = 0 then bl (e.path.data.toList ++ [47]) else e.data.data.toList)), ((if e.kind = 0 then bl (e.path.data.toList ++ [47]) else e.data.data.toList).length : Int), ⟨#[]⟩⟩
theorem items_ents (l : List En) (d : List UInt8) (bl : List UInt8 → List UInt8) : itemsP l (pre d) bl = ((kidsP l d).map (fun i => l.getD i en0)).map (itemE (pre d) bl) := by
  unfold itemsP kidsP
  rw [List.map_map]
  rfl
theorem blob_same (x y : List En) (hx : Tree x) (hy : Tree y) (h : ∀ e, e ∈ x ↔ e ∈ y) : ∀ f d, blobP x f (pre d) = blobP y f (pre d)
  | 0, _ => rfl
  | f + 1, d => by
    show dirBytes (itemsP x (pre d) (blobP x f)) = dirBytes (itemsP y (pre d) (blobP y f))
    rw [items_ents, items_ents, kid_ents x y hx hy h d]
    congr 1
    refine List.map_congr_left fun e he => ?_
    have hey := (mem_inDir y hy d e).2 he
    have hm : e ∈ y := by unfold inDir at hey; exact (List.mem_filter.1 hey).1
    obtain ⟨j, hj, rfl⟩ := List.getElem_of_mem hm
    have hne : y[j].path.data.toList ≠ [] := by
      have := path_ne y hy j hj
      unfold pathAt at this
      rwa [en_getD y j hj] at this
    have := blob_same x y hx hy h f y[j].path.data.toList
    rw [pre_some hne] at this
    unfold itemE
    rw [this]
theorem part_same (x y : List En) (hx : Tree x) (hy : Tree y) (h : ∀ e, e ∈ x ↔ e ∈ y) (b : List UInt8) : b ∈ allP x → b ∈ allP y := by
  unfold allP allTo
  rw [List.take_length, List.take_length]
  simp only [List.mem_cons, List.mem_flatMap]
  rintro (hb | ⟨e, he, hb⟩)
  · left; rw [hb]; exact blob_same x y hx hy h 6 []
  · right
    refine ⟨e, (h e).1 he, ?_⟩
    obtain ⟨j, hj, rfl⟩ := List.getElem_of_mem he
    have hne : x[j].path.data.toList ≠ [] := by
      have := path_ne x hx j hj
      unfold pathAt at this
      rwa [en_getD x j hj] at this
    have := blob_same x y hx hy h 6 x[j].path.data.toList
    rw [pre_some hne] at this
    unfold partP at hb ⊢
    rw [← this]; exact hb
theorem last_of (kr : List (List UInt8)) (hc : clashR kr = false) (b : List UInt8) (hb : b ∈ kr) : lastR kr (P.digest b) = some b := by
  cases hl : lastR kr (P.digest b) with
  | none => exact absurd rfl (lastR_none hl b hb)
  | some y =>
    obtain ⟨hy, e⟩ := lastR_some hl
    rw [clashR_false kr hc y hy b hb e]
theorem walk_same (x y : List En) (hx : Tree x) (hy : Tree y) (hcx : clashR (keptAll x) = false) (hcy : clashR (keptAll y) = false) (hag : ∀ d s t, lastR (keptAll x) d = some s → lastR (keptAll y) d = some t → s = t) :
    ∀ f d, blobP x 6 (pre d) = blobP y 6 (pre d) → ∀ i ∈ walkP x f d, x.getD i en0 ∈ y
  | 0, _, _, i, hi => by simp [walkP] at hi
  | f + 1, d, hb, i, hi => by
    rw [blob_dir x hx, blob_dir y hy] at hb
    have h1 := (decOk_iff _ _).2 ⟨kids_ok x hx d, rfl⟩
    have h2 := (decOk_iff _ _).2 ⟨kids_ok y hy d, rfl⟩
    rw [hb, h2] at h1
    have hit : (kidsP y d).map (itemQ y) = (kidsP x d).map (itemQ x) := Option.some.inj h1
    rw [walk_succ] at hi
    simp only [List.mem_flatMap] at hi
    obtain ⟨k, hk, hik⟩ := hi
    obtain ⟨hkl, hku⟩ := (kids_iff x hx d k).1 hk
    have hmem : itemQ x k ∈ (kidsP y d).map (itemQ y) := by rw [hit]; exact List.mem_map.2 ⟨k, hk, rfl⟩
    obtain ⟨m, hm, hq⟩ := List.mem_map.1 hmem
    obtain ⟨hml, hmu⟩ := (kids_iff y hy d m).1 hm
    have px := path_pre x hx k hkl
    have py := path_pre y hy m hml
    rw [hku] at px
    rw [hmu] at py
    have kx := fineP_kind x k hkl (hx.fine k hkl)
    have ky := fineP_kind y m hml (hy.fine m hml)
    have memx : x.getD k en0 ∈ x := by rw [en_getD x k hkl]; exact List.getElem_mem hkl
    have memy : y.getD m en0 ∈ y := by rw [en_getD y m hml]; exact List.getElem_mem hml
    rw [← en_getD x k hkl] at kx
    rw [← en_getD y m hml] at ky
    have qx := itemQ_eq x hx k hkl (x.getD k en0).path.data.toList (x.getD k en0).data.data.toList (x.getD k en0).kind (by rw [bs_of, bs_of])
    have qy := itemQ_eq y hy m hml (y.getD m en0).path.data.toList (y.getD m en0).data.data.toList (y.getD m en0).kind (by rw [bs_of, bs_of])
    rw [qx, qy] at hq
    have bsi : ∀ a b : List UInt8, bs a = bs b → a = b := fun a b h => by rw [← bs_data a, h, bs_data]
    have hkp : ∀ (l : List En), Tree l → ∀ e ∈ l, ∀ b ∈ partP l e, b ∈ keptAll l := fun l hl e he b hbp => (kept_mem l hl b).2 (by
      unfold allP allTo
      rw [List.take_length]
      exact List.mem_cons_of_mem _ (List.mem_flatMap.2 ⟨e, he, hbp⟩))
    have fin : ∀ (pe : (x.getD k en0).path.data.toList = (y.getD m en0).path.data.toList) (ke : (x.getD k en0).kind = (y.getD m en0).kind) (de : (x.getD k en0).data.data.toList = (y.getD m en0).data.data.toList), x.getD k en0 = y.getD m en0 := by
      intro pe ke de
      generalize x.getD k en0 = a at *
      generalize y.getD m en0 = b at *
      obtain ⟨p1, k1, d1⟩ := a
      obtain ⟨p2, k2, d2⟩ := b
      simp only at pe ke de
      rw [← bs_of p1, ← bs_of d1, pe, ke, de, bs_of, bs_of]
    have hpeq : nameOf (pathAt x k) = nameOf (pathAt y m) → (x.getD k en0).path.data.toList = (y.getD m en0).path.data.toList := fun h => by
      show pathAt x k = pathAt y m
      rw [px, py, h]
    have hmain : x.getD k en0 = y.getD m en0 ∧ ((x.getD k en0).kind = 0 → blobP x 6 ((x.getD k en0).path.data.toList ++ [47]) = blobP y 6 ((x.getD k en0).path.data.toList ++ [47])) := by
      by_cases h3y : (y.getD m en0).kind = 3
      · by_cases h3x : (x.getD k en0).kind = 3
        · rw [if_pos h3y, if_pos h3x] at hq
          simp only [P.It.mk.injEq] at hq
          have hn := bsi _ _ hq.1
          exact ⟨fin (hpeq hn.symm) (by rw [h3x, h3y]) (bsi _ _ hq.2.2.2.2).symm, fun h => by rw [h3x] at h; simp at h⟩
        · rw [if_pos h3y, if_neg h3x] at hq
          simp only [P.It.mk.injEq] at hq
          exact absurd hq.2.1.symm h3x
      · by_cases h3x : (x.getD k en0).kind = 3
        · rw [if_neg h3y, if_pos h3x] at hq
          simp only [P.It.mk.injEq] at hq
          exact absurd hq.2.1 h3y
        · rw [if_neg h3y, if_neg h3x] at hq
          simp only [P.It.mk.injEq] at hq
          have hn := bsi _ _ hq.1
          have hkk : (x.getD k en0).kind = (y.getD m en0).kind := hq.2.1.symm
          have hdd := bsi _ _ hq.2.2.1
          have hpp := hpeq hn.symm
          by_cases h0 : (y.getD m en0).kind = 0
          · have h0x : (x.getD k en0).kind = 0 := by rw [hkk, h0]
            rw [if_pos h0, if_pos h0x] at hdd
            have bx := hkp x hx _ memx (blobP x 6 ((x.getD k en0).path.data.toList ++ [47])) (by unfold partP; rw [if_pos h0x]; simp)
            have bY := hkp y hy _ memy (blobP y 6 ((y.getD m en0).path.data.toList ++ [47])) (by unfold partP; rw [if_pos h0]; simp)
            have e := hag _ _ _ (last_of _ hcx _ bx) (by rw [← hdd]; exact last_of _ hcy _ bY)
            have dx : (x.getD k en0).data.data.toList = [] := by
              have := dataOk_bad (x.getD k en0)
              rw [kx, h0x] at this
              simpa [dataOk] using this
            have dy : (y.getD m en0).data.data.toList = [] := by
              have := dataOk_bad (y.getD m en0)
              rw [ky, h0] at this
              simpa [dataOk] using this
            exact ⟨fin hpp hkk (by rw [dx, dy]), fun _ => by rw [e, hpp]⟩
          · have h0x : ¬ (x.getD k en0).kind = 0 := by rw [hkk]; exact h0
            rw [if_neg h0, if_neg h0x] at hdd
            have h12 : ∀ e : En, kindBad e = false → ¬ e.kind = 3 → ¬ e.kind = 0 → e.kind = 1 ∨ e.kind = 2 := by
              intro e he h3 h0
              simp only [kindBad, Bool.or_eq_false_iff, decide_eq_false_iff_not] at he
              omega
            have bx := hkp x hx _ memx (x.getD k en0).data.data.toList (by unfold partP; rw [if_neg h0x, if_pos (h12 _ kx h3x h0x)]; simp)
            have bY := hkp y hy _ memy (y.getD m en0).data.data.toList (by unfold partP; rw [if_neg h0, if_pos (h12 _ ky h3y h0)]; simp)
            have e := hag _ _ _ (last_of _ hcx _ bx) (by rw [← hdd]; exact last_of _ hcy _ bY)
            exact ⟨fin hpp hkk e, fun h => absurd h h0x⟩
    unfold blk at hik
    rcases List.mem_append.1 hik with hik | hik
    · split at hik
      · rename_i h0
        have hbl := hmain.2 h0
        refine walk_same x y hx hy hcx hcy hag f (pathAt x k) ?_ i hik
        rw [pre_some (path_ne x hx k hkl)]
        exact hbl
      · simp at hik
    · rw [List.mem_singleton] at hik
      rw [hik, hmain.1]; exact memy
end Go.Proofs.YtjmacegibchplaaGreatDoor
