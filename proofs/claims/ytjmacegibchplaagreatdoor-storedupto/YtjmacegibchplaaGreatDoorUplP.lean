import Derived.Test.YtjmacegibchplaaGreatDoorPathP
/-
  The order in which the program goes through a tree, and what it makes of it. Plain lists, no walk.
-/
namespace Go.Proofs.YtjmacegibchplaaGreatDoor
set_option linter.unusedVariables false
def pre (d : List UInt8) : List UInt8 := if d = [] then [] else d ++ [47]
theorem pre_nil : pre [] = [] := rfl
theorem pre_some {d : List UInt8} (h : d ≠ []) : pre d = d ++ [47] := if_neg h
theorem pre_dir (d : List UInt8) : DirPath (pre d) := by
  by_cases h : d = []
  · exact .inl (by rw [h]; rfl)
  · exact .inr ⟨d, pre_some h⟩
theorem pre_len (d : List UInt8) : d.length ≤ (pre d).length := by
  by_cases h : d = []
  · rw [h]; simp
  · rw [pre_some h]; simp
def pathAt (l : List En) (i : Nat) : List UInt8 := (l.getD i en0).path.data.toList
def upAt (l : List En) (i : Nat) : List UInt8 := upPath (pathAt l i)
def kindAt (l : List En) (i : Nat) : Int := (l.getD i en0).kind
theorem part_ne (l : List En) (ht : Tree l) (i : Nat) (h : i < l.length) (n : List UInt8) (hn : n ∈ sp (pathAt l i)) : n ≠ [] := by
  unfold pathAt at hn
  rw [en_getD l i h] at hn
  have := fineP_name l i h (ht.fine i h) n hn
  intro e
  subst e
  simp [P.isName] at this
theorem name_ne (l : List En) (ht : Tree l) (i : Nat) (h : i < l.length) : nameOf (pathAt l i) ≠ [] := by
  refine part_ne l ht i h _ ?_
  rcases cut_cases (pathAt l i) with ⟨_, e1, _, e3⟩ | ⟨a, n, _, _, e1, _, e3⟩
  · rw [e1, e3]; simp
  · rw [e1, e3]; simp
theorem up_ne (l : List En) (ht : Tree l) (i : Nat) (h : i < l.length) (a n : List UInt8) (e : pathAt l i = a ++ 47 :: n) : a ≠ [] := by
  intro h0
  subst h0
  exact part_ne l ht i h [] (by rw [e]; simp [sp]) rfl
theorem path_ne (l : List En) (ht : Tree l) (i : Nat) (h : i < l.length) : pathAt l i ≠ [] := by
  intro e
  exact part_ne l ht i h [] (by rw [e]; simp [sp]) rfl
theorem path_pre (l : List En) (ht : Tree l) (i : Nat) (h : i < l.length) : pathAt l i = pre (upAt l i) ++ nameOf (pathAt l i) := by
  unfold upAt
  rcases cut_cases (pathAt l i) with ⟨_, _, e2, e3⟩ | ⟨a, n, e, _, _, e2, e3⟩
  · rw [e2, e3]; rfl
  · rw [e2, e3, pre_some (up_ne l ht i h a n e), e]; simp
theorem kid_pre (l : List En) (ht : Tree l) (i : Nat) (h : i < l.length) (d n : List UInt8) : kid (pre d) (pathAt l i) = some n ↔ upAt l i = d ∧ n = nameOf (pathAt l i) := by
  constructor
  · intro hk
    obtain ⟨e, hn, h47⟩ := kid_some hk
    unfold upAt
    by_cases hd : d = []
    · subst hd
      rw [pre_nil, List.nil_append] at e
      obtain ⟨_, e2, e3⟩ := cut_none (p := pathAt l i) (by rw [e]; exact h47)
      exact ⟨e2, by rw [e3, e]⟩
    · rw [pre_some hd] at e
      have e' : pathAt l i = d ++ 47 :: n := by rw [e]; simp
      obtain ⟨_, e2, e3⟩ := cut_some d n h47
      rw [e']; exact ⟨e2, e3.symm⟩
  · rintro ⟨rfl, rfl⟩
    have e := path_pre l ht i h
    have hn := name_ne l ht i h
    have h47 := name_no (pathAt l i)
    generalize nameOf (pathAt l i) = n at *
    generalize pre (upAt l i) = q at *
    rw [e]
    unfold kid
    have hpos := List.length_pos_iff.2 hn
    rw [if_pos ⟨by simp; omega, by simp, by simpa using h47⟩]
    simp
def kidsP (l : List En) (d : List UInt8) : List Nat := insP l (pre d)
theorem kids_iff (l : List En) (ht : Tree l) (d : List UInt8) (i : Nat) : i ∈ kidsP l d ↔ i < l.length ∧ upAt l i = d := by
  unfold kidsP
  rw [insP_iff l ht]
  constructor
  · rintro ⟨h, n, hk⟩
    rw [← en_getD l i h] at hk
    exact ⟨h, ((kid_pre l ht i h d n).1 hk).1⟩
  · rintro ⟨h, hu⟩
    refine ⟨h, nameOf (pathAt l i), ?_⟩
    rw [← en_getD l i h]
    exact (kid_pre l ht i h d _).2 ⟨hu, rfl⟩
theorem nm_up (l : List En) (ht : Tree l) (i : Nat) (h : i < l.length) : nm l (pre (upAt l i)) i = nameOf (pathAt l i) := by
  have e := path_pre l ht i h
  unfold nm
  show (pathAt l i).drop _ = _
  generalize nameOf (pathAt l i) = n at *
  rw [e, List.drop_left]
def walkP (l : List En) : Nat → List UInt8 → List Nat
  | 0, _ => []
  | f + 1, d => (kidsP l d).flatMap fun i => (if kindAt l i = 0 then walkP l f (pathAt l i) else []) ++ [i]
def blk (l : List En) (f : Nat) (i : Nat) : List Nat := (if kindAt l i = 0 then walkP l f (pathAt l i) else []) ++ [i]
theorem walk_succ (l : List En) (f : Nat) (d : List UInt8) : walkP l (f + 1) d = (kidsP l d).flatMap (blk l f) := rfl
def Under (d u : List UInt8) : Prop := pre d <+: u ++ [47]
theorem under_self (d : List UInt8) : Under d d := by
  unfold Under
  by_cases h : d = []
  · rw [h, pre_nil]; exact List.nil_prefix
  · rw [pre_some h]; exact List.prefix_refl _
theorem under_kid (l : List En) (ht : Tree l) (d u : List UInt8) (i : Nat) (hi : i ∈ kidsP l d) (h : Under (pathAt l i) u) : Under d u := by
  obtain ⟨hl, hu⟩ := (kids_iff l ht d i).1 hi
  unfold Under at h ⊢
  rw [pre_some (path_ne l ht i hl)] at h
  refine List.IsPrefix.trans ?_ h
  have e := path_pre l ht i hl
  rw [hu] at e
  rw [e, List.append_assoc]
  exact List.prefix_append _ _
theorem walk_lt (l : List En) (ht : Tree l) : ∀ f d i, i ∈ walkP l f d → i < l.length ∧ Under d (upAt l i)
  | 0, _, _, h => by simp [walkP] at h
  | f + 1, d, i, h => by
    rw [walk_succ] at h
    simp only [List.mem_flatMap, blk, List.mem_append, List.mem_singleton] at h
    obtain ⟨k, hk, hi⟩ := h
    rcases hi with hi | rfl
    · split at hi
      · obtain ⟨h1, h2⟩ := walk_lt l ht f _ i hi
        exact ⟨h1, under_kid l ht d _ k hk h2⟩
      · simp at hi
    · obtain ⟨h1, h2⟩ := (kids_iff l ht d i).1 hk
      exact ⟨h1, by rw [h2]; exact under_self d⟩
theorem under_len (l : List En) (ht : Tree l) (d : List UInt8) (i : Nat) (hi : i ∈ kidsP l d) (u : List UInt8) (h : Under (pathAt l i) u) : u ≠ d := by
  obtain ⟨hl, hu⟩ := (kids_iff l ht d i).1 hi
  intro e
  subst e
  unfold Under at h
  rw [pre_some (path_ne l ht i hl)] at h
  have h1 := h.length_le
  have h2 : (pathAt l i).length = (pre u).length + (nameOf (pathAt l i)).length := by
    have e := path_pre l ht i hl
    rw [hu] at e
    exact (congrArg List.length e).trans (by simp)
  have h3 := List.length_pos_iff.2 (name_ne l ht i hl)
  have h4 := pre_len u
  simp at h1
  omega
theorem slash_prefix (n m V : List UInt8) (hn : P.has n 47 = false) (hm : P.has m 47 = false) (h1 : n ++ [47] <+: V) (h2 : m ++ [47] <+: V) : n = m := by
  have key : ∀ n m : List UInt8, P.has m 47 = false → n ++ [47] <+: m ++ [47] → n = m := by
    intro n m hm h
    rcases List.prefix_concat_iff.1 h with e | e
    · exact List.append_cancel_right e
    · exact absurd (e.subset (by simp : (47 : UInt8) ∈ n ++ [47])) (has_false.1 hm)
  rcases Nat.le_total (n ++ [47]).length (m ++ [47]).length with h | h
  · exact key n m hm (List.prefix_of_prefix_length_le h1 h2 h)
  · exact (key m n hn (List.prefix_of_prefix_length_le h2 h1 h)).symm
theorem under_apart (l : List En) (ht : Tree l) (d u : List UInt8) (i j : Nat) (hi : i ∈ kidsP l d) (hj : j ∈ kidsP l d) (h1 : Under (pathAt l i) u) (h2 : Under (pathAt l j) u) : i = j := by
  obtain ⟨hil, hiu⟩ := (kids_iff l ht d i).1 hi
  obtain ⟨hjl, hju⟩ := (kids_iff l ht d j).1 hj
  have ei := path_pre l ht i hil
  have ej := path_pre l ht j hjl
  rw [hiu] at ei
  rw [hju] at ej
  unfold Under at h1 h2
  rw [pre_some (path_ne l ht i hil)] at h1
  rw [pre_some (path_ne l ht j hjl)] at h2
  have hni := name_no (pathAt l i)
  have hnj := name_no (pathAt l j)
  have hp : pathAt l i = pathAt l j := by
    generalize nameOf (pathAt l i) = n at *
    generalize nameOf (pathAt l j) = m at *
    rw [ei] at h1 ⊢
    rw [ej] at h2 ⊢
    obtain ⟨r1, e1⟩ := h1
    obtain ⟨r2, e2⟩ := h2
    have : n ++ [47] ++ r1 = m ++ [47] ++ r2 := by
      have := e1.trans e2.symm
      simp only [List.append_assoc] at this ⊢
      exact List.append_cancel_left this
    have hnm := slash_prefix n m _ hni hnj ⟨r1, rfl⟩ ⟨r2, this.symm⟩
    rw [hnm]
  refine tree_inj l ht i j hil hjl ?_
  rw [← en_getD l i hil, ← en_getD l j hjl]
  exact hp
theorem filter_blocks {α : Type} (p : α → Bool) (g : α → List α) : ∀ (L : List α), (∀ k ∈ L, (g k).filter p = [k]) → (L.flatMap g).filter p = L
  | [], _ => rfl
  | k :: L, h => by
    rw [List.flatMap_cons, List.filter_append, h k (by simp), filter_blocks p g L (fun x hx => h x (by simp [hx]))]; rfl
theorem walk_filter (l : List En) (ht : Tree l) (f : Nat) (d : List UInt8) : (walkP l (f + 1) d).filter (fun i => upAt l i == d) = kidsP l d := by
  rw [walk_succ]
  refine filter_blocks _ _ _ fun k hk => ?_
  unfold blk
  rw [List.filter_append]
  have h1 : (if kindAt l k = 0 then walkP l f (pathAt l k) else []).filter (fun i => upAt l i == d) = [] := by
    rw [List.filter_eq_nil_iff]
    intro i hi
    split at hi
    · have := under_len l ht d k hk _ (walk_lt l ht f _ i hi).2
      simpa using this
    · simp at hi
  have h2 := ((kids_iff l ht d k).1 hk).2
  rw [h1]
  simp [h2]
theorem walk_mono (l : List En) : ∀ f d i, i ∈ walkP l f d → i ∈ walkP l (f + 1) d
  | 0, _, _, h => by simp [walkP] at h
  | f + 1, d, i, h => by
    rw [walk_succ] at h ⊢
    simp only [List.mem_flatMap, blk, List.mem_append, List.mem_singleton] at h ⊢
    obtain ⟨k, hk, hi⟩ := h
    refine ⟨k, hk, hi.imp (fun hi => ?_) id⟩
    split at hi
    · rename_i h0; rw [if_pos h0]; exact walk_mono l f _ i hi
    · simp at hi
theorem walk_step (l : List En) : ∀ f d i j, i ∈ walkP l f d → kindAt l i = 0 → j ∈ kidsP l (pathAt l i) → j ∈ walkP l (f + 1) d
  | 0, _, _, _, h, _, _ => by simp [walkP] at h
  | f + 1, d, i, j, h, h0, hj => by
    rw [walk_succ] at h ⊢
    simp only [List.mem_flatMap, blk, List.mem_append, List.mem_singleton] at h ⊢
    obtain ⟨k, hk, hi⟩ := h
    rcases hi with hi | rfl
    · refine ⟨k, hk, .inl ?_⟩
      split at hi
      · rename_i hk0; rw [if_pos hk0]; exact walk_step l f _ i j hi h0 hj
      · simp at hi
    · refine ⟨i, hk, .inl ?_⟩
      rw [if_pos h0, walk_succ]
      simp only [List.mem_flatMap, blk, List.mem_append, List.mem_singleton]
      exact ⟨j, hj, .inr rfl⟩
theorem walk_deep (l : List En) (ht : Tree l) : ∀ m i, i < l.length → (sp (pathAt l i)).length ≤ m + 1 → i ∈ walkP l (m + 1) []
  | 0, i, h, hs => by
    rcases cut_cases (pathAt l i) with ⟨_, _, e2, _⟩ | ⟨a, n, e, _, e1, _, _⟩
    · rw [walk_succ]
      simp only [List.mem_flatMap, blk, List.mem_append, List.mem_singleton]
      exact ⟨i, (kids_iff l ht [] i).2 ⟨h, e2⟩, .inr rfl⟩
    · have := List.length_pos_iff.2 (sp_ne a)
      rw [e1] at hs; simp at hs; exact absurd hs (sp_ne a)
  | m + 1, i, h, hs => by
    rcases cut_cases (pathAt l i) with ⟨_, e1, _, _⟩ | ⟨a, n, e, _, e1, e2, _⟩
    · exact walk_mono l _ _ i (walk_deep l ht m i h (by rw [e1]; simp))
    · have hf := ht.fine i h
      have hup : upBad l (pathAt l i) = false := by
        simp only [fineP, Bool.and_eq_true, Bool.not_eq_true'] at hf
        exact hf.1.2
      have h2 : ¬ (sp (pathAt l i)).length ≤ 1 := by
        rw [e1]
        have := List.length_pos_iff.2 (sp_ne a)
        simp; exact sp_ne a
      unfold upBad at hup
      rw [if_neg h2, e2] at hup
      by_cases hneg : findP l a < 0
      · rw [if_pos hneg] at hup; simp at hup
      · rw [if_neg hneg] at hup
        have hk0 : (l.getD (findP l a).toNat en0).kind = 0 := by simpa using hup
        unfold findP at hneg hk0
        split at hneg
        · rename_i j hj
          rw [hj] at hk0
          simp only [Int.toNat_natCast] at hk0
          rw [List.findIdx?_eq_some_iff_getElem] at hj
          obtain ⟨hjl, hjp, _⟩ := hj
          have hpj : pathAt l j = a := by
            unfold pathAt; rw [en_getD l j hjl]; simpa using hjp
          refine walk_step l (m + 1) [] j i (walk_deep l ht m j hjl ?_) hk0 ((kids_iff l ht _ i).2 ⟨h, by rw [hpj]; exact e2⟩)
          rw [hpj]
          rw [e1] at hs
          simpa using hs
        · simp at hneg
theorem walk_all (l : List En) (ht : Tree l) (i : Nat) : i ∈ walkP l 6 [] ↔ i < l.length := by
  refine ⟨fun h => (walk_lt l ht 6 [] i h).1, fun h => walk_mono l 5 [] i (walk_deep l ht 4 i h ?_)⟩
  have hf := ht.fine i h
  simp only [fineP, Bool.and_eq_true, decide_eq_true_eq] at hf
  exact hf.1.1.1.1
def itemQ (l : List En) (i : Nat) : P.It := itemP l (pre (upAt l i)) (blobP l 6) i
theorem dep_kid (l : List En) (ht : Tree l) (d : List UInt8) (i : Nat) (hi : i ∈ kidsP l d) : dep (pre (pathAt l i)) = dep (pre d) + 1 ∧ dep (pre d) + 1 ≤ 5 := by
  have h := dep_next l ht (pre d) i hi
  have hl := ((kids_iff l ht d i).1 hi).1
  rw [pre_some (path_ne l ht i hl)]
  exact h
theorem itemsQ (l : List En) (ht : Tree l) (d : List UInt8) : (kidsP l d).map (itemQ l) = itemsP l (pre d) (blobP l 5) := by
  unfold itemsP kidsP
  refine List.map_congr_left fun i hi => ?_
  have hu := ((kids_iff l ht d i).1 hi).2
  obtain ⟨h1, h2⟩ := dep_next l ht (pre d) i hi
  have hb := blob_fuel l ht 6 5 ((l.getD i en0).path.data.toList ++ [47]) (by omega) (by omega) (by omega)
  unfold itemQ
  rw [hu]
  simp only [itemP, hb]
theorem blob_dir (l : List En) (ht : Tree l) (d : List UInt8) : blobP l 6 (pre d) = dirBytes ((kidsP l d).map (itemQ l)) := by
  rw [itemsQ l ht]; rfl
theorem kids_ok (l : List En) (ht : Tree l) (d : List UInt8) : dirOk ((kidsP l d).map (itemQ l)) = true := by
  rw [itemsQ l ht]; exact items_dirOk l ht 5 (pre d) (pre_dir d)
end Go.Proofs.YtjmacegibchplaaGreatDoor

/-
  What Fetch gives, told over plain lists: a list that is fetched is a tree of the root that was asked for. No walk.
-/
namespace Go.Proofs.YtjmacegibchplaaGreatDoor
set_option linter.unusedVariables false
end Go.Proofs.YtjmacegibchplaaGreatDoor

/-
  What Fetch gives is a tree: its paths, kinds and directories. No walk.
-/
namespace Go.Proofs.YtjmacegibchplaaGreatDoor
set_option linter.unusedVariables false
end Go.Proofs.YtjmacegibchplaaGreatDoor

/-
  What Fetch gives: of its tree Build gives the root that was asked for. Plain lists, no walk.
-/
namespace Go.Proofs.YtjmacegibchplaaGreatDoor
set_option linter.unusedVariables false
end Go.Proofs.YtjmacegibchplaaGreatDoor

/-
  A tree whose blobs all stand in a store is fetched as it is, in order. Plain lists, no walk.
-/
namespace Go.Proofs.YtjmacegibchplaaGreatDoor
set_option linter.unusedVariables false
end Go.Proofs.YtjmacegibchplaaGreatDoor

/-
  A tree in order: each entry stands behind its directory, or behind what is in a lesser sibling. Plain lists, no walk.
-/
namespace Go.Proofs.YtjmacegibchplaaGreatDoor
set_option linter.unusedVariables false
def Chn {α : Type} (R : α → α → Prop) : List α → Prop
  | [] => True
  | [_] => True
  | a :: b :: r => R a b ∧ Chn R (b :: r)
theorem Chn.at {α : Type} {R : α → α → Prop} : ∀ (L : List α), Chn R L → ∀ i (h : i + 1 < L.length), R L[i] L[i + 1]
  | [], _, i, h => by simp at h
  | [_], _, i, h => by simp at h
  | a :: b :: r, hc, 0, h => hc.1
  | a :: b :: r, hc, i + 1, h => Chn.at (b :: r) hc.2 i (by simpa using h)
theorem Chn.map {α β : Type} {R : α → α → Prop} {Q : β → β → Prop} (g : α → β) (hg : ∀ a b, R a b → Q (g a) (g b)) : ∀ (L : List α), Chn R L → Chn Q (L.map g)
  | [], _ => trivial
  | [_], _ => trivial
  | a :: b :: r, hc => ⟨hg _ _ hc.1, Chn.map g hg (b :: r) hc.2⟩
end Go.Proofs.YtjmacegibchplaaGreatDoor

/-
  Stores and Upload, told over plain lists: what a store holds behind an upload, and what was sent. No walk.
-/
namespace Go.Proofs.YtjmacegibchplaaGreatDoor
set_option linter.unusedVariables false
def atP : List (List UInt8 × List UInt8) → List UInt8 → Option (List UInt8)
  | [], _ => none
  | (k, b) :: r, d => if k = d then some b else atP r d
def sumP : List (List UInt8 × List UInt8) → Nat
  | [] => 0
  | (_, b) :: r => b.length + sumP r
def putP (room : Int) (st : List (List UInt8 × List UInt8)) (b : List UInt8) : Int × List (List UInt8 × List UInt8) :=
  if (atP st (P.digest b)).isSome then (0, st) else if room < (b.length : Int) + (sumP st : Int) then (6, st) else (0, st ++ [(P.digest b, b)])
def plantP (st : List (List UInt8 × List UInt8)) (d b : List UInt8) : List (List UInt8 × List UInt8) :=
  st.filter (fun p => !(p.1 == d)) ++ (if b = [] then [] else [(d, b)])
theorem atP_app (st : List (List UInt8 × List UInt8)) (k b d : List UInt8) : atP (st ++ [(k, b)]) d = if (atP st d).isSome then atP st d else if k = d then some b else none := by
  induction st with
  | nil => simp [atP]
  | cons p r ih =>
    obtain ⟨k2, b2⟩ := p
    rw [List.cons_append]
    simp only [atP]
    split
    · simp
    · exact ih
theorem sumP_app (st : List (List UInt8 × List UInt8)) (k b : List UInt8) : sumP (st ++ [(k, b)]) = sumP st + b.length := by
  induction st with
  | nil => simp [sumP]
  | cons p r ih => obtain ⟨k2, b2⟩ := p; rw [List.cons_append]; simp only [sumP]; rw [ih]; omega
structure Grew (st st' : List (List UInt8 × List UInt8)) (l : List (List UInt8)) : Prop where
  old : ∀ d b, atP st d = some b → atP st' d = some b
  new : ∀ d b, atP st' d = some b → atP st d = some b ∨ (b ∈ l ∧ d = P.digest b)
theorem Grew.refl (st : List (List UInt8 × List UInt8)) (l : List (List UInt8)) : Grew st st l := ⟨fun _ _ h => h, fun _ _ h => .inl h⟩
theorem Grew.trans {a b c : List (List UInt8 × List UInt8)} {l m : List (List UInt8)} (h1 : Grew a b l) (h2 : Grew b c m) (n : List (List UInt8)) (hl : ∀ x ∈ l, x ∈ n) (hm : ∀ x ∈ m, x ∈ n) : Grew a c n :=
  ⟨fun d b h => h2.old d b (h1.old d b h), fun d b h => by
    rcases h2.new d b h with h | ⟨h, e⟩
    · rcases h1.new d b h with h | ⟨h, e⟩
      · exact .inl h
      · exact .inr ⟨hl b h, e⟩
    · exact .inr ⟨hm b h, e⟩⟩
end Go.Proofs.YtjmacegibchplaaGreatDoor
