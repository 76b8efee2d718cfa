import Derived.Test.YtjmacegibchplaaGreatDoorPathP
/-
  The order in which the program goes through a tree, and what it makes of it. Plain lists, no walk.
-/
namespace Go.Proofs.YtjmacegibchplaaGreatDoor
set_option linter.unusedVariables false
def pre (d : List UInt8) : List UInt8 := if d = [] then [] else d ++ [47]
theorem pre_nil : pre [] = [] := rfl
theorem pre_some {d : List UInt8} (h : d ≠ []) : pre d = d ++ [47] := if_neg h
theorem pre_dir (d : List UInt8) : DirPath (pre d) := by
  by_cases h : d = []
  · exact .inl (by rw [h]; rfl)
  · exact .inr ⟨d, pre_some h⟩
theorem pre_len (d : List UInt8) : d.length ≤ (pre d).length := by
  by_cases h : d = []
  · rw [h]; simp
  · rw [pre_some h]; simp
def pathAt (l : List En) (i : Nat) : List UInt8 := (l.getD i en0).path.data.toList
def upAt (l : List En) (i : Nat) : List UInt8 := upPath (pathAt l i)
def kindAt (l : List En) (i : Nat) : Int := (l.getD i en0).kind
theorem part_ne (l : List En) (ht : Tree l) (i : Nat) (h : i < l.length) (n : List UInt8) (hn : n ∈ sp (pathAt l i)) : n ≠ [] := by
  unfold pathAt at hn
  rw [en_getD l i h] at hn
  have := fineP_name l i h (ht.fine i h) n hn
  intro e
  subst e
  simp [P.isName] at this
theorem name_ne (l : List En) (ht : Tree l) (i : Nat) (h : i < l.length) : nameOf (pathAt l i) ≠ [] := by
  refine part_ne l ht i h _ ?_
  rcases cut_cases (pathAt l i) with ⟨_, e1, _, e3⟩ | ⟨a, n, _, _, e1, _, e3⟩
  · rw [e1, e3]; simp
  · rw [e1, e3]; simp
theorem up_ne (l : List En) (ht : Tree l) (i : Nat) (h : i < l.length) (a n : List UInt8) (e : pathAt l i = a ++ 47 :: n) : a ≠ [] := by
  intro h0
  subst h0
  exact part_ne l ht i h [] (by rw [e]; simp [sp]) rfl
theorem path_ne (l : List En) (ht : Tree l) (i : Nat) (h : i < l.length) : pathAt l i ≠ [] := by
  intro e
  exact part_ne l ht i h [] (by rw [e]; simp [sp]) rfl
theorem path_pre (l : List En) (ht : Tree l) (i : Nat) (h : i < l.length) : pathAt l i = pre (upAt l i) ++ nameOf (pathAt l i) := by
  unfold upAt
  rcases cut_cases (pathAt l i) with ⟨_, _, e2, e3⟩ | ⟨a, n, e, _, _, e2, e3⟩
  · rw [e2, e3]; rfl
  · rw [e2, e3, pre_some (up_ne l ht i h a n e), e]; simp
theorem kid_pre (l : List En) (ht : Tree l) (i : Nat) (h : i < l.length) (d n : List UInt8) : kid (pre d) (pathAt l i) = some n ↔ upAt l i = d ∧ n = nameOf (pathAt l i) := by
  constructor
  · intro hk
    obtain ⟨e, hn, h47⟩ := kid_some hk
    unfold upAt
    by_cases hd : d = []
    · subst hd
      rw [pre_nil, List.nil_append] at e
      obtain ⟨_, e2, e3⟩ := cut_none (p := pathAt l i) (by rw [e]; exact h47)
      exact ⟨e2, by rw [e3, e]⟩
    · rw [pre_some hd] at e
      have e' : pathAt l i = d ++ 47 :: n := by rw [e]; simp
      obtain ⟨_, e2, e3⟩ := cut_some d n h47
      rw [e']; exact ⟨e2, e3.symm⟩
  · rintro ⟨rfl, rfl⟩
    have e := path_pre l ht i h
    have hn := name_ne l ht i h
    have h47 := name_no (pathAt l i)
    generalize nameOf (pathAt l i) = n at *
    generalize pre (upAt l i) = q at *
    rw [e]
    unfold kid
    have hpos := List.length_pos_iff.2 hn
    rw [if_pos ⟨by simp; omega, by simp, by simpa using h47⟩]
    simp
def kidsP (l : List En) (d : List UInt8) : List Nat := insP l (pre d)
theorem kids_iff (l : List En) (ht : Tree l) (d : List UInt8) (i : Nat) : i ∈ kidsP l d ↔ i < l.length ∧ upAt l i = d := by
  unfold kidsP
  rw [insP_iff l ht]
  constructor
  · rintro ⟨h, n, hk⟩
    rw [← en_getD l i h] at hk
    exact ⟨h, ((kid_pre l ht i h d n).1 hk).1⟩
  · rintro ⟨h, hu⟩
    refine ⟨h, nameOf (pathAt l i), ?_⟩
    rw [← en_getD l i h]
    exact (kid_pre l ht i h d _).2 ⟨hu, rfl⟩
theorem nm_up (l : List En) (ht : Tree l) (i : Nat) (h : i < l.length) : nm l (pre (upAt l i)) i = nameOf (pathAt l i) := by
  have e := path_pre l ht i h
  unfold nm
  show (pathAt l i).drop _ = _
  generalize nameOf (pathAt l i) = n at *
  rw [e, List.drop_left]
def walkP (l : List En) : Nat → List UInt8 → List Nat
  | 0, _ => []
  | f + 1, d => (kidsP l d).flatMap fun i => (if kindAt l i = 0 then walkP l f (pathAt l i) else []) ++ [i]
def blk (l : List En) (f : Nat) (i : Nat) : List Nat := (if kindAt l i = 0 then walkP l f (pathAt l i) else []) ++ [i]
theorem walk_succ (l : List En) (f : Nat) (d : List UInt8) : walkP l (f + 1) d = (kidsP l d).flatMap (blk l f) := rfl
def Under (d u : List UInt8) : Prop := pre d <+: u ++ [47]
theorem under_self (d : List UInt8) : Under d d := by
  unfold Under
  by_cases h : d = []
  · rw [h, pre_nil]; exact List.nil_prefix
  · rw [pre_some h]; exact List.prefix_refl _
theorem under_kid (l : List En) (ht : Tree l) (d u : List UInt8) (i : Nat) (hi : i ∈ kidsP l d) (h : Under (pathAt l i) u) : Under d u := by
  obtain ⟨hl, hu⟩ := (kids_iff l ht d i).1 hi
  unfold Under at h ⊢
  rw [pre_some (path_ne l ht i hl)] at h
  refine List.IsPrefix.trans ?_ h
  have e := path_pre l ht i hl
  rw [hu] at e
  rw [e, List.append_assoc]
  exact List.prefix_append _ _
theorem walk_lt (l : List En) (ht : Tree l) : ∀ f d i, i ∈ walkP l f d → i < l.length ∧ Under d (upAt l i)
  | 0, _, _, h => by simp [walkP] at h
  | f + 1, d, i, h => by
    rw [walk_succ] at h
    simp only [List.mem_flatMap, blk, List.mem_append, List.mem_singleton] at h
    obtain ⟨k, hk, hi⟩ := h
    rcases hi with hi | rfl
    · split at hi
      · obtain ⟨h1, h2⟩ := walk_lt l ht f _ i hi
        exact ⟨h1, under_kid l ht d _ k hk h2⟩
      · simp at hi
    · obtain ⟨h1, h2⟩ := (kids_iff l ht d i).1 hk
      exact ⟨h1, by rw [h2]; exact under_self d⟩
theorem under_len (l : List En) (ht : Tree l) (d : List UInt8) (i : Nat) (hi : i ∈ kidsP l d) (u : List UInt8) (h : Under (pathAt l i) u) : u ≠ d := by
  obtain ⟨hl, hu⟩ := (kids_iff l ht d i).1 hi
  intro e
  subst e
  unfold Under at h
  rw [pre_some (path_ne l ht i hl)] at h
  have h1 := h.length_le
  have h2 : (pathAt l i).length = (pre u).length + (nameOf (pathAt l i)).length := by
    have e := path_pre l ht i hl
    rw [hu] at e
    exact (congrArg List.length e).trans (by simp)
  have h3 := List.length_pos_iff.2 (name_ne l ht i hl)
  have h4 := pre_len u
  simp at h1
  omega
theorem slash_prefix (n m V : List UInt8) (hn : P.has n 47 = false) (hm : P.has m 47 = false) (h1 : n ++ [47] <+: V) (h2 : m ++ [47] <+: V) : n = m := by
  have key : ∀ n m : List UInt8, P.has m 47 = false → n ++ [47] <+: m ++ [47] → n = m := by
    intro n m hm h
    rcases List.prefix_concat_iff.1 h with e | e
    · exact List.append_cancel_right e
    · exact absurd (e.subset (by simp : (47 : UInt8) ∈ n ++ [47])) (has_false.1 hm)
  rcases Nat.le_total (n ++ [47]).length (m ++ [47]).length with h | h
  · exact key n m hm (List.prefix_of_prefix_length_le h1 h2 h)
  · exact (key m n hn (List.prefix_of_prefix_length_le h2 h1 h)).symm
theorem under_apart (l : List En) (ht : Tree l) (d u : List UInt8) (i j : Nat) (hi : i ∈ kidsP l d) (hj : j ∈ kidsP l d) (h1 : Under (pathAt l i) u) (h2 : Under (pathAt l j) u) : i = j := by
  obtain ⟨hil, hiu⟩ := (kids_iff l ht d i).1 hi
  obtain ⟨hjl, hju⟩ := (kids_iff l ht d j).1 hj
  have ei := path_pre l ht i hil
  have ej := path_pre l ht j hjl
  rw [hiu] at ei
  rw [hju] at ej
  unfold Under at h1 h2
  rw [pre_some (path_ne l ht i hil)] at h1
  rw [pre_some (path_ne l ht j hjl)] at h2
  have hni := name_no (pathAt l i)
  have hnj := name_no (pathAt l j)
  have hp : pathAt l i = pathAt l j := by
    generalize nameOf (pathAt l i) = n at *
    generalize nameOf (pathAt l j) = m at *
    rw [ei] at h1 ⊢
    rw [ej] at h2 ⊢
    obtain ⟨r1, e1⟩ := h1
    obtain ⟨r2, e2⟩ := h2
    have : n ++ [47] ++ r1 = m ++ [47] ++ r2 := by
      have := e1.trans e2.symm
      simp only [List.append_assoc] at this ⊢
      exact List.append_cancel_left this
    have hnm := slash_prefix n m _ hni hnj ⟨r1, rfl⟩ ⟨r2, this.symm⟩
    rw [hnm]
  refine tree_inj l ht i j hil hjl ?_
  rw [← en_getD l i hil, ← en_getD l j hjl]
  exact hp
theorem filter_blocks {α : Type} (p : α → Bool) (g : α → List α) : ∀ (L : List α), (∀ k ∈ L, (g k).filter p = [k]) → (L.flatMap g).filter p = L
  | [], _ => rfl
  | k :: L, h => by
    rw [List.flatMap_cons, List.filter_append, h k (by simp), filter_blocks p g L (fun x hx => h x (by simp [hx]))]; rfl
theorem walk_filter (l : List En) (ht : Tree l) (f : Nat) (d : List UInt8) : (walkP l (f + 1) d).filter (fun i => upAt l i == d) = kidsP l d := by
  rw [walk_succ]
  refine filter_blocks _ _ _ fun k hk => ?_
  unfold blk
  rw [List.filter_append]
  have h1 : (if kindAt l k = 0 then walkP l f (pathAt l k) else []).filter (fun i => upAt l i == d) = [] := by
    rw [List.filter_eq_nil_iff]
    intro i hi
    split at hi
    · have := under_len l ht d k hk _ (walk_lt l ht f _ i hi).2
      simpa using this
    · simp at hi
  have h2 := ((kids_iff l ht d k).1 hk).2
  rw [h1]
  simp [h2]
theorem walk_mono (l : List En) : ∀ f d i, i ∈ walkP l f d → i ∈ walkP l (f + 1) d
  | 0, _, _, h => by simp [walkP] at h
  | f + 1, d, i, h => by
    rw [walk_succ] at h ⊢
    simp only [List.mem_flatMap, blk, List.mem_append, List.mem_singleton] at h ⊢
    obtain ⟨k, hk, hi⟩ := h
    refine ⟨k, hk, hi.imp (fun hi => ?_) id⟩
    split at hi
    · rename_i h0; rw [if_pos h0]; exact walk_mono l f _ i hi
    · simp at hi
theorem walk_step (l : List En) : ∀ f d i j, i ∈ walkP l f d → kindAt l i = 0 → j ∈ kidsP l (pathAt l i) → j ∈ walkP l (f + 1) d
  | 0, _, _, _, h, _, _ => by simp [walkP] at h
  | f + 1, d, i, j, h, h0, hj => by
    rw [walk_succ] at h ⊢
    simp only [List.mem_flatMap, blk, List.mem_append, List.mem_singleton] at h ⊢
    obtain ⟨k, hk, hi⟩ := h
    rcases hi with hi | rfl
    · refine ⟨k, hk, .inl ?_⟩
      split at hi
      · rename_i hk0; rw [if_pos hk0]; exact walk_step l f _ i j hi h0 hj
      · simp at hi
    · refine ⟨i, hk, .inl ?_⟩
      rw [if_pos h0, walk_succ]
      simp only [List.mem_flatMap, blk, List.mem_append, List.mem_singleton]
      exact ⟨j, hj, .inr rfl⟩
theorem walk_deep (l : List En) (ht : Tree l) : ∀ m i, i < l.length → (sp (pathAt l i)).length ≤ m + 1 → i ∈ walkP l (m + 1) []
  | 0, i, h, hs => by
    rcases cut_cases (pathAt l i) with ⟨_, _, e2, _⟩ | ⟨a, n, e, _, e1, _, _⟩
    · rw [walk_succ]
      simp only [List.mem_flatMap, blk, List.mem_append, List.mem_singleton]
      exact ⟨i, (kids_iff l ht [] i).2 ⟨h, e2⟩, .inr rfl⟩
    · have := List.length_pos_iff.2 (sp_ne a)
      rw [e1] at hs; simp at hs; exact absurd hs (sp_ne a)
  | m + 1, i, h, hs => by
    rcases cut_cases (pathAt l i) with ⟨_, e1, _, _⟩ | ⟨a, n, e, _, e1, e2, _⟩
    · exact walk_mono l _ _ i (walk_deep l ht m i h (by rw [e1]; simp))
    · have hf := ht.fine i h
      have hup : upBad l (pathAt l i) = false := by
        simp only [fineP, Bool.and_eq_true, Bool.not_eq_true'] at hf
        exact hf.1.2
      have h2 : ¬ (sp (pathAt l i)).length ≤ 1 := by
        rw [e1]
        have := List.length_pos_iff.2 (sp_ne a)
        simp; exact sp_ne a
      unfold upBad at hup
      rw [if_neg h2, e2] at hup
      by_cases hneg : findP l a < 0
      · rw [if_pos hneg] at hup; simp at hup
      · rw [if_neg hneg] at hup
        have hk0 : (l.getD (findP l a).toNat en0).kind = 0 := by simpa using hup
        unfold findP at hneg hk0
        split at hneg
        · rename_i j hj
          rw [hj] at hk0
          simp only [Int.toNat_natCast] at hk0
          rw [List.findIdx?_eq_some_iff_getElem] at hj
          obtain ⟨hjl, hjp, _⟩ := hj
          have hpj : pathAt l j = a := by
            unfold pathAt; rw [en_getD l j hjl]; simpa using hjp
          refine walk_step l (m + 1) [] j i (walk_deep l ht m j hjl ?_) hk0 ((kids_iff l ht _ i).2 ⟨h, by rw [hpj]; exact e2⟩)
          rw [hpj]
          rw [e1] at hs
          simpa using hs
        · simp at hneg
theorem walk_all (l : List En) (ht : Tree l) (i : Nat) : i ∈ walkP l 6 [] ↔ i < l.length := by
  refine ⟨fun h => (walk_lt l ht 6 [] i h).1, fun h => walk_mono l 5 [] i (walk_deep l ht 4 i h ?_)⟩
  have hf := ht.fine i h
  simp only [fineP, Bool.and_eq_true, decide_eq_true_eq] at hf
  exact hf.1.1.1.1
def itemQ (l : List En) (i : Nat) : P.It := itemP l (pre (upAt l i)) (blobP l 6) i
theorem dep_kid (l : List En) (ht : Tree l) (d : List UInt8) (i : Nat) (hi : i ∈ kidsP l d) : dep (pre (pathAt l i)) = dep (pre d) + 1 ∧ dep (pre d) + 1 ≤ 5 := by
  have h := dep_next l ht (pre d) i hi
  have hl := ((kids_iff l ht d i).1 hi).1
  rw [pre_some (path_ne l ht i hl)]
  exact h
theorem itemsQ (l : List En) (ht : Tree l) (d : List UInt8) : (kidsP l d).map (itemQ l) = itemsP l (pre d) (blobP l 5) := by
  unfold itemsP kidsP
  refine List.map_congr_left fun i hi => ?_
  have hu := ((kids_iff l ht d i).1 hi).2
  obtain ⟨h1, h2⟩ := dep_next l ht (pre d) i hi
  have hb := blob_fuel l ht 6 5 ((l.getD i en0).path.data.toList ++ [47]) (by omega) (by omega) (by omega)
  unfold itemQ
  rw [hu]
  simp only [itemP, hb]
theorem blob_dir (l : List En) (ht : Tree l) (d : List UInt8) : blobP l 6 (pre d) = dirBytes ((kidsP l d).map (itemQ l)) := by
  rw [itemsQ l ht]; rfl
theorem kids_ok (l : List En) (ht : Tree l) (d : List UInt8) : dirOk ((kidsP l d).map (itemQ l)) = true := by
  rw [itemsQ l ht]; exact items_dirOk l ht 5 (pre d) (pre_dir d)
end Go.Proofs.YtjmacegibchplaaGreatDoor

/-
  What Fetch gives, told over plain lists: a list that is fetched is a tree of the root that was asked for. No walk.
-/
namespace Go.Proofs.YtjmacegibchplaaGreatDoor
set_option linter.unusedVariables false
def pth (e : En) : List UInt8 := e.path.data.toList
theorem dir_each (l : List P.It) (h : dirOk l = true) (x : P.It) (hx : x ∈ l) : P.itemOk x = true := by
  obtain ⟨k, hk, rfl⟩ := List.mem_iff_getElem.1 hx
  exact ok_of_dirOk l h k hk
theorem item_name (x : P.It) (h : P.itemOk x = true) : P.isName x.name.data.toList = true := by
  simp only [P.itemOk, Bool.and_eq_true] at h
  exact h.1
theorem isName_ne {n : List UInt8} (h : P.isName n = true) : n ≠ [] := by
  rintro rfl
  simp [P.isName] at h
theorem isName_no {n : List UInt8} (h : P.isName n = true) : P.has n 47 = false := by
  simp only [P.isName, Bool.and_eq_true, Bool.not_eq_true'] at h
  exact h.1.1.1.2
def blobS (S : List UInt8 → Option (List UInt8)) (d : List UInt8) : Int × List UInt8 :=
  match S d with
  | none => (7, [])
  | some b => if P.digest b = d then (0, b) else (8, [])
def fetItems (S : List UInt8 → Option (List UInt8)) (ents dep : Int) (rec : List UInt8 → List UInt8 → List En → Int × List En) (d : List UInt8) (deep : Int) : List P.It → List En → Int × List En
  | [], out => (0, out)
  | x :: r, out =>
    if ents < (out.length : Int) + 1 ∨ dep < deep ∨ out.length = 40 ∨ 5 < deep then (9, out)
    else if x.kind = 3 then
      if outP (deep - 1) x.tgt.data.toList = true then (8, out)
      else fetItems S ents dep rec d deep r (out ++ [⟨bs (pre d ++ x.name.data.toList), 3, x.tgt⟩])
    else if (blobS S x.dig.data.toList).1 ≠ 0 then ((blobS S x.dig.data.toList).1, out)
    else if ((blobS S x.dig.data.toList).2.length : Int) ≠ x.size ∨ (x.kind ≠ 0 ∧ 60 < (blobS S x.dig.data.toList).2.length) then (8, out)
    else if x.kind ≠ 0 then fetItems S ents dep rec d deep r (out ++ [⟨bs (pre d ++ x.name.data.toList), x.kind, bs (blobS S x.dig.data.toList).2⟩])
    else
      let q := rec (blobS S x.dig.data.toList).2 (pre d ++ x.name.data.toList) (out ++ [⟨bs (pre d ++ x.name.data.toList), 0, x.tgt⟩])
      if q.1 ≠ 0 then q else fetItems S ents dep rec d deep r q.2
def belowF (S : List UInt8 → Option (List UInt8)) (ents dep : Int) : Nat → Int → List UInt8 → List UInt8 → List En → Int × List En
  | 0, _, _, _, out => (9, out)
  | f + 1, deep, b, d, out => match decOk b with
    | none => (8, out)
    | some l => fetItems S ents dep (belowF S ents dep f (deep + 1)) d deep l out
def fetchP (S : List UInt8 → Option (List UInt8)) (root : List UInt8) (ents dep : Int) : Int × List En :=
  if (blobS S root).1 ≠ 0 then ((blobS S root).1, [])
  else
    let q := belowF S ents dep 6 1 (blobS S root).2 [] []
    if q.1 ≠ 0 then (q.1, []) else q
end Go.Proofs.YtjmacegibchplaaGreatDoor

/-
  What Fetch gives is a tree: its paths, kinds and directories. No walk.
-/
namespace Go.Proofs.YtjmacegibchplaaGreatDoor
set_option linter.unusedVariables false
theorem pre_name_ne {d n : List UInt8} (h : n ≠ []) : pre d ++ n ≠ [] := fun e => h (List.append_eq_nil_iff.1 e).2
def NamesOk (d : List UInt8) (k : Nat) : Prop := (d = [] ∧ k = 0) ∨ (d ≠ [] ∧ (∀ p ∈ sp d, P.isName p = true) ∧ (sp d).length = k)
theorem names_sp {d n : List UInt8} {k : Nat} (h : NamesOk d k) (hn : P.isName n = true) : (∀ p ∈ sp (pre d ++ n), P.isName p = true) ∧ (sp (pre d ++ n)).length = k + 1 ∧ upPath (pre d ++ n) = d := by
  rcases h with ⟨rfl, rfl⟩ | ⟨hd, hp, hl⟩
  · obtain ⟨h1, h2, _⟩ := cut_none (isName_no hn)
    rw [pre_nil, List.nil_append, h1]
    exact ⟨by simpa using hn, rfl, h2⟩
  · obtain ⟨h1, h2, _⟩ := cut_some d n (isName_no hn)
    rw [pre_some hd, List.append_assoc, List.singleton_append, h1]
    refine ⟨?_, by simp [hl], h2⟩
    intro p hp2
    rcases List.mem_append.1 hp2 with h | h
    · exact hp p h
    · rw [List.mem_singleton.1 h]; exact hn
theorem names_next {d n : List UInt8} {k : Nat} (h : NamesOk d k) (hn : P.isName n = true) : NamesOk (pre d ++ n) (k + 1) :=
  .inr ⟨pre_name_ne (isName_ne hn), (names_sp h hn).1, (names_sp h hn).2.1⟩
theorem item_kind (x : P.It) (h : P.itemOk x = true) : (x.kind = 3 ∧ P.linkOk x = true) ∨ ((x.kind = 0 ∨ x.kind = 1 ∨ x.kind = 2) ∧ P.plainOk x = true) := by
  simp only [P.itemOk, Bool.and_eq_true] at h
  have h2 := h.2
  unfold P.shape at h2
  by_cases h0 : x.kind = 0
  · simp [h0] at h2; exact .inr ⟨.inl h0, h2⟩
  · by_cases h1 : x.kind = 1
    · simp [h1] at h2; exact .inr ⟨.inr (.inl h1), h2⟩
    · by_cases h3 : x.kind = 2
      · simp [h3] at h2; exact .inr ⟨.inr (.inr h3), h2⟩
      · by_cases h4 : x.kind = 3
        · simp [h4] at h2; exact .inl ⟨h4, h2⟩
        · simp [h0, h1, h3, h4] at h2
theorem find_once (L : List En) (h : L.Pairwise (fun a b => pth a ≠ pth b)) (j : Nat) (hj : j < L.length) : findP L (pth L[j]) = (j : Int) := by
  have : L.findIdx? (fun e => e.path.data.toList == pth L[j]) = some j := by
    rw [List.findIdx?_eq_some_iff_getElem]
    refine ⟨hj, by simp [pth], fun i hi => ?_⟩
    have := (List.pairwise_iff_getElem.1 h) i j (by omega) hj hi
    simpa [pth] using this
  unfold findP
  rw [this]
theorem treeIs (L : List En) (h40 : L.length ≤ 40) (hon : L.Pairwise (fun a b => pth a ≠ pth b)) (hup : ∀ e ∈ L, upPath (pth e) = [] ∨ ∃ t ∈ L, pth t = upPath (pth e) ∧ t.kind = 0)
    (h1 : ∀ e ∈ L, ∀ p ∈ sp (pth e), P.isName p = true) (h2 : ∀ e ∈ L, (sp (pth e)).length ≤ 5) (h3 : ∀ e ∈ L, kindBad e = false) (h4 : ∀ e ∈ L, e.kind = 3 → outP ((sp (pth e)).length - 1) e.data.data.toList = false) : Tree L ∧ wrongP L = 0 := by
  have hfine : ∀ i, i < L.length → fineP L i = true := by
    intro i hi
    have hm : L[i] ∈ L := List.getElem_mem hi
    have hub : upBad L (pth L[i]) = false := by
      unfold upBad
      split
      · rfl
      · rename_i hl
        rcases hup _ hm with hu | ⟨t, ht, hu, hk⟩
        · exfalso
          rcases cut_cases (pth L[i]) with ⟨_, e1, _⟩ | ⟨a, n, e0, _, e1, e2, _⟩
          · rw [e1] at hl; simp at hl
          · rw [e2] at hu
            subst hu
            have := h1 _ hm [] (by rw [e1]; simp [sp])
            exact isName_ne this rfl
        · obtain ⟨j, hj, rfl⟩ := List.mem_iff_getElem.1 ht
          rw [← hu, find_once L hon j hj]
          rw [if_neg (by omega), Int.toNat_natCast, en_getD L j hj, hk]
          rfl
    unfold fineP
    rw [en_getD L i hi]
    have hfo := find_once L hon i hi
    have h1' := h1 _ hm
    have h2' := h2 _ hm
    have h3' := h3 _ hm
    unfold pth at hub hfo h1' h2'
    simp only [Bool.and_eq_true, decide_eq_true_eq, Bool.not_eq_true', beq_iff_eq, List.all_eq_true]
    exact ⟨⟨⟨⟨h2', h1'⟩, h3'⟩, hub⟩, hfo⟩
  refine ⟨⟨h40, hfine⟩, ?_⟩
  unfold wrongP
  rw [if_neg (by omega), if_neg, if_neg]
  · intro hc
    rw [List.any_eq_true] at hc
    obtain ⟨e, he, hc⟩ := hc
    simp only [Bool.and_eq_true, beq_iff_eq] at hc
    have := h4 e he hc.1
    unfold pth at this
    rw [this] at hc
    simp at hc
  · have : (List.range L.length).all (fineP L) = true := List.all_eq_true.2 fun i hi => hfine i (List.mem_range.1 hi)
    rw [this]; simp
end Go.Proofs.YtjmacegibchplaaGreatDoor

/-
  What Fetch gives: of its tree Build gives the root that was asked for. Plain lists, no walk.
-/
namespace Go.Proofs.YtjmacegibchplaaGreatDoor
set_option linter.unusedVariables false
def kidB (p : List UInt8) (e : En) : Bool := (kid p (pth e)).isSome
def itF (p : List UInt8) (bl : List UInt8 → List UInt8) (e : En) : P.It :=
  if e.kind = 3 then ⟨bs ((pth e).drop p.length), 3, ⟨#[]⟩, 0, e.data⟩
  else ⟨bs ((pth e).drop p.length), e.kind, bs (P.digest (if e.kind = 0 then bl (pth e ++ [47]) else e.data.data.toList)), ((if e.kind = 0 then bl (pth e ++ [47]) else e.data.data.toList).length : Int), ⟨#[]⟩⟩
theorem items_itF (l : List En) (p : List UInt8) (bl : List UInt8 → List UInt8) : itemsP l p bl = ((insP l p).map (fun i => l.getD i en0)).map (itF p bl) := by
  unfold itemsP
  rw [List.map_map]
  rfl
def nmE (p : List UInt8) (e : En) : List UInt8 := (pth e).drop p.length
theorem bs_eta (x : ByteArray) : bs x.data.toList = x := by cases x; simp [bs]
theorem empty_lst {b : ByteArray} (h : b.toList.isEmpty = true) : b = ⟨#[]⟩ := by
  rw [ByteArray.toList_eq, List.isEmpty_iff] at h
  rw [← bs_eta b, h]; rfl
end Go.Proofs.YtjmacegibchplaaGreatDoor
