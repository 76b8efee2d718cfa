import Derived.Test.YtjmacegibchplaaGreatDoorWalkP
/-
  What Fetch gives, told over plain lists: a list that is fetched is a tree of the root that was asked for. No walk.
-/
namespace Go.Proofs.YtjmacegibchplaaGreatDoor
set_option linter.unusedVariables false

def pth (e : En) : List UInt8 := e.path.data.toList
theorem dir_each (l : List P.It) (h : dirOk l = true) (x : P.It) (hx : x ∈ l) : P.itemOk x = true := by
  obtain ⟨k, hk, rfl⟩ := List.mem_iff_getElem.1 hx
  exact ok_of_dirOk l h k hk
theorem dir_rise (l : List P.It) (h : dirOk l = true) : l.Pairwise (fun x y => less x.name.data.toList y.name.data.toList = true) := by
  have hs : ∀ k (hk : k + 1 < l.length), less l[k].name.data.toList l[k + 1].name.data.toList = true := by
    intro k hk
    cases hc : okAt l (k + 1) with
    | false => rw [dirOk_at l (k + 1) hk hc] at h; simp at h
    | true =>
      rw [okAt_succ l k hk (by omega) (ok_of_dirOk l h (k + 1) hk), ByteArray.toList_eq, ByteArray.toList_eq] at hc
      exact hc
  rw [List.pairwise_iff_getElem]
  intro i j hi hj hij
  induction j with
  | zero => omega
  | succ j ih =>
    rcases Nat.lt_or_ge i j with h1 | h1
    · exact less_trans _ _ _ (ih (by omega) h1) (hs j hj)
    · obtain rfl : i = j := by omega
      exact hs i hj
theorem item_name (x : P.It) (h : P.itemOk x = true) : P.isName x.name.data.toList = true := by
  simp only [P.itemOk, Bool.and_eq_true] at h
  exact h.1
theorem isName_ne {n : List UInt8} (h : P.isName n = true) : n ≠ [] := by
  rintro rfl
  simp [P.isName] at h
theorem isName_no {n : List UInt8} (h : P.isName n = true) : P.has n 47 = false := by
  simp only [P.isName, Bool.and_eq_true, Bool.not_eq_true'] at h
  exact h.1.1.1.2
/-- what stands under a digest, if it is what that says -/
def blobS (S : List UInt8 → Option (List UInt8)) (d : List UInt8) : Int × List UInt8 :=
  match S d with
  | none => (7, [])
  | some b => if P.digest b = d then (0, b) else (8, [])
/-- the items of a directory, one behind the other -/
def fetItems (S : List UInt8 → Option (List UInt8)) (ents dep : Int) (rec : List UInt8 → List UInt8 → List En → Int × List En) (d : List UInt8) (deep : Int) : List P.It → List En → Int × List En
  | [], out => (0, out)
  | x :: r, out =>
    if ents < (out.length : Int) + 1 ∨ dep < deep ∨ out.length = 40 ∨ 5 < deep then (9, out)
    else if x.kind = 3 then
      if outP (deep - 1) x.tgt.data.toList = true then (8, out)
      else fetItems S ents dep rec d deep r (out ++ [⟨bs (pre d ++ x.name.data.toList), 3, x.tgt⟩])
    else if (blobS S x.dig.data.toList).1 ≠ 0 then ((blobS S x.dig.data.toList).1, out)
    else if ((blobS S x.dig.data.toList).2.length : Int) ≠ x.size ∨ (x.kind ≠ 0 ∧ 60 < (blobS S x.dig.data.toList).2.length) then (8, out)
    else if x.kind ≠ 0 then fetItems S ents dep rec d deep r (out ++ [⟨bs (pre d ++ x.name.data.toList), x.kind, bs (blobS S x.dig.data.toList).2⟩])
    else
      let q := rec (blobS S x.dig.data.toList).2 (pre d ++ x.name.data.toList) (out ++ [⟨bs (pre d ++ x.name.data.toList), 0, x.tgt⟩])
      if q.1 ≠ 0 then q else fetItems S ents dep rec d deep r q.2
def belowF (S : List UInt8 → Option (List UInt8)) (ents dep : Int) : Nat → Int → List UInt8 → List UInt8 → List En → Int × List En
  | 0, _, _, _, out => (9, out)
  | f + 1, deep, b, d, out => match decOk b with
    | none => (8, out)
    | some l => fetItems S ents dep (belowF S ents dep f (deep + 1)) d deep l out
/-- FETCH -/
def fetchP (S : List UInt8 → Option (List UInt8)) (root : List UInt8) (ents dep : Int) : Int × List En :=
  if (blobS S root).1 ≠ 0 then ((blobS S root).1, [])
  else
    let q := belowF S ents dep 6 1 (blobS S root).2 [] []
    if q.1 ≠ 0 then (q.1, []) else q
theorem blobS_ok {S : List UInt8 → Option (List UInt8)} {d : List UInt8} (h : (blobS S d).1 = 0) : S d = some (blobS S d).2 ∧ P.digest (blobS S d).2 = d := by
  unfold blobS at h ⊢
  cases hs : S d with
  | none => rw [hs] at h; simp at h
  | some b =>
    rw [hs] at h
    simp only at h ⊢
    by_cases e : P.digest b = d
    · rw [if_pos e]; exact ⟨rfl, e⟩
    · rw [if_neg e] at h; simp at h

/-- what comes out for some items -/
def FlatF (S : List UInt8 → Option (List UInt8)) (rec : List UInt8 → List UInt8 → List En → Prop) (d : List UInt8) (deep : Int) : List P.It → List En → Prop
  | [], seg => seg = []
  | x :: r, seg => ∃ (e : En) (s1 s2 : List En), seg = e :: (s1 ++ s2) ∧ deep ≤ 5 ∧ pth e = pre d ++ x.name.data.toList ∧ e.kind = x.kind ∧
      ((x.kind = 3 ∧ e.data = x.tgt ∧ outP (deep - 1) x.tgt.data.toList = false ∧ s1 = []) ∨
        (x.kind ≠ 3 ∧ ∃ b, S x.dig.data.toList = some b ∧ P.digest b = x.dig.data.toList ∧ (b.length : Int) = x.size ∧
          ((x.kind ≠ 0 ∧ b.length ≤ 60 ∧ e.data = bs b ∧ s1 = []) ∨ (x.kind = 0 ∧ e.data = x.tgt ∧ rec b (pre d ++ x.name.data.toList) s1)))) ∧
      FlatF S rec d deep r s2
def Flat (S : List UInt8 → Option (List UInt8)) : Nat → Int → List UInt8 → List UInt8 → List En → Prop
  | 0, _, _, _, _ => False
  | f + 1, deep, b, d, seg => ∃ l, decOk b = some l ∧ FlatF S (Flat S f (deep + 1)) d deep l seg
theorem bs_pth (p : List UInt8) (k : Int) (t : ByteArray) : pth ⟨bs p, k, t⟩ = p := bs_data p
theorem fetItems_flat (S : List UInt8 → Option (List UInt8)) (ents dp : Int) (rec : List UInt8 → List UInt8 → List En → Int × List En) (R : List UInt8 → List UInt8 → List En → Prop)
    (hrec : ∀ b d out out', out.length ≤ 40 → rec b d out = (0, out') → out'.length ≤ 40 ∧ ∃ seg, out' = out ++ seg ∧ R b d seg) (d : List UInt8) (deep : Int) :
    ∀ (l : List P.It) (out out' : List En), out.length ≤ 40 → fetItems S ents dp rec d deep l out = (0, out') → out'.length ≤ 40 ∧ ∃ seg, out' = out ++ seg ∧ FlatF S R d deep l seg
  | [], out, out', h40, h => by
    simp only [fetItems, Prod.mk.injEq, true_and] at h
    subst h
    exact ⟨h40, [], by simp, rfl⟩
  | x :: r, out, out', h40, h => by
    simp only [fetItems] at h
    split at h
    · simp at h
    · rename_i hb
      have hb1 : deep ≤ 5 := by omega
      have hb2 : out.length + 1 ≤ 40 := by omega
      split at h
      · rename_i hk
        split at h
        · simp at h
        · rename_i ho
          obtain ⟨h1, seg, e1, e2⟩ := fetItems_flat S ents dp rec R hrec d deep r _ out' (by simpa using hb2) h
          exact ⟨h1, ⟨bs (pre d ++ x.name.data.toList), 3, x.tgt⟩ :: seg, by rw [e1]; simp, _, [], seg, rfl, hb1, bs_pth _ _ _, hk.symm, .inl ⟨hk, rfl, by simpa using ho, rfl⟩, e2⟩
      · rename_i hk
        split at h
        · rename_i hz
          simp only [Prod.mk.injEq] at h
          exact absurd h.1 hz
        · rename_i hz
          obtain ⟨hs, hdg⟩ := blobS_ok (by simpa using hz)
          split at h
          · simp at h
          · rename_i hsz
            have hsz1 : ((blobS S x.dig.data.toList).2.length : Int) = x.size := by omega
            split at h
            · rename_i hk0
              obtain ⟨h1, seg, e1, e2⟩ := fetItems_flat S ents dp rec R hrec d deep r _ out' (by simpa using hb2) h
              exact ⟨h1, ⟨bs (pre d ++ x.name.data.toList), x.kind, bs (blobS S x.dig.data.toList).2⟩ :: seg, by rw [e1]; simp, _, [], seg, rfl, hb1, bs_pth _ _ _, rfl, .inr ⟨hk, _, hs, hdg, hsz1, .inl ⟨hk0, by omega, rfl, rfl⟩⟩, e2⟩
            · rename_i hk0
              have hk0' : x.kind = 0 := by omega
              split at h
              · rename_i hq
                rw [h] at hq
                simp at hq
              · rename_i hq
                generalize hqe : rec (blobS S x.dig.data.toList).2 (pre d ++ x.name.data.toList) (out ++ [⟨bs (pre d ++ x.name.data.toList), 0, x.tgt⟩]) = q at h hq
                obtain ⟨qc, qo⟩ := q
                obtain rfl : qc = 0 := by simpa using hq
                obtain ⟨h2, s1, e3, e4⟩ := hrec _ _ _ qo (by simpa using hb2) hqe
                obtain ⟨h1, seg, e1, e2⟩ := fetItems_flat S ents dp rec R hrec d deep r _ out' h2 h
                exact ⟨h1, ⟨bs (pre d ++ x.name.data.toList), 0, x.tgt⟩ :: (s1 ++ seg), by rw [e1, e3]; simp, _, s1, seg, rfl, hb1, bs_pth _ _ _, hk0'.symm, .inr ⟨hk, _, hs, hdg, hsz1, .inr ⟨hk0', rfl, e4⟩⟩, e2⟩
theorem belowF_flat (S : List UInt8 → Option (List UInt8)) (ents dp : Int) : ∀ (f : Nat) (deep : Int) (b d : List UInt8) (out out' : List En), out.length ≤ 40 → belowF S ents dp f deep b d out = (0, out') → out'.length ≤ 40 ∧ ∃ seg, out' = out ++ seg ∧ Flat S f deep b d seg
  | 0, _, _, _, _, _, _, h => by simp [belowF] at h
  | f + 1, deep, b, d, out, out', h40, h => by
    simp only [belowF] at h
    split at h
    · simp at h
    · rename_i l hl
      obtain ⟨h1, seg, e1, e2⟩ := fetItems_flat S ents dp _ (Flat S f (deep + 1)) (fun b d out out' => belowF_flat S ents dp f (deep + 1) b d out out') d deep l out out' h40 h
      exact ⟨h1, seg, e1, l, hl, e2⟩
end Go.Proofs.YtjmacegibchplaaGreatDoor

/-
  What Fetch gives is a tree: its paths, kinds and directories. No walk.
-/
namespace Go.Proofs.YtjmacegibchplaaGreatDoor
set_option linter.unusedVariables false

theorem pre_name_ne {d n : List UInt8} (h : n ≠ []) : pre d ++ n ≠ [] := fun e => h (List.append_eq_nil_iff.1 e).2
theorem pre_sub {d n : List UInt8} (h : n ≠ []) : pre (pre d ++ n) = pre d ++ (n ++ [47]) := by rw [pre_some (pre_name_ne h), List.append_assoc]
/-- an entry is that of an item, or stands below it -/
def InI (d : List UInt8) (x : P.It) (e : En) : Prop := pre d ++ (x.name.data.toList ++ [47]) <+: pth e ++ [47]
theorem inI_top {d : List UInt8} {x : P.It} {e : En} (h : pth e = pre d ++ x.name.data.toList) : InI d x e := by
  unfold InI; rw [h, List.append_assoc]; exact List.prefix_refl _
theorem inI_sub {d : List UInt8} {x : P.It} {e : En} (hn : x.name.data.toList ≠ []) (h : pre (pre d ++ x.name.data.toList) <+: pth e) : InI d x e := by
  rw [pre_sub hn] at h
  exact h.trans (List.prefix_append _ _)
theorem inI_pre {d : List UInt8} {x : P.It} {e : En} (h : InI d x e) : pre d <+: pth e := by
  unfold InI at h
  rcases List.prefix_concat_iff.1 h with h1 | h1
  · rw [← List.append_assoc] at h1
    exact ⟨_, List.append_cancel_right h1⟩
  · exact (List.prefix_append _ _).trans h1
theorem inI_cases {d : List UInt8} {x : P.It} {e : En} (hn : x.name.data.toList ≠ []) (h : InI d x e) : pth e = pre d ++ x.name.data.toList ∨ pre (pre d ++ x.name.data.toList) <+: pth e := by
  unfold InI at h
  rcases List.prefix_concat_iff.1 h with h1 | h1
  · rw [← List.append_assoc] at h1
    exact .inl (List.append_cancel_right h1).symm
  · rw [pre_sub hn]; exact .inr h1
theorem inI_apart {d : List UInt8} {x y : P.It} {e : En} (hx : P.has x.name.data.toList 47 = false) (hy : P.has y.name.data.toList 47 = false) (h1 : InI d x e) (h2 : InI d y e) : x.name.data.toList = y.name.data.toList := by
  unfold InI at h1 h2
  obtain ⟨r1, e1⟩ := h1
  obtain ⟨r2, e2⟩ := h2
  have : x.name.data.toList ++ [47] ++ r1 = y.name.data.toList ++ [47] ++ r2 := by
    have := e1.trans e2.symm
    simp only [List.append_assoc] at this ⊢
    exact List.append_cancel_left this
  exact slash_prefix _ _ _ hx hy ⟨r1, rfl⟩ ⟨r2, this.symm⟩
theorem flatF_in {S : List UInt8 → Option (List UInt8)} {R : List UInt8 → List UInt8 → List En → Prop} (hR : ∀ b d s, R b d s → ∀ e ∈ s, pre d <+: pth e) {d : List UInt8} {deep : Int} :
    ∀ (l : List P.It) (seg : List En), (∀ x ∈ l, P.itemOk x = true) → FlatF S R d deep l seg → ∀ e ∈ seg, ∃ x ∈ l, InI d x e
  | [], seg, _, h, e, he => by
    simp only [FlatF] at h
    subst h
    simp at he
  | x :: r, seg, hok, h, e, he => by
    obtain ⟨t, s1, s2, rfl, _, hp, _, hc, hr⟩ := h
    have hn := isName_ne (item_name x (hok x (by simp)))
    simp only [List.mem_cons, List.mem_append] at he
    rcases he with rfl | he | he
    · exact ⟨x, by simp, inI_top hp⟩
    · rcases hc with ⟨_, _, _, rfl⟩ | ⟨_, b, _, _, _, ⟨_, _, _, rfl⟩ | ⟨_, _, hb⟩⟩
      · simp at he
      · simp at he
      · exact ⟨x, by simp, inI_sub hn (hR _ _ _ hb e he)⟩
    · obtain ⟨y, hy, hi⟩ := flatF_in hR r s2 (fun y hy => hok y (by simp [hy])) hr e he
      exact ⟨y, by simp [hy], hi⟩
theorem flat_under {S : List UInt8 → Option (List UInt8)} : ∀ (f : Nat) (deep : Int) (b d : List UInt8) (seg : List En), Flat S f deep b d seg → ∀ e ∈ seg, pre d <+: pth e
  | 0, _, _, _, _, h, _, _ => h.elim
  | f + 1, deep, b, d, seg, ⟨l, hl, h⟩, e, he => by
    obtain ⟨x, _, hi⟩ := flatF_in (fun b d s => flat_under f (deep + 1) b d s) l seg (dir_each l ((decOk_iff _ _).1 hl).1) h e he
    exact inI_pre hi
theorem long {d : List UInt8} {e : En} (hd : d ≠ []) (h : pre d <+: pth e) : pth e ≠ d := by
  intro e1
  rw [pre_some hd, e1] at h
  have := h.length_le
  simp at this
  omega
theorem head_apart {x : P.It} {r : List P.It} (h : (x :: r).Pairwise (fun x y => less x.name.data.toList y.name.data.toList = true)) (y : P.It) (hy : y ∈ r) : x.name.data.toList ≠ y.name.data.toList := by
  intro e
  have := (List.pairwise_cons.1 h).1 y hy
  rw [e, less_irr] at this
  simp at this
/-- no path twice -/
theorem flatF_once {S : List UInt8 → Option (List UInt8)} {R : List UInt8 → List UInt8 → List En → Prop} (hR : ∀ b d s, R b d s → ∀ e ∈ s, pre d <+: pth e) (hO : ∀ b d s, R b d s → s.Pairwise (fun a b => pth a ≠ pth b)) {d : List UInt8} {deep : Int} :
    ∀ (l : List P.It) (seg : List En), (∀ x ∈ l, P.itemOk x = true) → l.Pairwise (fun x y => less x.name.data.toList y.name.data.toList = true) → FlatF S R d deep l seg → seg.Pairwise (fun a b => pth a ≠ pth b)
  | [], seg, _, _, h => by
    simp only [FlatF] at h
    subst h
    exact List.Pairwise.nil
  | x :: r, seg, hok, hs, h => by
    have h0 := h
    obtain ⟨t, s1, s2, rfl, _, hp, _, hc, hr⟩ := h
    have hx := item_name x (hok x (by simp))
    have hn := isName_ne hx
    have hok2 : ∀ y ∈ r, P.itemOk y = true := fun y hy => hok y (by simp [hy])
    have hs1 : s1.Pairwise (fun a b => pth a ≠ pth b) ∧ ∀ e ∈ s1, pre (pre d ++ x.name.data.toList) <+: pth e := by
      rcases hc with ⟨_, _, _, rfl⟩ | ⟨_, b, _, _, _, ⟨_, _, _, rfl⟩ | ⟨_, _, hb⟩⟩
      · exact ⟨List.Pairwise.nil, by simp⟩
      · exact ⟨List.Pairwise.nil, by simp⟩
      · exact ⟨hO _ _ _ hb, hR _ _ _ hb⟩
    have hs2 := flatF_once hR hO r s2 hok2 (List.pairwise_cons.1 hs).2 hr
    have hin2 := flatF_in hR r s2 hok2 hr
    have hap : ∀ a, InI d x a → ∀ b ∈ s2, pth a ≠ pth b := by
      intro a ha b hb he
      obtain ⟨y, hy, hi⟩ := hin2 b hb
      unfold InI at ha
      rw [he] at ha
      exact head_apart hs y hy (inI_apart (isName_no hx) (isName_no (item_name y (hok2 y hy))) ha hi)
    rw [List.pairwise_cons, List.pairwise_append]
    refine ⟨fun b hb => ?_, hs1.1, hs2, fun a ha b hb => hap a (inI_sub hn (hs1.2 a ha)) b hb⟩
    rcases List.mem_append.1 hb with hb | hb
    · rw [hp]
      exact fun e => long (pre_name_ne hn) (hs1.2 b hb) e.symm
    · exact hap t (inI_top hp) b hb
theorem flat_once {S : List UInt8 → Option (List UInt8)} : ∀ (f : Nat) (deep : Int) (b d : List UInt8) (seg : List En), Flat S f deep b d seg → seg.Pairwise (fun a b => pth a ≠ pth b)
  | 0, _, _, _, _, h => h.elim
  | f + 1, deep, b, d, seg, ⟨l, hl, h⟩ =>
    have hd := ((decOk_iff _ _).1 hl).1
    flatF_once (fun b d s => flat_under f (deep + 1) b d s) (fun b d s => flat_once f (deep + 1) b d s) l seg (dir_each l hd) (dir_rise l hd) h

/-- a directory's path, k names deep -/
def NamesOk (d : List UInt8) (k : Nat) : Prop := (d = [] ∧ k = 0) ∨ (d ≠ [] ∧ (∀ p ∈ sp d, P.isName p = true) ∧ (sp d).length = k)
theorem names_sp {d n : List UInt8} {k : Nat} (h : NamesOk d k) (hn : P.isName n = true) : (∀ p ∈ sp (pre d ++ n), P.isName p = true) ∧ (sp (pre d ++ n)).length = k + 1 ∧ upPath (pre d ++ n) = d := by
  rcases h with ⟨rfl, rfl⟩ | ⟨hd, hp, hl⟩
  · obtain ⟨h1, h2, _⟩ := cut_none (isName_no hn)
    rw [pre_nil, List.nil_append, h1]
    exact ⟨by simpa using hn, rfl, h2⟩
  · obtain ⟨h1, h2, _⟩ := cut_some d n (isName_no hn)
    rw [pre_some hd, List.append_assoc, List.singleton_append, h1]
    refine ⟨?_, by simp [hl], h2⟩
    intro p hp2
    rcases List.mem_append.1 hp2 with h | h
    · exact hp p h
    · rw [List.mem_singleton.1 h]; exact hn
theorem names_next {d n : List UInt8} {k : Nat} (h : NamesOk d k) (hn : P.isName n = true) : NamesOk (pre d ++ n) (k + 1) :=
  .inr ⟨pre_name_ne (isName_ne hn), (names_sp h hn).1, (names_sp h hn).2.1⟩
/-- an entry by itself -/
structure EFine (S : List UInt8 → Option (List UInt8)) (e : En) : Prop where
  names : ∀ p ∈ sp (pth e), P.isName p = true
  deep : (sp (pth e)).length ≤ 5
  kind : kindBad e = false
  out : e.kind = 3 → outP ((sp (pth e)).length - 1) e.data.data.toList = false
  data : e.kind = 1 ∨ e.kind = 2 → S (P.digest e.data.data.toList) = some e.data.data.toList
theorem item_kind (x : P.It) (h : P.itemOk x = true) : (x.kind = 3 ∧ P.linkOk x = true) ∨ ((x.kind = 0 ∨ x.kind = 1 ∨ x.kind = 2) ∧ P.plainOk x = true) := by
  simp only [P.itemOk, Bool.and_eq_true] at h
  have h2 := h.2
  unfold P.shape at h2
  by_cases h0 : x.kind = 0
  · simp [h0] at h2; exact .inr ⟨.inl h0, h2⟩
  · by_cases h1 : x.kind = 1
    · simp [h1] at h2; exact .inr ⟨.inr (.inl h1), h2⟩
    · by_cases h3 : x.kind = 2
      · simp [h3] at h2; exact .inr ⟨.inr (.inr h3), h2⟩
      · by_cases h4 : x.kind = 3
        · simp [h4] at h2; exact .inl ⟨h4, h2⟩
        · simp [h0, h1, h3, h4] at h2
theorem plain_tgt {x : P.It} (h : P.plainOk x = true) : x.tgt = ⟨#[]⟩ := by
  simp only [P.plainOk, Bool.and_eq_true] at h
  have := h.2
  rw [ByteArray.toList_eq, List.isEmpty_iff] at this
  have h2 : x.tgt.data = #[] := by simpa using this
  cases hx : x.tgt with
  | mk d => rw [hx] at h2; simp only at h2; rw [h2]
theorem flatF_fine {S : List UInt8 → Option (List UInt8)} {R : List UInt8 → List UInt8 → List En → Prop} {k : Nat} (hF : ∀ b d s, R b d s → NamesOk d (k + 1) → ∀ e ∈ s, EFine S e) {d : List UInt8} {deep : Int} (hk : deep = (k : Int) + 1) (hd : NamesOk d k) :
    ∀ (l : List P.It) (seg : List En), (∀ x ∈ l, P.itemOk x = true) → FlatF S R d deep l seg → ∀ e ∈ seg, EFine S e
  | [], seg, _, h, e, he => by
    simp only [FlatF] at h
    subst h
    simp at he
  | x :: r, seg, hok, h, e, he => by
    obtain ⟨t, s1, s2, rfl, h5, hp, hkd, hc, hr⟩ := h
    have hxo := hok x (by simp)
    have hx := item_name x hxo
    obtain ⟨n1, n2, _⟩ := names_sp hd hx
    simp only [List.mem_cons, List.mem_append] at he
    rcases he with rfl | he | he
    · have hnn : ∀ p ∈ sp (pth e), P.isName p = true := by rw [hp]; exact n1
      have hl : (sp (pth e)).length = k + 1 := by rw [hp]; exact n2
      rcases hc with ⟨h3, hdt, ho, _⟩ | ⟨h3, b, hb1, hb2, hb3, hb4⟩
      · refine ⟨hnn, by omega, ?_, fun _ => ?_, fun hc => by omega⟩
        · rcases item_kind x hxo with ⟨_, hlk⟩ | ⟨hq, _⟩
          · simp only [P.linkOk, Bool.and_eq_true] at hlk
            simp [kindBad, hkd, h3, hdt, hlk.1.1]
          · omega
        · rw [hl, hdt, ← ho]
          congr 1
          omega
      · rcases item_kind x hxo with ⟨hq, _⟩ | ⟨hq, hpl⟩
        · omega
        · rcases hb4 with ⟨h0, h60, hdt, _⟩ | ⟨h0, hdt, _⟩
          · have hsz : e.data.size = b.length := by rw [hdt]; simp [bs, ByteArray.size]
            have hdd : e.data.data.toList = b := by rw [hdt]; exact bs_data b
            refine ⟨hnn, by omega, ?_, fun hc => by omega, fun _ => by rw [hdd, hb2]; exact hb1⟩
            have : e.kind = 1 ∨ e.kind = 2 := by omega
            rcases this with h | h <;> (simp [kindBad, h, hsz]; omega)
          · refine ⟨hnn, by omega, ?_, fun hc => by omega, fun hc => by omega⟩
            simp [kindBad, hkd, h0, hdt, plain_tgt hpl]
    · rcases hc with ⟨_, _, _, rfl⟩ | ⟨_, b, _, _, _, ⟨_, _, _, rfl⟩ | ⟨_, _, hb⟩⟩
      · simp at he
      · simp at he
      · exact hF _ _ _ hb (names_next hd hx) e he
    · exact flatF_fine hF hk hd r s2 (fun y hy => hok y (by simp [hy])) hr e he
theorem flat_fine {S : List UInt8 → Option (List UInt8)} : ∀ (f k : Nat) (b d : List UInt8) (seg : List En), Flat S f ((k : Int) + 1) b d seg → NamesOk d k → ∀ e ∈ seg, EFine S e
  | 0, _, _, _, _, h, _ => h.elim
  | f + 1, k, b, d, seg, ⟨l, hl, h⟩, hd =>
    flatF_fine (fun b d s hb hn => flat_fine f (k + 1) b d s (by simpa using hb) hn) rfl hd l seg (dir_each l ((decOk_iff _ _).1 hl).1) h
/-- the directory that an entry stands in is there -/
theorem flatF_up {S : List UInt8 → Option (List UInt8)} {R : List UInt8 → List UInt8 → List En → Prop} {k : Nat} (hU : ∀ b d s, R b d s → NamesOk d (k + 1) → ∀ e ∈ s, upPath (pth e) = d ∨ ∃ t ∈ s, pth t = upPath (pth e) ∧ t.kind = 0) {d : List UInt8} {deep : Int} (hd : NamesOk d k) :
    ∀ (l : List P.It) (seg : List En), (∀ x ∈ l, P.itemOk x = true) → FlatF S R d deep l seg → ∀ e ∈ seg, upPath (pth e) = d ∨ ∃ t ∈ seg, pth t = upPath (pth e) ∧ t.kind = 0
  | [], seg, _, h, e, he => by
    simp only [FlatF] at h
    subst h
    simp at he
  | x :: r, seg, hok, h, e, he => by
    obtain ⟨t, s1, s2, rfl, h5, hp, hkd, hc, hr⟩ := h
    have hx := item_name x (hok x (by simp))
    simp only [List.mem_cons, List.mem_append] at he
    rcases he with rfl | he | he
    · rw [hp]; exact .inl (names_sp hd hx).2.2
    · rcases hc with ⟨_, _, _, rfl⟩ | ⟨_, b, _, _, _, ⟨_, _, _, rfl⟩ | ⟨h0, _, hb⟩⟩
      · simp at he
      · simp at he
      · rcases hU _ _ _ hb (names_next hd hx) e he with hu | ⟨t', ht', hu⟩
        · exact .inr ⟨t, by simp, by rw [hu, hp], by omega⟩
        · exact .inr ⟨t', by simp [ht'], hu⟩
    · rcases flatF_up hU hd r s2 (fun y hy => hok y (by simp [hy])) hr e he with hu | ⟨t', ht', hu⟩
      · exact .inl hu
      · exact .inr ⟨t', by simp [ht'], hu⟩
theorem flat_up {S : List UInt8 → Option (List UInt8)} : ∀ (f k : Nat) (deep : Int) (b d : List UInt8) (seg : List En), Flat S f deep b d seg → NamesOk d k → ∀ e ∈ seg, upPath (pth e) = d ∨ ∃ t ∈ seg, pth t = upPath (pth e) ∧ t.kind = 0
  | 0, _, _, _, _, _, h, _ => h.elim
  | f + 1, k, deep, b, d, seg, ⟨l, hl, h⟩, hd =>
    flatF_up (fun b d s hb hn => flat_up f (k + 1) (deep + 1) b d s hb hn) hd l seg (dir_each l ((decOk_iff _ _).1 hl).1) h
theorem find_once (L : List En) (h : L.Pairwise (fun a b => pth a ≠ pth b)) (j : Nat) (hj : j < L.length) : findP L (pth L[j]) = (j : Int) := by
  have : L.findIdx? (fun e => e.path.data.toList == pth L[j]) = some j := by
    rw [List.findIdx?_eq_some_iff_getElem]
    refine ⟨hj, by simp [pth], fun i hi => ?_⟩
    have := (List.pairwise_iff_getElem.1 h) i j (by omega) hj hi
    simpa [pth] using this
  unfold findP
  rw [this]
/-- a list is a tree if each entry is fine by itself, no path stands twice, and each directory is there -/
theorem treeIs (L : List En) (h40 : L.length ≤ 40) (hon : L.Pairwise (fun a b => pth a ≠ pth b)) (hup : ∀ e ∈ L, upPath (pth e) = [] ∨ ∃ t ∈ L, pth t = upPath (pth e) ∧ t.kind = 0)
    (h1 : ∀ e ∈ L, ∀ p ∈ sp (pth e), P.isName p = true) (h2 : ∀ e ∈ L, (sp (pth e)).length ≤ 5) (h3 : ∀ e ∈ L, kindBad e = false) (h4 : ∀ e ∈ L, e.kind = 3 → outP ((sp (pth e)).length - 1) e.data.data.toList = false) : Tree L ∧ wrongP L = 0 := by
  have hfine : ∀ i, i < L.length → fineP L i = true := by
    intro i hi
    have hm : L[i] ∈ L := List.getElem_mem hi
    have hub : upBad L (pth L[i]) = false := by
      unfold upBad
      split
      · rfl
      · rename_i hl
        rcases hup _ hm with hu | ⟨t, ht, hu, hk⟩
        · exfalso
          rcases cut_cases (pth L[i]) with ⟨_, e1, _⟩ | ⟨a, n, e0, _, e1, e2, _⟩
          · rw [e1] at hl; simp at hl
          · rw [e2] at hu
            subst hu
            have := h1 _ hm [] (by rw [e1]; simp [sp])
            exact isName_ne this rfl
        · obtain ⟨j, hj, rfl⟩ := List.mem_iff_getElem.1 ht
          rw [← hu, find_once L hon j hj]
          rw [if_neg (by omega), Int.toNat_natCast, en_getD L j hj, hk]
          rfl
    unfold fineP
    rw [en_getD L i hi]
    have hfo := find_once L hon i hi
    have h1' := h1 _ hm
    have h2' := h2 _ hm
    have h3' := h3 _ hm
    unfold pth at hub hfo h1' h2'
    simp only [Bool.and_eq_true, decide_eq_true_eq, Bool.not_eq_true', beq_iff_eq, List.all_eq_true]
    exact ⟨⟨⟨⟨h2', h1'⟩, h3'⟩, hub⟩, hfo⟩
  refine ⟨⟨h40, hfine⟩, ?_⟩
  unfold wrongP
  rw [if_neg (by omega), if_neg, if_neg]
  · intro hc
    rw [List.any_eq_true] at hc
    obtain ⟨e, he, hc⟩ := hc
    simp only [Bool.and_eq_true, beq_iff_eq] at hc
    have := h4 e he hc.1
    unfold pth at this
    rw [this] at hc
    simp at hc
  · have : (List.range L.length).all (fineP L) = true := List.all_eq_true.2 fun i hi => hfine i (List.mem_range.1 hi)
    rw [this]; simp
/-- WHAT IS FETCHED IS A TREE, and no link leads out -/
theorem flat_tree {S : List UInt8 → Option (List UInt8)} (f : Nat) (b : List UInt8) (L : List En) (h40 : L.length ≤ 40) (h : Flat S f 1 b [] L) : Tree L ∧ wrongP L = 0 := by
  have hfi := flat_fine f 0 b [] L h (.inl ⟨rfl, rfl⟩)
  exact treeIs L h40 (flat_once f 1 b [] L h) (flat_up f 0 1 b [] L h (.inl ⟨rfl, rfl⟩)) (fun e he => (hfi e he).names) (fun e he => (hfi e he).deep) (fun e he => (hfi e he).kind) (fun e he => (hfi e he).out)
end Go.Proofs.YtjmacegibchplaaGreatDoor
