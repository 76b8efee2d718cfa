/-
  What Fetch gives: of its tree Build gives the root that was asked for. Plain lists, no walk.
-/
import Derived.Test.YtjmacegibchplaaGreatDoorFetQ
namespace Go.Proofs.YtjmacegibchplaaGreatDoor
set_option linter.unusedVariables false

/-- the part that a directory's item has brought -/
theorem flatF_sub {S : List UInt8 → Option (List UInt8)} {R : List UInt8 → List UInt8 → List En → Prop} (hR : ∀ b d s, R b d s → ∀ e ∈ s, pre d <+: pth e) {d : List UInt8} {deep : Int} :
    ∀ (l : List P.It) (seg : List En), (∀ x ∈ l, P.itemOk x = true) → l.Pairwise (fun x y => less x.name.data.toList y.name.data.toList = true) → FlatF S R d deep l seg → ∀ x ∈ l, x.kind = 0 →
      ∃ (b : List UInt8) (A s C : List En), seg = A ++ s ++ C ∧ S x.dig.data.toList = some b ∧ P.digest b = x.dig.data.toList ∧ (b.length : Int) = x.size ∧ R b (pre d ++ x.name.data.toList) s ∧ ∀ e ∈ A ++ C, ¬ pre (pre d ++ x.name.data.toList) <+: pth e
  | [], seg, _, _, _, x, hx, _ => by simp at hx
  | y :: r, seg, hok, hs, h, x, hx, h0 => by
    obtain ⟨t, s1, s2, rfl, _, hp, _, hc, hr⟩ := h
    have hyn := item_name y (hok y (by simp))
    have hok2 : ∀ y ∈ r, P.itemOk y = true := fun y hy => hok y (by simp [hy])
    rcases List.mem_cons.1 hx with rfl | hx
    · rcases hc with ⟨h3, _⟩ | ⟨_, b, hb1, hb2, hb3, ⟨hn0, _⟩ | ⟨_, _, hb⟩⟩
      · omega
      · exact absurd h0 hn0
      · refine ⟨b, [t], s1, s2, by simp, hb1, hb2, hb3, hb, ?_⟩
        intro e he hpr
        rcases List.mem_append.1 he with he | he
        · rw [List.mem_singleton.1 he] at hpr
          exact long (pre_name_ne (isName_ne hyn)) hpr hp
        · obtain ⟨z, hz, hi⟩ := flatF_in hR r s2 hok2 hr e he
          exact head_apart hs z hz (inI_apart (isName_no hyn) (isName_no (item_name z (hok2 z hz))) (inI_sub (isName_ne hyn) hpr) hi)
    · obtain ⟨b, A, s, C, rfl, hb1, hb2, hb3, hb, hno⟩ := flatF_sub hR r s2 hok2 (List.pairwise_cons.1 hs).2 hr x hx h0
      have hxn := item_name x (hok2 x hx)
      refine ⟨b, t :: (s1 ++ A), s, C, by simp, hb1, hb2, hb3, hb, ?_⟩
      have hap : ∀ e, InI d y e → ¬ pre (pre d ++ x.name.data.toList) <+: pth e := fun e hi hpr =>
        head_apart hs x hx (inI_apart (isName_no hyn) (isName_no hxn) hi (inI_sub (isName_ne hxn) hpr))
      intro e he
      simp only [List.cons_append, List.mem_cons, List.mem_append] at he
      rcases he with rfl | (he | he) | he
      · exact hap _ (inI_top hp)
      · rcases hc with ⟨_, _, _, rfl⟩ | ⟨_, b, _, _, _, ⟨_, _, _, rfl⟩ | ⟨_, _, hb⟩⟩
        · simp at he
        · simp at he
        · exact hap e (inI_sub (isName_ne hyn) (hR _ _ _ hb e he))
      · exact hno e (List.mem_append.2 (.inl he))
      · exact hno e (List.mem_append.2 (.inr he))
/-- an entry is an item's, or stands below a directory's -/
theorem flatF_mem {S : List UInt8 → Option (List UInt8)} {R : List UInt8 → List UInt8 → List En → Prop} (hR : ∀ b d s, R b d s → ∀ e ∈ s, pre d <+: pth e) {d : List UInt8} {deep : Int} :
    ∀ (l : List P.It) (seg : List En), FlatF S R d deep l seg → ∀ e ∈ seg, ∃ x ∈ l, (pth e = pre d ++ x.name.data.toList ∧ e.kind = x.kind) ∨ (x.kind = 0 ∧ pre (pre d ++ x.name.data.toList) <+: pth e)
  | [], seg, h, e, he => by
    simp only [FlatF] at h
    subst h
    simp at he
  | x :: r, seg, h, e, he => by
    obtain ⟨t, s1, s2, rfl, _, hp, hk, hc, hr⟩ := h
    simp only [List.mem_cons, List.mem_append] at he
    rcases he with rfl | he | he
    · exact ⟨x, by simp, .inl ⟨hp, hk⟩⟩
    · rcases hc with ⟨_, _, _, rfl⟩ | ⟨_, b, _, _, _, ⟨_, _, _, rfl⟩ | ⟨h0, _, hb⟩⟩
      · simp at he
      · simp at he
      · exact ⟨x, by simp, .inr ⟨h0, hR _ _ _ hb e he⟩⟩
    · obtain ⟨y, hy, hi⟩ := flatF_mem hR r s2 hr e he
      exact ⟨y, by simp [hy], hi⟩
/-- the part that a directory's entry has brought -/
theorem flat_sub {S : List UInt8 → Option (List UInt8)} : ∀ (f : Nat) (deep : Int) (b d : List UInt8) (seg : List En), Flat S f deep b d seg → ∀ e ∈ seg, e.kind = 0 →
      ∃ (g : Nat) (deep' : Int) (b' : List UInt8) (A s C : List En), g ≤ f ∧ seg = A ++ s ++ C ∧ Flat S g deep' b' (pth e) s ∧ S (P.digest b') = some b' ∧ ∀ t ∈ A ++ C, ¬ pre (pth e) <+: pth t
  | 0, _, _, _, _, h, _, _, _ => h.elim
  | f + 1, deep, b, d, seg, ⟨l, hl, h⟩, e, he, h0 => by
    have hd := ((decOk_iff _ _).1 hl).1
    have hR := fun b d s => flat_under (S := S) f (deep + 1) b d s
    obtain ⟨x, hx, hcase⟩ := flatF_mem hR l seg h e he
    have hxn := item_name x (dir_each l hd x hx)
    rcases hcase with ⟨hp, hk⟩ | ⟨hx0, hpr⟩
    · obtain ⟨b', A, s, C, e1, hb1, hb2, _, hb, hno⟩ := flatF_sub hR l seg (dir_each l hd) (dir_rise l hd) h x hx (by omega)
      exact ⟨f, deep + 1, b', A, s, C, by omega, e1, by rw [hp]; exact hb, by rw [hb2]; exact hb1, by rw [hp]; exact hno⟩
    · obtain ⟨b', A, s, C, e1, _, _, _, hb, hno⟩ := flatF_sub hR l seg (dir_each l hd) (dir_rise l hd) h x hx hx0
      have hes : e ∈ s := by
        rw [e1] at he
        simp only [List.mem_append] at he
        rcases he with (he | he) | he
        · exact absurd hpr (hno e (List.mem_append.2 (.inl he)))
        · exact he
        · exact absurd hpr (hno e (List.mem_append.2 (.inr he)))
      obtain ⟨g, deep', b2, A2, s2, C2, hg, e2, hf2, hs2, hno2⟩ := flat_sub f (deep + 1) b' _ s hb e hes h0
      refine ⟨g, deep', b2, A ++ A2, s2, C2 ++ C, by omega, by rw [e1, e2]; simp, hf2, hs2, ?_⟩
      have hne : pth e ≠ [] := by
        intro e3
        rw [e3, pre_sub (isName_ne hxn)] at hpr
        have := hpr.length_le
        simp at this
      have hup : pre (pre d ++ x.name.data.toList) <+: pre (pth e) := by
        rw [pre_some hne]
        exact hpr.trans (List.prefix_append _ _)
      intro t ht
      simp only [List.append_assoc, List.mem_append] at ht
      rcases ht with ht | ht | ht | ht
      · exact fun hc => hno t (List.mem_append.2 (.inl ht)) (hup.trans hc)
      · exact hno2 t (List.mem_append.2 (.inl ht))
      · exact hno2 t (List.mem_append.2 (.inr ht))
      · exact fun hc => hno t (List.mem_append.2 (.inr ht)) (hup.trans hc)

def kidB (p : List UInt8) (e : En) : Bool := (kid p (pth e)).isSome
/-- an entry's item -/
def itF (p : List UInt8) (bl : List UInt8 → List UInt8) (e : En) : P.It :=
  if e.kind = 3 then ⟨bs ((pth e).drop p.length), 3, ⟨#[]⟩, 0, e.data⟩
  else ⟨bs ((pth e).drop p.length), e.kind, bs (P.digest (if e.kind = 0 then bl (pth e ++ [47]) else e.data.data.toList)), ((if e.kind = 0 then bl (pth e ++ [47]) else e.data.data.toList).length : Int), ⟨#[]⟩⟩
theorem items_itF (l : List En) (p : List UInt8) (bl : List UInt8 → List UInt8) : itemsP l p bl = ((insP l p).map (fun i => l.getD i en0)).map (itF p bl) := by
  unfold itemsP
  rw [List.map_map]
  rfl
def nmE (p : List UInt8) (e : En) : List UInt8 := (pth e).drop p.length
theorem ents_filter (L : List En) (ht : Tree L) (p : List UInt8) (hs : (L.filter (kidB p)).Pairwise (fun a b => less (nmE p a) (nmE p b) = true)) : (insP L p).map (fun i => L.getD i en0) = L.filter (kidB p) := by
  refine order_one (fun a b => less (nmE p a) (nmE p b)) (fun _ => less_irr _) (fun _ _ _ => less_trans _ _ _) _ _ ?_ hs ?_
  · rw [List.pairwise_map]
    exact insG_sorted L p _ _
  · intro e
    simp only [List.mem_map, List.mem_filter]
    constructor
    · rintro ⟨i, hi, rfl⟩
      obtain ⟨hl, n, hn⟩ := (insP_iff L ht p i).1 hi
      rw [en_getD L i hl]
      exact ⟨List.getElem_mem hl, by unfold kidB pth; rw [hn]; rfl⟩
    · rintro ⟨hm, hk⟩
      obtain ⟨i, hi, rfl⟩ := List.mem_iff_getElem.1 hm
      unfold kidB pth at hk
      obtain ⟨n, hn⟩ := Option.isSome_iff_exists.1 hk
      exact ⟨i, (insP_iff L ht p i).2 ⟨hi, n, hn⟩, en_getD L i hi⟩
theorem kidB_pre {p : List UInt8} {e : En} (h : kidB p e = true) : p <+: pth e := by
  unfold kidB at h
  obtain ⟨n, hn⟩ := Option.isSome_iff_exists.1 h
  obtain ⟨e1, _⟩ := kid_some hn
  exact ⟨n, e1.symm⟩
theorem kid_yes {p n : List UInt8} (hne : n ≠ []) (hn : P.has n 47 = false) : kid p (p ++ n) = some n := by
  unfold kid
  rw [List.drop_left, List.take_left, if_pos]
  refine ⟨?_, rfl, hn⟩
  have : 0 < n.length := List.length_pos_iff.2 hne
  simp; omega
theorem kidB_sub {d n : List UInt8} {e : En} (hne : n ≠ []) (h : pre (pre d ++ n) <+: pth e) : kidB (pre d) e = false := by
  rw [pre_sub hne] at h
  obtain ⟨r, hr⟩ := h
  cases hk : kidB (pre d) e with
  | false => rfl
  | true =>
    unfold kidB at hk
    obtain ⟨m, hm⟩ := Option.isSome_iff_exists.1 hk
    obtain ⟨e1, _, hno⟩ := kid_some hm
    rw [e1, List.append_assoc] at hr
    have := List.append_cancel_left hr
    rw [← this] at hno
    exact absurd (by simp : (47 : UInt8) ∈ n ++ [47] ++ r) (has_false.1 hno)
theorem bs_eta (x : ByteArray) : bs x.data.toList = x := by cases x; simp [bs]
theorem item_eta {x y : P.It} (h1 : x.name = y.name) (h2 : x.kind = y.kind) (h3 : x.dig = y.dig) (h4 : x.size = y.size) (h5 : x.tgt = y.tgt) : x = y := by
  cases x; cases y; simp_all
theorem empty_lst {b : ByteArray} (h : b.toList.isEmpty = true) : b = ⟨#[]⟩ := by
  rw [ByteArray.toList_eq, List.isEmpty_iff] at h
  rw [← bs_eta b, h]; rfl
theorem flatF_tops {S : List UInt8 → Option (List UInt8)} {R : List UInt8 → List UInt8 → List En → Prop} (hR : ∀ b d s, R b d s → ∀ e ∈ s, pre d <+: pth e) {d : List UInt8} {deep : Int} (bl : List UInt8 → List UInt8) :
    ∀ (l : List P.It) (seg : List En), (∀ x ∈ l, P.itemOk x = true) → (∀ x ∈ l, x.kind = 0 → P.digest (bl (pre d ++ x.name.data.toList ++ [47])) = x.dig.data.toList ∧ ((bl (pre d ++ x.name.data.toList ++ [47])).length : Int) = x.size) →
      FlatF S R d deep l seg → (seg.filter (kidB (pre d))).map (itF (pre d) bl) = l
  | [], seg, _, _, h => by
    simp only [FlatF] at h
    subst h
    rfl
  | x :: r, seg, hok, hbl, h => by
    obtain ⟨t, s1, s2, rfl, _, hp, hkd, hc, hr⟩ := h
    have hxo := hok x (by simp)
    have hxn := item_name x hxo
    have ih := flatF_tops hR bl r s2 (fun y hy => hok y (by simp [hy])) (fun y hy => hbl y (by simp [hy])) hr
    have h1 : s1.filter (kidB (pre d)) = [] := by
      rw [List.filter_eq_nil_iff]
      intro e he
      rcases hc with ⟨_, _, _, rfl⟩ | ⟨_, b, _, _, _, ⟨_, _, _, rfl⟩ | ⟨_, _, hb⟩⟩
      · simp at he
      · simp at he
      · rw [kidB_sub (isName_ne hxn) (hR _ _ _ hb e he)]; simp
    have h2 : kidB (pre d) t = true := by
      unfold kidB
      rw [hp, kid_yes (isName_ne hxn) (isName_no hxn)]; rfl
    rw [List.filter_cons_of_pos h2, List.filter_append, h1, List.nil_append, List.map_cons, ih]
    congr 1
    have hnm : bs ((pth t).drop (pre d).length) = x.name := by rw [hp, List.drop_left]; exact bs_eta _
    unfold itF
    rcases item_kind x hxo with ⟨h3, hlk⟩ | ⟨hq, hpl⟩
    · rcases hc with ⟨_, hdt, _, _⟩ | ⟨hn3, _⟩
      · simp only [P.linkOk, Bool.and_eq_true, beq_iff_eq] at hlk
        rw [if_pos (by omega)]
        exact item_eta hnm h3.symm (empty_lst hlk.1.2).symm hlk.2.symm hdt
      · exact absurd h3 hn3
    · rcases hc with ⟨h3, _⟩ | ⟨_, b, _, hb2, hb3, ⟨hn0, _, hdt, _⟩ | ⟨h0, _, _⟩⟩
      · omega
      · have hdd : t.data.data.toList = b := by rw [hdt]; exact bs_data b
        rw [if_neg (by omega), if_neg (by omega), hdd]
        exact item_eta hnm hkd (by show bs (P.digest b) = x.dig; rw [hb2]; exact bs_eta _) hb3 (plain_tgt hpl).symm
      · obtain ⟨hb4, hb5⟩ := hbl x (by simp) h0
        rw [if_neg (by omega), if_pos (by omega), hp]
        exact item_eta (by rw [← hp]; exact hnm) hkd (by show bs (P.digest _) = x.dig; rw [hb4]; exact bs_eta _) hb5 (plain_tgt hpl).symm
/-- THE BLOB of a directory of the fetched tree is what stood in the store -/
theorem flat_blob {S : List UInt8 → Option (List UInt8)} (L : List En) (ht : Tree L) : ∀ (f : Nat) (deep : Int) (b d : List UInt8) (A seg C : List En), Flat S f deep b d seg → L = A ++ seg ++ C → (∀ e ∈ A ++ C, ¬ pre d <+: pth e) → ∀ g, f ≤ g → blobP L g (pre d) = b
  | 0, _, _, _, _, _, _, h, _, _, _, _ => h.elim
  | f + 1, deep, b, d, A, seg, C, ⟨l, hl, h⟩, hL, hno, g, hg => by
    obtain ⟨g, rfl⟩ : ∃ k, g = k + 1 := ⟨g - 1, by omega⟩
    obtain ⟨hd, hb⟩ := (decOk_iff _ _).1 hl
    have hR := fun b d s => flat_under (S := S) f (deep + 1) b d s
    have hbl : ∀ x ∈ l, x.kind = 0 → P.digest (blobP L g (pre d ++ x.name.data.toList ++ [47])) = x.dig.data.toList ∧ ((blobP L g (pre d ++ x.name.data.toList ++ [47])).length : Int) = x.size := by
      intro x hx h0
      have hxn := item_name x (dir_each l hd x hx)
      obtain ⟨b', A2, s, C2, e1, _, hb2, hb3, hbb, hno2⟩ := flatF_sub hR l seg (dir_each l hd) (dir_rise l hd) h x hx h0
      have := flat_blob L ht f (deep + 1) b' (pre d ++ x.name.data.toList) (A ++ A2) s (C2 ++ C) hbb (by rw [hL, e1]; simp) ?_ g (by omega)
      · rw [pre_some (pre_name_ne (isName_ne hxn))] at this
        rw [this]
        exact ⟨hb2, hb3⟩
      · intro e he
        have hup : pre d <+: pre (pre d ++ x.name.data.toList) := by rw [pre_sub (isName_ne hxn)]; exact List.prefix_append _ _
        simp only [List.append_assoc, List.mem_append] at he
        rcases he with he | he | he | he
        · exact fun hc => hno e (List.mem_append.2 (.inl he)) (hup.trans hc)
        · exact hno2 e (List.mem_append.2 (.inl he))
        · exact hno2 e (List.mem_append.2 (.inr he))
        · exact fun hc => hno e (List.mem_append.2 (.inr he)) (hup.trans hc)
    have htops := flatF_tops hR (blobP L g) l seg (dir_each l hd) hbl h
    have hf : L.filter (kidB (pre d)) = seg.filter (kidB (pre d)) := by
      have hA : A.filter (kidB (pre d)) = [] := List.filter_eq_nil_iff.2 fun e he hk => hno e (List.mem_append.2 (.inl he)) (kidB_pre hk)
      have hC : C.filter (kidB (pre d)) = [] := List.filter_eq_nil_iff.2 fun e he hk => hno e (List.mem_append.2 (.inr he)) (kidB_pre hk)
      rw [hL, List.filter_append, List.filter_append, hA, hC]
      simp
    have hsort : (L.filter (kidB (pre d))).Pairwise (fun a b => less (nmE (pre d) a) (nmE (pre d) b) = true) := by
      have h1 := dir_rise l hd
      rw [← htops, List.pairwise_map, ← hf] at h1
      refine h1.imp ?_
      intro a b hab
      have hn : ∀ e, (itF (pre d) (blobP L g) e).name.data.toList = nmE (pre d) e := by
        intro e
        unfold itF nmE
        split <;> exact bs_data _
      rwa [hn, hn] at hab
    show dirBytes (itemsP L (pre d) (blobP L g)) = b
    rw [items_itF, ents_filter L ht (pre d) hsort, hf, htops, hb]
/-- each blob of the fetched tree stands in the store, under its digest -/
theorem flat_all {S : List UInt8 → Option (List UInt8)} (f : Nat) (hf : f ≤ 6) (b : List UInt8) (L : List En) (ht : Tree L) (h : Flat S f 1 b [] L) (hS : S (P.digest b) = some b) : blobP L 6 [] = b ∧ ∀ x ∈ allP L, S (P.digest x) = some x := by
  have hb : blobP L 6 [] = b := by
    have := flat_blob L ht f 1 b [] [] L [] h (by simp) (by simp) 6 hf
    rwa [pre_nil] at this
  refine ⟨hb, ?_⟩
  have hfi := flat_fine f 0 b [] L h (.inl ⟨rfl, rfl⟩)
  intro x hx
  unfold allP allTo at hx
  rw [List.take_length] at hx
  rcases List.mem_cons.1 hx with rfl | hx
  · rw [hb]; exact hS
  · obtain ⟨e, he, hxe⟩ := List.mem_flatMap.1 hx
    unfold partP at hxe
    split at hxe
    · rename_i h0
      rw [List.mem_singleton.1 hxe]
      obtain ⟨g, deep', b', A, s, C, hg, e1, hfl, hs, hno⟩ := flat_sub f 1 b [] L h e he h0
      have := flat_blob L ht g deep' b' (pth e) A s C hfl e1 hno 6 (by omega)
      have hne : pth e ≠ [] := by
        intro e0
        have := (hfi e he).names [] (by rw [e0]; simp [sp])
        exact isName_ne this rfl
      rw [pre_some hne] at this
      show S (P.digest (blobP L 6 (pth e ++ [47]))) = some (blobP L 6 (pth e ++ [47]))
      rw [this]
      exact hs
    · split at hxe
      · rename_i hk
        rw [List.mem_singleton.1 hxe]
        exact (hfi e he).data hk
      · simp at hxe
/-- FETCH'S PROMISE: a tree, none of its links leads out, and Build gives the root that was asked for -/
theorem fetch_rooted (S : List UInt8 → Option (List UInt8)) (root : List UInt8) (ents dp : Int) (L : List En) (h : fetchP S root ents dp = (0, L)) :
    Tree L ∧ wrongP L = 0 ∧ P.digest (blobP L 6 []) = root ∧ ∃ out, builtP L = some out := by
  unfold fetchP at h
  split at h
  · rename_i hz
    simp only [Prod.mk.injEq] at h
    exact absurd h.1 hz
  · rename_i hz
    obtain ⟨hs, hdg⟩ := blobS_ok (by simpa using hz)
    generalize (blobS S root).2 = b at *
    simp only at h
    split at h
    · rename_i hq
      simp only [Prod.mk.injEq] at h
      exact absurd h.1 hq
    · obtain ⟨h40, seg, e1, hfl⟩ := belowF_flat S ents dp 6 1 b [] [] L (by simp) h
      rw [List.nil_append] at e1
      subst e1
      obtain ⟨ht, hw⟩ := flat_tree 6 b L h40 hfl
      obtain ⟨hb, hall⟩ := flat_all 6 (Nat.le_refl _) b L ht hfl (by rw [hdg]; exact hs)
      refine ⟨ht, hw, by rw [hb, hdg], ?_⟩
      unfold builtP
      rcases outs_spec (allP L) with ⟨_, x, hx, y, hy, e, hne⟩ | ⟨out, ho, _⟩
      · have h1 := hall x hx
        have h2 := hall y hy
        rw [e, h2] at h1
        exact absurd (Option.some.inj h1).symm hne
      · exact ⟨out, ho⟩
end Go.Proofs.YtjmacegibchplaaGreatDoor
