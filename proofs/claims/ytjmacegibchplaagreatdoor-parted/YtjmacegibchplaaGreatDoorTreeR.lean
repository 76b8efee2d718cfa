/-
  The blobs of a tree: plain lists. No walk.
-/
import Derived.Test.YtjmacegibchplaaGreatDoorTreeQ
namespace Go.Proofs.YtjmacegibchplaaGreatDoor
set_option linter.unusedVariables false
theorem sp_app (a r : List UInt8) : sp (a ++ 47 :: r) = sp a ++ sp r := by
  induction a with
  | nil => simp [sp]
  | cons c a ih =>
    simp only [List.cons_append, sp]
    by_cases hc : c = 47
    · simp only [if_pos hc, ih]; rfl
    · simp only [if_neg hc, ih]
      cases ha : sp a with
      | nil => exact absurd ha (sp_ne a)
      | cons h t => rfl
theorem sp_more : ∀ (a n : List UInt8), P.has n 47 = false → (sp (a ++ n)).length = (sp a).length
  | [], n, h => by rw [List.nil_append, sp_end n h]; rfl
  | c :: a, n, h => by
    have ih := sp_more a n h
    simp only [List.cons_append, sp]
    by_cases hc : c = 47
    · simp only [if_pos hc]; simp [ih]
    · simp only [if_neg hc]
      cases h1 : sp (a ++ n) with
      | nil => exact absurd h1 (sp_ne _)
      | cons x t => cases h2 : sp a with
        | nil => exact absurd h2 (sp_ne _)
        | cons y u => rw [h1, h2] at ih; simpa using ih
def DirPath (path : List UInt8) : Prop := path = [] ∨ ∃ q, path = q ++ [47]
theorem kid_name {path p n : List UInt8} (hd : DirPath path) (h : kid path p = some n) : n ∈ sp p := by
  obtain ⟨rfl, _, hn⟩ := kid_some h
  rcases hd with rfl | ⟨q, rfl⟩
  · rw [List.nil_append, sp_end n hn]; simp
  · rw [List.append_assoc]
    show n ∈ sp (q ++ 47 :: n)
    rw [sp_app, sp_end n hn]; simp
structure Tree (l : List En) : Prop where
  len : l.length ≤ 40
  fine : ∀ i, i < l.length → fineP l i = true
def nm (l : List En) (path : List UInt8) (i : Nat) : List UInt8 := (l.getD i en0).path.data.toList.drop path.length
theorem en_getD (l : List En) (i : Nat) (h : i < l.length) : l.getD i en0 = l[i] := by rw [List.getD_eq_getElem?_getD, List.getElem?_eq_getElem h]; rfl
theorem nm_kid (l : List En) (path n : List UInt8) (i : Nat) (h : i < l.length) (hk : kid path l[i].path.data.toList = some n) : nm l path i = n := by
  obtain ⟨e, _⟩ := kid_some hk
  rw [nm, en_getD l i h, e, List.drop_left]
theorem insG_mem (l : List En) (path : List UInt8) : ∀ f last i, i ∈ insG l path f last → i < l.length ∧ kid path (l.getD i en0).path.data.toList = some (nm l path i) ∧ less last (nm l path i) = true
  | 0, _, _, h => by simp [insG] at h
  | f + 1, last, i, h => by
    simp only [insG] at h
    split at h
    · simp at h
    · rename_i hneg
      rcases nxt_best l path last with ⟨h0, _⟩ | ⟨j, hj, h0, h1, h2, h3⟩
      · exact absurd h0 hneg
      · have hn := nm_kid l path _ j hj h1
        rcases List.mem_cons.1 h with rfl | h
        · rw [h0, Int.toNat_natCast]
          exact ⟨hj, by rw [en_getD l j hj, hn]; exact h1, by rw [hn]; exact h2⟩
        · obtain ⟨q1, q2, q3⟩ := insG_mem l path f _ i h
          exact ⟨q1, q2, less_trans _ _ _ h2 q3⟩
theorem insG_sorted (l : List En) (path : List UInt8) : ∀ f last, (insG l path f last).Pairwise (fun i j => less (nm l path i) (nm l path j) = true)
  | 0, _ => by simp [insG]
  | f + 1, last => by
    simp only [insG]
    split
    · simp
    · rename_i hneg
      rcases nxt_best l path last with ⟨h0, _⟩ | ⟨j, hj, h0, h1, h2, h3⟩
      · exact absurd h0 hneg
      · have hn := nm_kid l path _ j hj h1
        rw [List.pairwise_cons]
        refine ⟨fun i hi => ?_, insG_sorted l path f _⟩
        rw [h0, Int.toNat_natCast, hn]
        exact (insG_mem l path f _ i hi).2.2
theorem insG_len (l : List En) (path : List UInt8) : ∀ f last, (insG l path f last).length ≤ behind l path last
  | 0, _ => by simp [insG]
  | f + 1, last => by
    simp only [insG]
    split
    · simp
    · rename_i hneg
      have h1 := behind_lt l path last hneg
      have h2 := insG_len l path f (nxt l path last).2
      simp; omega
theorem insG_all (l : List En) (path : List UInt8) : ∀ f last, behind l path last < f → ∀ j (h : j < l.length) m, kid path l[j].path.data.toList = some m → less last m = true → ∃ i ∈ insG l path f last, nm l path i = m
  | 0, _, h, _, _, _, _, _ => absurd h (by omega)
  | f + 1, last, hf, j, hj, m, hm, hl => by
    simp only [insG]
    rcases nxt_best l path last with ⟨h0, h⟩ | ⟨i, hi, h0, h1, h2, h3⟩
    · rw [h _ (List.getElem_mem hj) m hm] at hl; simp at hl
    · have hneg : ¬ (nxt l path last).1 < 0 := by omega
      rw [if_neg hneg]
      have hb := behind_lt l path last hneg
      have hn := nm_kid l path _ i hi h1
      have hle := h3 _ (List.getElem_mem hj) m hm hl
      by_cases he : m = (nxt l path last).2
      · exact ⟨i, by rw [h0]; simp, by rw [hn, he]⟩
      · have hlt : less (nxt l path last).2 m = true := by
          cases hx : less (nxt l path last).2 m with
          | true => rfl
          | false => exact absurd (less_tri _ _ hle hx) he
        obtain ⟨i', hi', e'⟩ := insG_all l path f _ (by omega) j hj m hm hlt
        exact ⟨i', List.mem_cons_of_mem _ hi', e'⟩
theorem insP_len (l : List En) (path : List UInt8) : (insP l path).length ≤ l.length := Nat.le_trans (insG_len l path _ _) (behind_le l path [])
theorem insP_mem {l : List En} {path : List UInt8} {i : Nat} (h : i ∈ insP l path) : i < l.length ∧ kid path (l.getD i en0).path.data.toList = some (nm l path i) := ⟨(insG_mem l path _ _ i h).1, (insG_mem l path _ _ i h).2.1⟩
theorem insP_all {l : List En} {path : List UInt8} {j : Nat} (h : j < l.length) {m : List UInt8} (hm : kid path l[j].path.data.toList = some m) : ∃ i ∈ insP l path, nm l path i = m := by
  refine insG_all l path _ _ (by have := behind_le l path []; omega) j h m hm ?_
  obtain ⟨_, hne, _⟩ := kid_some hm
  cases m with
  | nil => exact absurd rfl hne
  | cons c r => simp [less, Op.bytesLess]
def itemP (l : List En) (path : List UInt8) (bl : List UInt8 → List UInt8) (i : Nat) : P.It :=
  let e := l.getD i en0
  if e.kind = 3 then ⟨bs (nm l path i), 3, ⟨#[]⟩, 0, e.data⟩
  else
    let b := if e.kind = 0 then bl (e.path.data.toList ++ [47]) else e.data.data.toList
    ⟨bs (nm l path i), e.kind, bs (P.digest b), b.length, ⟨#[]⟩⟩
def itemsP (l : List En) (path : List UInt8) (bl : List UInt8 → List UInt8) : List P.It := (insP l path).map (itemP l path bl)
def blobP (l : List En) : Nat → List UInt8 → List UInt8
  | 0, _ => []
  | f + 1, path => dirBytes (itemsP l path (blobP l f))
theorem hex_has : ∀ i : Fin 16, P.has P.hexd (P.hexd.getD i.val 0) = true := by decide
theorem hex_ok (n : Int) (h0 : 0 ≤ n) (h1 : n ≤ 15) : P.has P.hexd (P.hex n) = true := hex_has ⟨n.toNat, by omega⟩
theorem digest_ok (b : List UInt8) : P.isDigest (P.digest b) = true := by
  have hb := P.dnum_bd b
  simp only [P.isDigest, P.digest, P.three, List.length_cons, List.length_nil, List.all_cons, List.all_nil]
  rw [hex_ok _ (by omega) (by omega), hex_ok _ (by omega) (by omega), hex_ok _ (by omega) (by omega)]
  rfl
theorem fineP_name (l : List En) (i : Nat) (h : i < l.length) (hf : fineP l i = true) : ∀ n ∈ sp l[i].path.data.toList, P.isName n = true := by
  simp only [fineP, en_getD l i h, Bool.and_eq_true] at hf
  exact List.all_eq_true.1 hf.1.1.1.2
theorem fineP_kind (l : List En) (i : Nat) (h : i < l.length) (hf : fineP l i = true) : kindBad l[i] = false := by
  simp only [fineP, en_getD l i h, Bool.and_eq_true] at hf
  simpa using hf.1.1.2
theorem itemP_ok (l : List En) (path : List UInt8) (bl : List UInt8 → List UInt8) (ht : Tree l) (hd : DirPath path) (i : Nat) (hi : i ∈ insP l path) (hbl : (bl ((l.getD i en0).path.data.toList ++ [47])).length ≤ 2000) : P.itemOk (itemP l path bl i) = true := by
  obtain ⟨hil, hk⟩ := insP_mem hi
  have hname := fineP_name l i hil (ht.fine i hil)
  have hkind := fineP_kind l i hil (ht.fine i hil)
  have hn : P.isName (nm l path i) = true := by
    refine hname _ ?_
    have := kid_name hd hk
    rwa [en_getD l i hil] at this
  unfold itemP
  rw [en_getD l i hil] at *
  simp only [kindBad, Bool.or_eq_false_iff, decide_eq_false_iff_not] at hkind
  obtain ⟨⟨⟨⟨k1, k2⟩, k3⟩, k4⟩, k5⟩ := hkind
  by_cases h3 : l[i].kind = 3
  · rw [h3] at k5
    simp only [if_pos h3, P.itemOk, bs_data, hn, P.shape, P.linkOk]
    simp at k5
    rw [k5]
    simp [ByteArray.toList_eq]
  · simp only [if_neg h3, P.itemOk, bs_data, hn, P.plainOk, digest_ok]
    have hs : P.shape l[i].kind = 1 := by
      unfold P.shape
      split
      · rfl
      · split
        · rfl
        · split
          · rfl
          · omega
    rw [if_pos hs]
    have hlen : (if l[i].kind = 0 then bl (l[i].path.data.toList ++ [47]) else l[i].data.data.toList).length ≤ 2000 := by
      split
      · exact hbl
      · rename_i h0
        have h12 : l[i].kind = 1 ∨ l[i].kind = 2 := by omega
        have : (l[i].kind == 1 || l[i].kind == 2) = true := by rcases h12 with h | h <;> simp [h]
        rw [this] at k4
        simp at k4
        simp
        omega
    have hw : P.within ((if l[i].kind = 0 then bl (l[i].path.data.toList ++ [47]) else l[i].data.data.toList).length : Int) 0 2000 = true := by
      unfold P.within; simp only [decide_eq_true_eq]; omega
    rw [hw]; simp [ByteArray.toList_eq]
theorem itemBytes_45 (x : P.It) (h : P.itemOk x = true) : (itemBytes x).length ≤ 45 := by
  have hn : x.name.size ≤ 12 := by
    simp only [P.itemOk, P.isName, Bool.and_eq_true, decide_eq_true_eq] at h
    have := h.1.1.1.1.1.2
    simpa using this
  by_cases h3 : x.kind = 3
  · have ht : x.tgt.size ≤ 30 := by
      simp only [P.itemOk, h3, P.shape, P.linkOk, P.isTarget, Bool.and_eq_true] at h
      simp at h
      omega
    rw [itemBytes_link x h3]
    simp; omega
  · obtain ⟨_, hd⟩ := ok_plain x h h3
    rw [itemBytes_plain x h3]
    simp; omega
theorem dirBytes_len (l : List P.It) (h40 : l.length ≤ 40) (h : ∀ x ∈ l, P.itemOk x = true) : (dirBytes l).length ≤ 1802 := by
  have : ∀ (l : List P.It), (∀ x ∈ l, P.itemOk x = true) → (itemsBytes l).length ≤ 45 * l.length := by
    intro l
    induction l with
    | nil => intro _; simp [itemsBytes]
    | cons x l ih =>
      intro h
      have h1 := itemBytes_45 x (h x (by simp))
      have h2 := ih (fun y hy => h y (by simp [hy]))
      rw [itemsBytes_cons, List.length_append, List.length_cons]
      omega
  have := this l h
  simp only [dirBytes, List.length_cons]
  omega
theorem dir_next (l : List En) (i : Nat) : DirPath ((l.getD i en0).path.data.toList ++ [47]) := .inr ⟨_, rfl⟩
theorem blob_small (l : List En) (ht : Tree l) : ∀ f path, DirPath path → (blobP l f path).length ≤ 1802
  | 0, _, _ => by simp [blobP]
  | f + 1, path, hd => by
    simp only [blobP]
    refine dirBytes_len _ ?_ ?_
    · have := insP_len l path; have := ht.len; simp [itemsP]; omega
    · intro x hx
      simp only [itemsP, List.mem_map] at hx
      obtain ⟨i, hi, rfl⟩ := hx
      exact itemP_ok l path _ ht hd i hi (by have := blob_small l ht f _ (dir_next l i); omega)
theorem okTo_all (l : List P.It) (h1 : ∀ x ∈ l, P.itemOk x = true) (h2 : l.Pairwise (fun x y => Op.bytesLess x.name.toList y.name.toList = true)) : okTo l l.length = true := by
  unfold okTo
  rw [List.all_eq_true]
  intro k hk
  have hk : k < l.length := by simpa using hk
  have hok := h1 l[k] (List.getElem_mem hk)
  cases k with
  | zero => exact okAt_zero l hk hok
  | succ j =>
    rw [okAt_succ l j hk (by omega) hok]
    exact List.pairwise_iff_getElem.1 h2 j (j + 1) (by omega) hk (by omega)
theorem itemP_name (l : List En) (path : List UInt8) (bl : List UInt8 → List UInt8) (i : Nat) : (itemP l path bl i).name = bs (nm l path i) := by
  simp only [itemP]; split <;> rfl
theorem items_dirOk (l : List En) (ht : Tree l) (f : Nat) (path : List UInt8) (hd : DirPath path) : dirOk (itemsP l path (blobP l f)) = true := by
  have hlen : (itemsP l path (blobP l f)).length ≤ 40 := by have := insP_len l path; have := ht.len; simp [itemsP]; omega
  unfold dirOk
  rw [decide_eq_true hlen, Bool.true_and]
  refine okTo_all _ ?_ ?_
  · intro x hx
    simp only [itemsP, List.mem_map] at hx
    obtain ⟨i, hi, rfl⟩ := hx
    exact itemP_ok l path _ ht hd i hi (by have := blob_small l ht f _ (dir_next l i); omega)
  · unfold itemsP
    rw [List.pairwise_map]
    refine (insG_sorted l path _ _).imp ?_
    intro i j hij
    rw [itemP_name, itemP_name, ByteArray.toList_eq, ByteArray.toList_eq, bs_data, bs_data]
    exact hij
def dep (path : List UInt8) : Nat := (sp path).length - 1
theorem dep_next (l : List En) (ht : Tree l) (path : List UInt8) (i : Nat) (hi : i ∈ insP l path) : dep ((l.getD i en0).path.data.toList ++ [47]) = dep path + 1 ∧ dep path + 1 ≤ 5 := by
  obtain ⟨hil, hk⟩ := insP_mem hi
  obtain ⟨e, _, hn⟩ := kid_some hk
  have h1 := sp_more path _ hn
  rw [← e] at h1
  have h2 := sp_app (l.getD i en0).path.data.toList []
  have hne := sp_ne path
  have hp : 1 ≤ (sp path).length := by
    cases hs : sp path with
    | nil => exact absurd hs hne
    | cons _ _ => simp
  have h5 : (sp (l.getD i en0).path.data.toList).length ≤ 5 := by
    have hf := ht.fine i hil
    simp only [fineP, Bool.and_eq_true, decide_eq_true_eq] at hf
    exact hf.1.1.1.1
  have h3 : (sp []).length = 1 := rfl
  unfold dep
  rw [h2, List.length_append, h3]
  omega
end Go.Proofs.YtjmacegibchplaaGreatDoor
