import Derived.Test.YtjmacegibchplaaGreatDoorFetR
/-
  A tree whose blobs all stand in a store is fetched as it is, in order. Plain lists, no walk.
-/
namespace Go.Proofs.YtjmacegibchplaaGreatDoor
set_option linter.unusedVariables false
def ordP (l : List En) : Nat → List UInt8 → List Nat
  | 0, _ => []
  | f + 1, d => (kidsP l d).flatMap fun i => i :: (if kindAt l i = 0 then ordP l f (pathAt l i) else [])
def oblk (l : List En) (f : Nat) (i : Nat) : List Nat := i :: (if kindAt l i = 0 then ordP l f (pathAt l i) else [])
theorem ord_succ (l : List En) (f : Nat) (d : List UInt8) : ordP l (f + 1) d = (kidsP l d).flatMap (oblk l f) := rfl
theorem ord_walk (l : List En) : ∀ f d i, i ∈ ordP l f d ↔ i ∈ walkP l f d
  | 0, _, _ => by simp [ordP, walkP]
  | f + 1, d, i => by
    rw [ord_succ, walk_succ]
    simp only [List.mem_flatMap, oblk, blk, List.mem_append, List.mem_cons, List.not_mem_nil, or_false]
    constructor
    · rintro ⟨k, hk, rfl | hi⟩
      · exact ⟨i, hk, .inr rfl⟩
      · refine ⟨k, hk, .inl ?_⟩
        split at hi
        · rename_i h0; rw [if_pos h0]; exact (ord_walk l f _ i).1 hi
        · simp at hi
    · rintro ⟨k, hk, hi | rfl⟩
      · refine ⟨k, hk, .inr ?_⟩
        split at hi
        · rename_i h0; rw [if_pos h0]; exact (ord_walk l f _ i).2 hi
        · simp at hi
      · exact ⟨i, hk, .inl rfl⟩
theorem kids_nodup (l : List En) (d : List UInt8) : (kidsP l d).Pairwise (fun i j => i ≠ j) := by
  refine (insG_sorted l (pre d) _ _).imp ?_
  rintro i j h rfl
  rw [less_irr] at h
  simp at h
theorem ord_once (l : List En) (ht : Tree l) : ∀ f d, (ordP l f d).Pairwise (fun i j => i ≠ j)
  | 0, _ => List.Pairwise.nil
  | f + 1, d => by
    rw [ord_succ]
    have hk := kids_nodup l d
    have hin : ∀ k ∈ kidsP l d, ∀ i ∈ oblk l f k, i = k ∨ Under (pathAt l k) (upAt l i) := by
      intro k hk i hi
      unfold oblk at hi
      rcases List.mem_cons.1 hi with rfl | hi
      · exact .inl rfl
      · split at hi
        · exact .inr (walk_lt l ht f _ i ((ord_walk l f _ i).1 hi)).2
        · simp at hi
    have hblk : ∀ k ∈ kidsP l d, (oblk l f k).Pairwise (fun i j => i ≠ j) := by
      intro k hkk
      unfold oblk
      rw [List.pairwise_cons]
      refine ⟨?_, ?_⟩
      · rintro i hi rfl
        split at hi
        · have h1 := (walk_lt l ht f _ k ((ord_walk l f _ k).1 hi)).2
          exact under_len l ht d k hkk _ h1 ((kids_iff l ht d k).1 hkk).2
        · simp at hi
      · split
        · exact ord_once l ht f _
        · exact List.Pairwise.nil
    have hap : ∀ k ∈ kidsP l d, ∀ k2 ∈ kidsP l d, k ≠ k2 → ∀ i ∈ oblk l f k, ∀ j ∈ oblk l f k2, i ≠ j := by
      rintro k hk k2 hk2 hne i hi j hj rfl
      rcases hin k hk i hi with rfl | h1
      · rcases hin k2 hk2 i hj with h2 | h2
        · exact hne h2
        · exact under_len l ht d k2 hk2 _ h2 ((kids_iff l ht d i).1 hk).2
      · rcases hin k2 hk2 i hj with rfl | h2
        · exact under_len l ht d k hk _ h1 ((kids_iff l ht d i).1 hk2).2
        · exact hne (under_apart l ht d _ k k2 hk hk2 h1 h2)
    generalize kidsP l d = K at *
    induction K with
    | nil => exact List.Pairwise.nil
    | cons k K ih =>
      rw [List.flatMap_cons, List.pairwise_append]
      rw [List.pairwise_cons] at hk
      refine ⟨hblk k (by simp), ih hk.2 (fun k hk => hin k (by simp [hk])) (fun k hk => hblk k (by simp [hk])) (fun k hk k2 hk2 => hap k (by simp [hk]) k2 (by simp [hk2])), ?_⟩
      intro i hi j hj
      obtain ⟨k2, hk2, hj⟩ := List.mem_flatMap.1 hj
      exact hap k (by simp) k2 (by simp [hk2]) (hk.1 k2 hk2) i hi j hj
theorem pigeonN : ∀ (l m : List Nat), l.Pairwise (fun x y => x ≠ y) → (∀ a ∈ l, a ∈ m) → l.length ≤ m.length
  | [], m, _, _ => Nat.zero_le _
  | a :: l, m, hn, hs => by
    rw [List.pairwise_cons] at hn
    have ha := hs a (by simp)
    have h := pigeonN l (m.erase a) hn.2 (fun b hb => (List.mem_erase_of_ne (fun e => hn.1 b hb e.symm)).2 (hs b (by simp [hb])))
    rw [List.length_erase_of_mem ha] at h
    have := List.length_pos_of_mem ha
    simp; omega
theorem ord_all (l : List En) (ht : Tree l) (i : Nat) : i ∈ ordP l 6 [] ↔ i < l.length := by rw [ord_walk, walk_all l ht]
theorem range_once (n : Nat) : (List.range n).Pairwise (fun x y => x ≠ y) := (List.pairwise_lt_range).imp (fun h => by omega)
theorem ord_len (l : List En) (ht : Tree l) : (ordP l 6 []).length = l.length := by
  apply Nat.le_antisymm
  · have := pigeonN (ordP l 6 []) (List.range l.length) (ord_once l ht 6 []) (fun i hi => List.mem_range.2 ((ord_all l ht i).1 hi))
    simpa using this
  · have := pigeonN (List.range l.length) (ordP l 6 []) (range_once _) (fun i hi => (ord_all l ht i).2 (List.mem_range.1 hi))
    simpa using this
def orderP (l : List En) : List En := (ordP l 6 []).map (fun i => l.getD i en0)
theorem order_mem (l : List En) (ht : Tree l) (e : En) : e ∈ orderP l ↔ e ∈ l := by
  unfold orderP
  simp only [List.mem_map]
  constructor
  · rintro ⟨i, hi, rfl⟩
    have h := (ord_all l ht i).1 hi
    rw [en_getD l i h]
    exact List.getElem_mem h
  · intro h
    obtain ⟨i, hi, rfl⟩ := List.mem_iff_getElem.1 h
    exact ⟨i, (ord_all l ht i).2 hi, en_getD l i hi⟩
theorem order_len (l : List En) (ht : Tree l) : (orderP l).length = l.length := by unfold orderP; rw [List.length_map, ord_len l ht]
theorem sp_kid (l : List En) (ht : Tree l) (d : List UInt8) (i : Nat) (hi : i ∈ kidsP l d) : (sp (pathAt l i)).length = dep (pre d) + 1 := by
  obtain ⟨hl, hu⟩ := (kids_iff l ht d i).1 hi
  have e := path_pre l ht i hl
  rw [hu] at e
  have h1 := sp_more (pre d) (nameOf (pathAt l i)) (name_no _)
  rw [← e] at h1
  have := List.length_pos_iff.2 (sp_ne (pre d))
  unfold dep
  omega
def Held (S : List UInt8 → Option (List UInt8)) (l : List En) : Prop := ∀ b ∈ allP l, S (P.digest b) = some b
theorem held_blob {S : List UInt8 → Option (List UInt8)} {l : List En} (h : Held S l) (b : List UInt8) (hb : b ∈ allP l) : blobS S (P.digest b) = (0, b) := by
  unfold blobS
  rw [h b hb]
  simp
theorem part_in (l : List En) (i : Nat) (hi : i < l.length) (b : List UInt8) (hb : b ∈ partP l (l.getD i en0)) : b ∈ allP l := by
  unfold allP allTo
  rw [List.take_length]
  rw [en_getD l i hi] at hb
  exact List.mem_cons_of_mem _ (List.mem_flatMap.2 ⟨_, List.getElem_mem hi, hb⟩)
theorem kind_cases {e : En} (h : kindBad e = false) : (e.kind = 0 ∧ e.data = ⟨#[]⟩) ∨ ((e.kind = 1 ∨ e.kind = 2) ∧ e.data.size ≤ 60) ∨ e.kind = 3 := by
  simp only [kindBad, Bool.or_eq_false_iff, decide_eq_false_iff_not, Bool.and_eq_false_iff] at h
  obtain ⟨⟨⟨⟨h1, h2⟩, h3⟩, h4⟩, h5⟩ := h
  have : e.kind = 0 ∨ e.kind = 1 ∨ e.kind = 2 ∨ e.kind = 3 := by omega
  rcases this with h | h | h | h
  · refine .inl ⟨h, ?_⟩
    rcases h3 with h3 | h3
    · simp [h] at h3
    · exact empty_lst (by simpa using h3)
  · refine .inr (.inl ⟨.inl h, ?_⟩)
    rcases h4 with h4 | h4
    · simp [h] at h4
    · omega
  · refine .inr (.inl ⟨.inr h, ?_⟩)
    rcases h4 with h4 | h4
    · simp [h] at h4
    · omega
  · exact .inr (.inr h)
theorem en_eta {e : En} {p : ByteArray} {k : Int} {t : ByteArray} (h1 : p = e.path) (h2 : k = e.kind) (h3 : t = e.data) : (⟨p, k, t⟩ : En) = e := by
  cases e; simp_all
theorem sized (b : ByteArray) : b.data.toList.length = b.size := rfl
theorem itemsF_held {S : List UInt8 → Option (List UInt8)} {l : List En} (ht : Tree l) (hw : wrongP l = 0) (hS : Held S l) (ents dp : Int) (he : 40 ≤ ents) (hdp : 5 ≤ dp) (f : Nat) (d : List UInt8)
    (rec : List UInt8 → List UInt8 → List En → Int × List En)
    (hrec : ∀ k ∈ kidsP l d, kindAt l k = 0 → ∀ out : List En, out.length + (ordP l f (pathAt l k)).length ≤ 40 → rec (blobP l 6 (pre (pathAt l k))) (pathAt l k) out = (0, out ++ (ordP l f (pathAt l k)).map (fun i => l.getD i en0))) :
    ∀ (K : List Nat) (out : List En), (∀ k ∈ K, k ∈ kidsP l d) → out.length + (K.flatMap (oblk l f)).length ≤ 40 →
      fetItems S ents dp rec d ((dep (pre d) : Int) + 1) (K.map (itemQ l)) out = (0, out ++ (K.flatMap (oblk l f)).map (fun i => l.getD i en0))
  | [], out, _, _ => by simp [fetItems]
  | k :: K, out, hK, h40 => by
    have hk := hK k (by simp)
    obtain ⟨hkl, hku⟩ := (kids_iff l ht d k).1 hk
    obtain ⟨_, h5⟩ := dep_kid l ht d k hk
    have hsp := sp_kid l ht d k hk
    have hpp : pathAt l k = pre d ++ nameOf (pathAt l k) := by
      have := path_pre l ht k hkl
      rwa [hku] at this
    have hnm : (itemQ l k).name.data.toList = nameOf (pathAt l k) := by
      unfold itemQ
      rw [itemP_name, bs_data, nm_up l ht k hkl]
    have hpath : bs (pre d ++ (itemQ l k).name.data.toList) = (l.getD k en0).path := by
      rw [hnm, ← hpp]; exact bs_eta _
    have hkb : kindBad (l.getD k en0) = false := by
      rw [en_getD l k hkl]; exact fineP_kind l k hkl (ht.fine k hkl)
    have hkind : (itemQ l k).kind = (l.getD k en0).kind := by
      simp only [itemQ, itemP]
      split
      · rename_i h; exact h.symm
      · rfl
    rw [List.flatMap_cons, List.length_append] at h40
    have hb1 : 1 ≤ (oblk l f k).length := by simp [oblk]
    have hgo : ∀ o2 : List En, o2 = out ++ (oblk l f k).map (fun i => l.getD i en0) → fetItems S ents dp rec d ((dep (pre d) : Int) + 1) (K.map (itemQ l)) o2 = (0, out ++ ((k :: K).flatMap (oblk l f)).map (fun i => l.getD i en0)) := by
      rintro o2 rfl
      rw [itemsF_held ht hw hS ents dp he hdp f d rec hrec K _ (fun k hk => hK k (by simp [hk])) (by rw [List.length_append, List.length_map]; omega)]
      simp
    rw [List.map_cons]
    simp only [fetItems]
    rw [if_neg (by omega)]
    rcases kind_cases hkb with ⟨h0, hdt⟩ | ⟨h12, h60⟩ | h3
    · -- a directory
      have hb : (itemQ l k).dig.data.toList = P.digest (blobP l 6 (pre (pathAt l k))) ∧ (itemQ l k).size = ((blobP l 6 (pre (pathAt l k))).length : Int) ∧ (itemQ l k).tgt = ⟨#[]⟩ := by
        rw [pre_some (path_ne l ht k hkl)]
        unfold itemQ itemP
        simp only [h0]
        exact ⟨bs_data _, rfl, rfl⟩
      have hin : blobP l 6 (pre (pathAt l k)) ∈ allP l := by
        refine part_in l k hkl _ ?_
        unfold partP
        rw [if_pos h0, pre_some (path_ne l ht k hkl)]
        exact List.mem_singleton.2 rfl
      rw [hb.1, held_blob hS _ hin, hkind, h0, hb.2.1, hb.2.2]
      simp only [ne_eq, not_true_eq_false, false_and, or_self, if_false, show ¬ (0 : Int) = 3 by decide]
      have hk0 : kindAt l k = 0 := h0
      have hord : oblk l f k = k :: ordP l f (pathAt l k) := by unfold oblk; rw [if_pos hk0]
      have hq := hrec k hk hk0 (out ++ [⟨bs (pre d ++ (itemQ l k).name.data.toList), 0, ⟨#[]⟩⟩]) (by rw [hord] at h40; simp at h40 ⊢; omega)
      rw [show pre d ++ (itemQ l k).name.data.toList = pathAt l k by rw [hnm, ← hpp]] at hq ⊢
      rw [hq]
      simp only [not_true_eq_false, if_false]
      refine hgo _ ?_
      rw [hord, List.map_cons, en_eta (e := l.getD k en0) (p := bs (pathAt l k)) (bs_eta _) h0.symm hdt.symm]
      simp
    · -- a file
      have hne3 : (l.getD k en0).kind ≠ 3 := by omega
      have hne0 : (l.getD k en0).kind ≠ 0 := by omega
      have hb : (itemQ l k).dig.data.toList = P.digest (l.getD k en0).data.data.toList ∧ (itemQ l k).size = ((l.getD k en0).data.data.toList.length : Int) := by
        unfold itemQ itemP
        rw [if_neg hne3, if_neg hne0]
        exact ⟨bs_data _, rfl⟩
      have hin : (l.getD k en0).data.data.toList ∈ allP l := by
        refine part_in l k hkl _ ?_
        unfold partP
        rw [if_neg hne0, if_pos h12]
        exact List.mem_singleton.2 rfl
      rw [hb.1, held_blob hS _ hin, hkind, hb.2]
      rw [if_neg hne3]
      simp only [ne_eq, not_true_eq_false, if_false, false_or]
      rw [if_neg (by rw [sized]; omega), if_pos hne0]
      refine hgo _ ?_
      rw [hpath, en_eta (e := l.getD k en0) rfl rfl (bs_eta _)]
      have hord : oblk l f k = [k] := by unfold oblk; rw [if_neg (show ¬ kindAt l k = 0 from hne0)]
      rw [hord]; rfl
    · -- a link
      have ht3 : (itemQ l k).tgt = (l.getD k en0).data := by
        unfold itemQ itemP
        simp only [h3]
        rfl
      have hout : outP ((dep (pre d) : Int) + 1 - 1) (l.getD k en0).data.data.toList = false := by
        cases hc : outP ((dep (pre d) : Int) + 1 - 1) (l.getD k en0).data.data.toList with
        | false => rfl
        | true =>
          exfalso
          unfold wrongP at hw
          split at hw
          · simp at hw
          · split at hw
            · simp at hw
            · split at hw
              · simp at hw
              · rename_i ha
                apply ha
                rw [List.any_eq_true]
                refine ⟨l[k], List.getElem_mem hkl, ?_⟩
                rw [en_getD l k hkl] at h3 hc
                have hs2 : (sp l[k].path.data.toList).length = dep (pre d) + 1 := by
                  rw [← hsp]; unfold pathAt; rw [en_getD l k hkl]
                simp only [Bool.and_eq_true, beq_iff_eq]
                refine ⟨h3, ?_⟩
                rw [hs2, ← hc]
                congr 1
      rw [hkind, h3, ht3, if_pos rfl, if_neg (by rw [hout]; simp)]
      refine hgo _ ?_
      rw [hpath, en_eta (e := l.getD k en0) rfl h3.symm rfl]
      have hord : oblk l f k = [k] := by unfold oblk; rw [if_neg (show ¬ kindAt l k = 0 by unfold kindAt; omega)]
      rw [hord]; rfl
theorem belowF_held {S : List UInt8 → Option (List UInt8)} {l : List En} (ht : Tree l) (hw : wrongP l = 0) (hS : Held S l) (ents dp : Int) (he : 40 ≤ ents) (hdp : 5 ≤ dp) :
    ∀ (f : Nat) (d : List UInt8) (out : List En), dep (pre d) + f = 6 → dep (pre d) ≤ 5 → out.length + (ordP l f d).length ≤ 40 → belowF S ents dp f ((dep (pre d) : Int) + 1) (blobP l 6 (pre d)) d out = (0, out ++ (ordP l f d).map (fun i => l.getD i en0))
  | 0, d, out, h6, h5, _ => by omega
  | f + 1, d, out, h6, h5, h40 => by
    have hdec : decOk (blobP l 6 (pre d)) = some ((kidsP l d).map (itemQ l)) := (decOk_iff _ _).2 ⟨kids_ok l ht d, (blob_dir l ht d).symm⟩
    simp only [belowF]
    rw [hdec]
    simp only
    rw [ord_succ] at h40 ⊢
    refine itemsF_held ht hw hS ents dp he hdp f d _ ?_ (kidsP l d) out (fun k hk => hk) h40
    intro k hk h0 o2 ho2
    obtain ⟨h1, h2⟩ := dep_kid l ht d k hk
    have := belowF_held ht hw hS ents dp he hdp f (pathAt l k) o2 (by omega) (by omega) ho2
    rw [h1] at this
    exact this
theorem fetch_held {S : List UInt8 → Option (List UInt8)} {l : List En} (ht : Tree l) (hw : wrongP l = 0) (hS : Held S l) (ents dp : Int) (he : 40 ≤ ents) (hdp : 5 ≤ dp) : fetchP S (P.digest (blobP l 6 [])) ents dp = (0, orderP l) := by
  have hin : blobP l 6 [] ∈ allP l := by unfold allP allTo; exact List.mem_cons_self
  have h := belowF_held ht hw hS ents dp he hdp 6 [] [] rfl (by decide) (by rw [ord_len l ht]; simpa using ht.len)
  rw [pre_nil] at h
  unfold fetchP
  rw [held_blob hS _ hin]
  simp only [ne_eq, not_true_eq_false, if_false]
  have h' : belowF S ents dp 6 1 (blobP l 6 []) [] [] = (0, [] ++ (ordP l 6 []).map (fun i => l.getD i en0)) := h
  rw [h']
  simp [orderP]
end Go.Proofs.YtjmacegibchplaaGreatDoor

/-
  A tree in order: each entry stands behind its directory, or behind what is in a lesser sibling. Plain lists, no walk.
-/
namespace Go.Proofs.YtjmacegibchplaaGreatDoor
set_option linter.unusedVariables false
def Chn {α : Type} (R : α → α → Prop) : List α → Prop
  | [] => True
  | [_] => True
  | a :: b :: r => R a b ∧ Chn R (b :: r)
theorem Chn.app {α : Type} {R : α → α → Prop} : ∀ (A B : List α), Chn R A → Chn R B → (∀ a b, A.getLast? = some a → B.head? = some b → R a b) → Chn R (A ++ B)
  | [], B, _, hB, _ => hB
  | [a], [], _, _, _ => trivial
  | [a], b :: B, _, hB, h => ⟨h a b rfl rfl, hB⟩
  | a :: a2 :: A, B, hA, hB, h => ⟨hA.1, Chn.app (a2 :: A) B hA.2 hB (fun x y hx hy => h x y (by simpa using hx) hy)⟩
theorem Chn.at {α : Type} {R : α → α → Prop} : ∀ (L : List α), Chn R L → ∀ i (h : i + 1 < L.length), R L[i] L[i + 1]
  | [], _, i, h => by simp at h
  | [_], _, i, h => by simp at h
  | a :: b :: r, hc, 0, h => hc.1
  | a :: b :: r, hc, i + 1, h => Chn.at (b :: r) hc.2 i (by simpa using h)
theorem Chn.map {α β : Type} {R : α → α → Prop} {Q : β → β → Prop} (g : α → β) (hg : ∀ a b, R a b → Q (g a) (g b)) : ∀ (L : List α), Chn R L → Chn Q (L.map g)
  | [], _ => trivial
  | [_], _ => trivial
  | a :: b :: r, hc => ⟨hg _ _ hc.1, Chn.map g hg (b :: r) hc.2⟩
def climbP (dir name : List UInt8) : Nat → List UInt8 → Bool
  | 0, _ => false
  | f + 1, a => if a = [] then false else if upPath a = dir then less (nameOf a) name else climbP dir name f (upPath a)
def Adj (a b : En) : Prop := (upPath (pth b) = pth a ∧ a.kind = 0) ∨ climbP (upPath (pth b)) (nameOf (pth b)) ((pth a).length + 1) (pth a) = true
theorem up_short {p : List UInt8} (h : p ≠ []) : (upPath p).length < p.length := by
  rcases cut_cases p with ⟨_, _, e, _⟩ | ⟨a, n, e1, _, _, e, _⟩
  · rw [e]; exact List.length_pos_iff.2 h
  · rw [e, e1]; simp
theorem up_under {k q : List UInt8} (h : k ++ [47] <+: q) : upPath q = k ∨ k ++ [47] <+: upPath q := by
  rcases cut_cases q with ⟨hn, _⟩ | ⟨a, n, e1, hn, _, e, _⟩
  · exact absurd (h.subset (by simp)) (has_false.1 hn)
  · rw [e]
    have h2 : a ++ [47] <+: q := ⟨n, by rw [e1]; simp⟩
    have hle : (k ++ [47]).length ≤ (a ++ [47]).length := by
      rcases Nat.lt_or_ge (a ++ [47]).length (k ++ [47]).length with hlt | hge
      · exfalso
        obtain ⟨r, hr⟩ := List.prefix_of_prefix_length_le h2 h (by omega)
        obtain ⟨r2, hr2⟩ := h
        have hrne : r ≠ [] := by
          rintro rfl
          rw [List.append_nil] at hr
          rw [hr] at hlt
          omega
        have h47 : (47 : UInt8) ∈ r := by
          have := congrArg List.getLast? hr
          rw [List.getLast?_append, List.getLast?_append] at this
          cases hl : r.getLast? with
          | none => exact absurd (List.getLast?_eq_none_iff.1 hl) hrne
          | some c =>
            rw [hl] at this
            simp at this
            rw [this] at hl
            exact List.mem_of_getLast? hl
        rw [← hr, e1] at hr2
        have : r ++ r2 = n := by
          have h3 : a ++ ([47] ++ (r ++ r2)) = a ++ ([47] ++ n) := by simpa using hr2
          exact List.append_cancel_left (List.append_cancel_left h3)
        exact has_false.1 hn (by rw [← this]; simp [h47])
      · exact hge
    have h3 := List.prefix_of_prefix_length_le h h2 hle
    rcases List.prefix_concat_iff.1 h3 with h4 | h4
    · exact .inl (List.append_cancel_right h4).symm
    · exact .inr h4
theorem climb_at (k name : List UInt8) (hk : k ≠ []) : ∀ (f : Nat) (q : List UInt8), (q = k ∨ k ++ [47] <+: q) → q.length < f → climbP (upPath k) name f q = less (nameOf k) name
  | 0, q, _, h => by omega
  | f + 1, q, hq, hf => by
    rcases hq with rfl | hq
    · simp [climbP, hk]
    · have hne : q ≠ [] := by
        rintro rfl
        have := hq.length_le
        simp at this
      have hup := up_under hq
      have hs := up_short hne
      have hks := up_short hk
      have hnd : upPath q ≠ upPath k := by
        intro e
        rcases hup with h | h
        · rw [h] at e
          rw [← e] at hks
          omega
        · have := h.length_le
          rw [e] at this
          simp at this
          omega
      simp only [climbP]
      rw [if_neg hne, if_neg hnd]
      exact climb_at k name hk f _ hup (by omega)
def AdjI (l : List En) (i j : Nat) : Prop := Adj (l.getD i en0) (l.getD j en0)
theorem blk_under (l : List En) (ht : Tree l) (d : List UInt8) (f k : Nat) (hk : k ∈ kidsP l d) (i : Nat) (hi : i ∈ oblk l f k) : pathAt l i = pathAt l k ∨ pathAt l k ++ [47] <+: pathAt l i := by
  obtain ⟨hkl, _⟩ := (kids_iff l ht d k).1 hk
  unfold oblk at hi
  rcases List.mem_cons.1 hi with rfl | hi
  · exact .inl rfl
  · split at hi
    · obtain ⟨hil, hu⟩ := walk_lt l ht f _ i ((ord_walk l f _ i).1 hi)
      unfold Under at hu
      have hpk := path_ne l ht k hkl
      rw [pre_some hpk] at hu
      have hne : upAt l i ≠ [] := by
        intro e
        rw [e] at hu
        have h1 := hu.length_le
        have h2 := List.length_pos_iff.2 hpk
        rw [List.length_append, List.nil_append] at h1
        simp only [List.length_singleton] at h1
        omega
      refine .inr ?_
      rw [path_pre l ht i hil, pre_some hne]
      exact hu.trans (List.prefix_append _ _)
    · simp at hi
theorem ord_head (l : List En) (ht : Tree l) (f : Nat) (d : List UInt8) (j : Nat) (h : (ordP l f d).head? = some j) : upAt l j = d := by
  cases f with
  | zero => simp [ordP] at h
  | succ f =>
    rw [ord_succ] at h
    cases hK : kidsP l d with
    | nil => rw [hK] at h; simp at h
    | cons k K =>
      rw [hK] at h
      simp [oblk] at h
      subst h
      exact ((kids_iff l ht d k).1 (by rw [hK]; simp)).2
theorem ord_chain (l : List En) (ht : Tree l) : ∀ f d, Chn (AdjI l) (ordP l f d)
  | 0, _ => trivial
  | f + 1, d => by
    rw [ord_succ]
    have hs : (kidsP l d).Pairwise (fun i j => less (nameOf (pathAt l i)) (nameOf (pathAt l j)) = true) := by
      refine (insG_sorted l (pre d) _ _).imp_of_mem ?_
      intro i j hi hj h
      obtain ⟨h1, h2⟩ := (kids_iff l ht d i).1 hi
      obtain ⟨h3, h4⟩ := (kids_iff l ht d j).1 hj
      have e1 := nm_up l ht i h1
      have e2 := nm_up l ht j h3
      rw [h2] at e1
      rw [h4] at e2
      rwa [e1, e2] at h
    have key : ∀ K : List Nat, K.Pairwise (fun i j => less (nameOf (pathAt l i)) (nameOf (pathAt l j)) = true) → (∀ k ∈ K, k ∈ kidsP l d) → Chn (AdjI l) (K.flatMap (oblk l f)) := by
      intro K
      induction K with
      | nil => intro _ _; trivial
      | cons k K ih =>
        intro hs hin
        have hk := hin k (by simp)
        obtain ⟨hkl, hku⟩ := (kids_iff l ht d k).1 hk
        rw [List.flatMap_cons]
        refine Chn.app _ _ ?_ (ih (List.pairwise_cons.1 hs).2 (fun k hk => hin k (by simp [hk]))) ?_
        · show Chn (AdjI l) ([k] ++ (if kindAt l k = 0 then ordP l f (pathAt l k) else []))
          refine Chn.app [k] _ trivial ?_ ?_
          · split
            · exact ord_chain l ht f _
            · trivial
          · intro a b ha hb
            obtain rfl : k = a := by simpa using ha
            split at hb
            · rename_i h0
              exact .inl ⟨ord_head l ht f _ b hb, h0⟩
            · simp at hb
        · intro a b ha hb
          cases K with
          | nil => simp at hb
          | cons k2 K2 =>
            obtain rfl : k2 = b := by simpa [oblk] using hb
            have hk2 := hin k2 (by simp)
            obtain ⟨hk2l, hk2u⟩ := (kids_iff l ht d k2).1 hk2
            have hlt := (List.pairwise_cons.1 hs).1 k2 (by simp)
            have hun := blk_under l ht d f k hk a (List.mem_of_getLast? ha)
            refine .inr ?_
            show climbP (upAt l k2) (nameOf (pathAt l k2)) ((pathAt l a).length + 1) (pathAt l a) = true
            rw [hk2u, ← hku]
            unfold upAt
            rw [climb_at (pathAt l k) _ (path_ne l ht k hkl) _ _ hun (Nat.lt_succ_self _)]
            exact hlt
    exact key _ hs (fun k h => h)
theorem order_chain (l : List En) (ht : Tree l) : Chn Adj (orderP l) ∧ ∀ (h : 0 < (orderP l).length), upPath (pth (orderP l)[0]) = [] := by
  refine ⟨Chn.map (fun i => l.getD i en0) (fun _ _ h => h) _ (ord_chain l ht 6 []), fun h => ?_⟩
  unfold orderP at h ⊢
  rw [List.getElem_map]
  refine ord_head l ht 6 [] _ ?_
  rw [List.head?_eq_getElem?, List.getElem?_eq_getElem]
end Go.Proofs.YtjmacegibchplaaGreatDoor
