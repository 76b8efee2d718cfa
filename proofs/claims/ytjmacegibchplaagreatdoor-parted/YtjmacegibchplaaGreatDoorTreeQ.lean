import Derived.Test.YtjmacegibchplaaGreatDoorReadC
/-
  Bytes and directories: one row of bytes, one directory. No walk.
-/
namespace Go.Proofs.YtjmacegibchplaaGreatDoor
open Go.RowKit
set_option linter.unusedVariables false
theorem u8_back (b : UInt8) : UInt8.ofNat b.toNat = b := by simp
theorem rOne_cons (b : UInt8) (r : List UInt8) : rOne ⟨b :: r, false⟩ = (b.toNat, ⟨r, false⟩) := by
  simp [rOne, rTake]
theorem rTake_app (a r : List UInt8) : rTake ⟨a ++ r, false⟩ a.length = (a, ⟨r, false⟩) := by
  simp [rTake]
theorem ofNat_toNat (n : Nat) (h : n < 256) : (UInt8.ofNat n).toNat = n := UInt8.toNat_ofNat_of_lt' (by simpa using h)
theorem it_ext (x y : P.It) (h1 : x.name = y.name) (h2 : x.kind = y.kind) (h3 : x.dig = y.dig) (h4 : x.size = y.size) (h5 : x.tgt = y.tgt) : x = y := by
  cases x; cases y; simp_all
theorem empty_of {s : ByteArray} (h : s.size = 0) : s = ⟨#[]⟩ := by
  apply ByteArray.ext
  exact Array.eq_empty_of_size_eq_zero h
theorem ok_link (x : P.It) (h : P.itemOk x = true) (hk : x.kind = 3) : x.dig = ⟨#[]⟩ ∧ x.size = 0 := by
  unfold P.itemOk at h
  rw [Bool.and_eq_true] at h
  have hr := h.2
  rw [hk] at hr
  have e : P.shape 3 = 2 := rfl
  rw [e, if_neg (by decide), if_pos rfl] at hr
  unfold P.linkOk at hr
  simp only [Bool.and_eq_true, ByteArray.toList_eq, List.isEmpty_iff, beq_iff_eq] at hr
  exact ⟨empty_of (by rw [← len_eq, hr.1.2]; rfl), hr.2⟩
theorem ok_plain (x : P.It) (h : P.itemOk x = true) (hk : x.kind ≠ 3) : x.tgt = ⟨#[]⟩ ∧ x.dig.size = 3 := by
  unfold P.itemOk at h
  rw [Bool.and_eq_true] at h
  have hr := h.2
  have hs : P.shape x.kind ≠ 2 := by
    unfold P.shape
    rw [if_neg hk]
    repeat (first | decide | split)
  by_cases k1 : P.shape x.kind = 1
  · rw [if_pos k1] at hr
    unfold P.plainOk P.isDigest at hr
    simp only [Bool.and_eq_true, decide_eq_true_eq, len_eq, ByteArray.toList_eq, List.isEmpty_iff] at hr
    exact ⟨empty_of (by rw [← len_eq, hr.2]; rfl), hr.1.1.1⟩
  · rw [if_neg k1, if_neg hs] at hr; simp at hr
theorem itemBytes_link (x : P.It) (hk : x.kind = 3) : itemBytes x = 3 :: UInt8.ofNat x.name.size :: (x.name.data.toList ++ (UInt8.ofNat x.tgt.size :: x.tgt.data.toList)) := by
  unfold itemBytes; rw [if_pos hk, hk]; rfl
theorem itemBytes_plain (x : P.It) (hk : x.kind ≠ 3) : itemBytes x = UInt8.ofNat x.kind.toNat :: UInt8.ofNat x.name.size :: (x.name.data.toList ++ (x.dig.data.toList ++ [UInt8.ofNat (x.size % 256).toNat, UInt8.ofNat (x.size / 256).toNat])) := by
  unfold itemBytes; rw [if_neg hk]
theorem rItem_of (x : P.It) (r : List UInt8) (h : P.itemOk x = true) : rItem ⟨itemBytes x ++ r, false⟩ = (x, ⟨r, false⟩) := by
  have hs := sane_of_ok x h
  have hnl : (UInt8.ofNat x.name.size).toNat = x.name.data.toList.length := by rw [ofNat_toNat _ (by have := hs.nm; omega), len_eq]
  by_cases hk : x.kind = 3
  · have htl : (UInt8.ofNat x.tgt.size).toNat = x.tgt.data.toList.length := by rw [ofNat_toNat _ (by have := hs.tg; omega), len_eq]
    obtain ⟨hd, hz⟩ := ok_link x h hk
    rw [itemBytes_link x hk]
    unfold rItem
    simp only [List.cons_append, List.append_assoc, rOne_cons, hnl, rTake_app, htl]
    rw [if_pos (by rfl)]
    congr 1
    exact it_ext _ _ (bs_of _) hk.symm hd.symm hz.symm (bs_of _)
  · obtain ⟨ht, hd3⟩ := ok_plain x h hk
    have hkn : (UInt8.ofNat x.kind.toNat).toNat = x.kind.toNat := ofNat_toNat _ (by have := hs.k3; omega)
    have hdl : x.dig.data.toList.length = 3 := by rw [len_eq]; exact hd3
    have hz1 : (UInt8.ofNat (x.size % 256).toNat).toNat = (x.size % 256).toNat := ofNat_toNat _ (by omega)
    have hz2 : (UInt8.ofNat (x.size / 256).toNat).toNat = (x.size / 256).toNat := ofNat_toNat _ (by have := hs.s1; omega)
    rw [itemBytes_plain x hk]
    have ht3 : ∀ q, rTake ⟨x.dig.data.toList ++ q, false⟩ 3 = (x.dig.data.toList, ⟨q, false⟩) := fun q => by rw [← hdl]; exact rTake_app _ _
    unfold rItem
    simp only [List.cons_append, List.append_assoc, rOne_cons, hnl, rTake_app, hkn, ht3, List.nil_append, hz1, hz2]
    rw [if_neg (by have := hs.k0; have := hs.k3; omega)]
    congr 1
    refine it_ext _ _ (bs_of _) ?_ (bs_of _) ?_ ht.symm
    · have := hs.k0; simp only; omega
    · have := hs.s0; simp only; omega
theorem rTake_got (s : RS) (n : Nat) (h : (rTake s n).2.short = false) : s.short = false ∧ s.rest = (rTake s n).1 ++ (rTake s n).2.rest ∧ (rTake s n).1.length = n := by
  unfold rTake at h ⊢
  split at h
  · simp at h
  · rw [if_neg (by assumption)]
    exact ⟨h, by simp, by simp; omega⟩
theorem rOne_got (s : RS) (h : (rOne s).2.short = false) : s.short = false ∧ s.rest = UInt8.ofNat (rOne s).1 :: (rOne s).2.rest := by
  have e2 : (rOne s).2 = (rTake s 1).2 := by unfold rOne; split <;> rfl
  rw [e2] at h ⊢
  obtain ⟨h1, h2, h3⟩ := rTake_got s 1 h
  refine ⟨h1, ?_⟩
  obtain ⟨b, hb⟩ : ∃ b, (rTake s 1).1 = [b] := by
    match (rTake s 1).1, h3 with
    | [b], _ => exact ⟨b, rfl⟩
  have e1 : (rOne s).1 = b.toNat := by unfold rOne; rw [if_neg (by rw [h]; simp), hb]; rfl
  rw [e1, u8_back, h2, hb]
  rfl
theorem size_split (a b : Nat) (ha : a ≤ 255) (hb : b ≤ 255) : ((((a + 256 * b : Nat) : Int) % 256).toNat = a) ∧ ((((a + 256 * b : Nat) : Int) / 256).toNat = b) := by omega
theorem rItem_got (s : RS) (h : (rItem s).2.short = false) : s.short = false ∧ s.rest = itemBytes (rItem s).1 ++ (rItem s).2.rest := by
  have bk := rOne_bd s
  unfold rItem at h ⊢
  simp only at h ⊢
  generalize hk : rOne s = k at *
  generalize hn : rOne k.2 = n at *
  generalize hm : rTake n.2 n.1 = nm at *
  have bn := rOne_bd k.2
  rw [hn] at bn
  by_cases h3 : k.1 = 3
  · rw [if_pos h3] at h ⊢
    generalize ht : rOne nm.2 = t at *
    generalize hg : rTake t.2 t.1 = tg at *
    have bt := rOne_bd nm.2
    rw [ht] at bt
    simp only at h ⊢
    rw [← hg] at h
    obtain ⟨g1, g2, g3⟩ := rTake_got t.2 t.1 h
    rw [hg] at g2 g3 h
    rw [← ht] at g1
    obtain ⟨t1, t2⟩ := rOne_got nm.2 g1
    rw [ht] at t2
    rw [← hm] at t1
    obtain ⟨m1, m2, m3⟩ := rTake_got n.2 n.1 t1
    rw [hm] at m2 m3
    rw [← hn] at m1
    obtain ⟨n1, n2⟩ := rOne_got k.2 m1
    rw [hn] at n2
    rw [← hk] at n1
    obtain ⟨k1, k2⟩ := rOne_got s n1
    rw [hk] at k2
    refine ⟨k1, ?_⟩
    rw [itemBytes_link _ (by simp only; rw [h3]; rfl)]
    simp only [bs_data, bs_size]
    rw [k2, h3, n2, m2, t2, g2, m3, g3]
    simp
  · rw [if_neg h3] at h ⊢
    generalize hd : rTake nm.2 3 = dg at *
    generalize ha : rOne dg.2 = a at *
    generalize hb : rOne a.2 = b at *
    have ba := rOne_bd dg.2
    have bb := rOne_bd a.2
    rw [ha] at ba
    rw [hb] at bb
    simp only at h ⊢
    rw [← hb] at h
    obtain ⟨b1, b2⟩ := rOne_got a.2 h
    rw [hb] at b2
    rw [← ha] at b1
    obtain ⟨a1, a2⟩ := rOne_got dg.2 b1
    rw [ha] at a2
    rw [← hd] at a1
    obtain ⟨d1, d2, d3⟩ := rTake_got nm.2 3 a1
    rw [hd] at d2 d3
    rw [← hm] at d1
    obtain ⟨m1, m2, m3⟩ := rTake_got n.2 n.1 d1
    rw [hm] at m2 m3
    rw [← hn] at m1
    obtain ⟨n1, n2⟩ := rOne_got k.2 m1
    rw [hn] at n2
    rw [← hk] at n1
    obtain ⟨k1, k2⟩ := rOne_got s n1
    rw [hk] at k2
    refine ⟨k1, ?_⟩
    rw [itemBytes_plain _ (by simp only; omega)]
    obtain ⟨z1, z2⟩ := size_split a.1 b.1 ba bb
    simp only [bs_data, bs_size, z1, z2, Int.toNat_natCast]
    rw [k2, n2, m2, d2, a2, b2, m3]
    simp
theorem rAt_got (s : RS) : ∀ k, (rAt s k).short = false → s.short = false ∧ s.rest = itemsBytes (rGot s k) ++ (rAt s k).rest
  | 0, h => ⟨h, by simp [rGot, itemsBytes, rAt]⟩
  | k + 1, h => by
    obtain ⟨h1, h2⟩ := rItem_got (rAt s k) h
    obtain ⟨h3, h4⟩ := rAt_got s k h1
    refine ⟨h3, ?_⟩
    rw [h4, h2]
    simp only [rGot, rAt]
    rw [itemsBytes_snoc, List.append_assoc]
theorem itemsBytes_cons (x : P.It) (l : List P.It) : itemsBytes (x :: l) = itemBytes x ++ itemsBytes l := by simp [itemsBytes]
theorem rAt_of (l : List P.It) (hok : ∀ x ∈ l, P.itemOk x = true) : ∀ k, k ≤ l.length → rAt ⟨itemsBytes l, false⟩ k = ⟨itemsBytes (l.drop k), false⟩ ∧ rGot ⟨itemsBytes l, false⟩ k = l.take k
  | 0, _ => ⟨by simp [rAt], by simp [rGot]⟩
  | k + 1, hk => by
    obtain ⟨h1, h2⟩ := rAt_of l hok k (by omega)
    have hd : l.drop k = l[k] :: l.drop (k + 1) := List.drop_eq_getElem_cons (by omega)
    have hb : itemsBytes (l.drop k) = itemBytes l[k] ++ itemsBytes (l.drop (k + 1)) := by rw [hd, itemsBytes_cons]
    have hr := rItem_of l[k] (itemsBytes (l.drop (k + 1))) (hok _ (List.getElem_mem (by omega)))
    refine ⟨?_, ?_⟩
    · simp only [rAt]; rw [h1, hb, hr]
    · simp only [rGot]; rw [h1, hb, hr, h2, take_snoc_it l k (by omega)]
theorem decOk_iff (L : List UInt8) (l : List P.It) : decOk L = some l ↔ dirOk l = true ∧ dirBytes l = L := by
  constructor
  · intro h
    unfold decOk at h
    cases hr : readOk L with
    | none => rw [hr] at h; simp at h
    | some items =>
      rw [hr] at h
      simp only [Option.bind_some] at h
      by_cases hd : dirOk items = true
      · rw [if_pos hd] at h
        simp at h
        subst h
        refine ⟨hd, ?_⟩
        unfold readOk at hr
        simp only at hr
        split at hr
        · rename_i h84
          split at hr
          · rename_i hc
            obtain ⟨c1, c2, c3⟩ := hc
            simp at hr
            obtain ⟨e1, e2⟩ := rOne_got ⟨L, false⟩ (by
              cases hz : (rOne ⟨L, false⟩).2.short with
              | false => rfl
              | true => have := rOne_stays _ hz; rw [c1] at this; simp at this)
            obtain ⟨e3, e4⟩ := rOne_got (rOne ⟨L, false⟩).2 c1
            obtain ⟨_, e5⟩ := rAt_got _ _ c2
            have hlen := rGot_len (rOne (rOne ⟨L, false⟩).2).2 (rOne (rOne ⟨L, false⟩).2).1
            rw [hr] at e5 hlen
            rw [c3, List.append_nil] at e5
            simp only at e2
            unfold dirBytes
            rw [e2, e4, e5, hlen, h84]
            rfl
          · simp at hr
        · simp at hr
      · rw [if_neg hd] at h; simp at h
  · rintro ⟨hd, rfl⟩
    have h40 := len_of_dirOk l hd
    have hok : ∀ x ∈ l, P.itemOk x = true := fun x hx => by
      obtain ⟨k, hk, rfl⟩ := List.getElem_of_mem hx
      exact ok_of_dirOk l hd k hk
    obtain ⟨h1, h2⟩ := rAt_of l hok l.length (Nat.le_refl _)
    have hln : (UInt8.ofNat l.length).toNat = l.length := ofNat_toNat _ (by omega)
    unfold decOk readOk dirBytes
    simp only [rOne_cons, hln, h1, h2]
    simp [itemsBytes, hd]
def Track (L : List UInt8) (items : List P.It) (at' : Nat) : Prop := ∀ l, dirOk l = true → dirBytes l = L → ∃ r, l = items ++ r ∧ L.drop at' = itemsBytes r
theorem itemBytes_ge (x : P.It) : 2 ≤ (itemBytes x).length := by unfold itemBytes; simp
theorem Track.more {L : List UInt8} {items : List P.It} {p : Nat} (h : Track L items p) (hp : p + 1 < L.length) (l : List P.It) (hd : dirOk l = true) (hb : dirBytes l = L) :
    ∃ x r, l = items ++ x :: r ∧ rItem ⟨L.drop p, false⟩ = (x, ⟨itemsBytes r, false⟩) := by
  obtain ⟨r, h1, h2⟩ := h l hd hb
  cases r with
  | nil =>
    have : (L.drop p).length = 0 := by rw [h2]; rfl
    simp at this; omega
  | cons x r =>
    refine ⟨x, r, h1, ?_⟩
    rw [h2, itemsBytes_cons]
    have hx : x ∈ l := by rw [h1]; simp
    obtain ⟨k, hk, rfl⟩ := List.getElem_of_mem hx
    exact rItem_of _ _ (ok_of_dirOk l hd k hk)
theorem Track.short {L : List UInt8} {items : List P.It} {p : Nat} (h : Track L items p) (hp : p + 1 < L.length) (hs : (rItem ⟨L.drop p, false⟩).2.short = true) : decOk L = none := by
  cases hd : decOk L with
  | none => rfl
  | some l =>
    obtain ⟨h1, h2⟩ := (decOk_iff L l).1 hd
    obtain ⟨x, r, _, e⟩ := h.more hp l h1 h2
    rw [e] at hs
    simp at hs
theorem Track.next {L : List UInt8} {items : List P.It} {p p' : Nat} (h : Track L items p) (hp : p + 1 < L.length) (y : P.It) (hs : rItem ⟨L.drop p, false⟩ = (y, ⟨L.drop p', false⟩)) : Track L (items ++ [y]) p' := by
  intro l hd hb
  obtain ⟨x, r, h1, e⟩ := h.more hp l hd hb
  rw [hs] at e
  simp only [Prod.mk.injEq, RS.mk.injEq] at e
  exact ⟨r, by rw [h1, e.1]; simp, e.2.1⟩
theorem Track.done {L : List UInt8} {items : List P.It} {p : Nat} (h : Track L items p) (hp : ¬ p + 1 < L.length ∨ ¬ items.length < 41) (l : List P.It) (hd : dirOk l = true) (hb : dirBytes l = L) : l = items := by
  obtain ⟨r, h1, h2⟩ := h l hd hb
  have h40 := len_of_dirOk l hd
  cases r with
  | nil => simpa using h1
  | cons x r =>
    rcases hp with hp | hp
    · have hl : (L.drop p).length = (itemBytes x ++ itemsBytes r).length := by rw [h2, itemsBytes_cons]
      have := itemBytes_ge x
      simp at hl
      omega
    · rw [h1] at h40
      simp at h40
      omega
end Go.Proofs.YtjmacegibchplaaGreatDoor

/-
  Trees as lists of entries: what the document says of them. No walk.
-/
namespace Go.Proofs.YtjmacegibchplaaGreatDoor
set_option linter.unusedVariables false
structure En where
  path : ByteArray
  kind : Int
  data : ByteArray
def en0 : En := ⟨⟨#[]⟩, 0, ⟨#[]⟩⟩
def sp : List UInt8 → List (List UInt8)
  | [] => [[]]
  | c :: r => if c = 47 then [] :: sp r else match sp r with
    | [] => [[c]]
    | h :: t => (c :: h) :: t
theorem sp_end : ∀ (a : List UInt8), P.has a 47 = false → sp a = [a]
  | [], _ => rfl
  | c :: a, h => by
    simp only [P.has] at h
    by_cases e : c == 47
    · simp [e] at h
    · simp only [e, Bool.false_eq_true, if_false] at h
      have hc : ¬ c = 47 := by simpa using e
      simp only [sp, if_neg hc, sp_end a h]
theorem sp_slash : ∀ (a r : List UInt8), P.has a 47 = false → sp (a ++ 47 :: r) = a :: sp r
  | [], r, _ => by simp [sp]
  | c :: a, r, h => by
    simp only [P.has] at h
    by_cases e : c == 47
    · simp [e] at h
    · simp only [e, Bool.false_eq_true, if_false] at h
      have hc : ¬ c = 47 := by simpa using e
      simp only [List.cons_append, sp, if_neg hc, sp_slash a r h]
theorem sp_ne : ∀ (a : List UInt8), sp a ≠ []
  | [] => by simp [sp]
  | c :: a => by
    simp only [sp]
    split
    · simp
    · split <;> simp
theorem sp_len : ∀ (a : List UInt8), (sp a).length ≤ a.length + 1
  | [] => by simp [sp]
  | c :: a => by
    have ih := sp_len a
    simp only [sp]
    split
    · simp; omega
    · split
      · simp
      · rename_i h t e; rw [e] at ih; simp at ih ⊢; omega
theorem sp_part : ∀ (a x : List UInt8), x ∈ sp a → x.length ≤ a.length
  | [], x, h => by simp [sp] at h; subst h; simp
  | c :: a, x, h => by
    simp only [sp] at h
    split at h
    · simp at h
      rcases h with rfl | h
      · simp
      · have := sp_part a x h; simp; omega
    · split at h
      · simp at h; subst h; simp
      · rename_i hh t e
        simp at h
        rcases h with rfl | h
        · have := sp_part a hh (by rw [e]; simp); simp; omega
        · have := sp_part a x (by rw [e]; simp [h]); simp; omega
def outGo : Int → List (List UInt8) → Bool
  | _, [] => false
  | d, x :: r =>
    let d' := if x = [46, 46] then d - 1 else if x = [] ∨ x = [46] then d else d + 1
    if d' < 0 then true else outGo d' r
def outP (d : Int) (t : List UInt8) : Bool := if t.head? = some 47 then true else outGo d (sp t)
def findP (l : List En) (path : List UInt8) : Int :=
  match l.findIdx? (fun e => e.path.data.toList == path) with
  | some i => (i : Int)
  | none => -1
def kindBad (e : En) : Bool :=
  decide (e.kind < 0) || decide (3 < e.kind) || (e.kind == 0 && !e.data.toList.isEmpty) || ((e.kind == 1 || e.kind == 2) && decide ((60 : Int) < (e.data.size : Int))) || (e.kind == 3 && !P.isTarget e.data.data.toList)
def upPath (path : List UInt8) : List UInt8 := path.take (path.length - ((sp path).getLastD []).length - 1)
def upBad (l : List En) (path : List UInt8) : Bool :=
  if (sp path).length ≤ 1 then false else
    if findP l (upPath path) < 0 then true else (l.getD (findP l (upPath path)).toNat en0).kind != 0
def fineP (l : List En) (i : Nat) : Bool :=
  let e := l.getD i en0
  decide ((sp e.path.data.toList).length ≤ 5) && (sp e.path.data.toList).all P.isName && !kindBad e && !upBad l e.path.data.toList && (findP l e.path.data.toList == (i : Int))
def wrongP (l : List En) : Int :=
  if 40 < l.length then 1 else if (List.range l.length).all (fineP l) = false then 1
    else if (l.any fun e => e.kind == 3 && outP ((sp e.path.data.toList).length - 1) e.data.data.toList) then 2 else 0
end Go.Proofs.YtjmacegibchplaaGreatDoor

/-
  What stands in a directory, by rising names: plain lists. No walk.
-/
namespace Go.Proofs.YtjmacegibchplaaGreatDoor
set_option linter.unusedVariables false
def less (a b : List UInt8) : Bool := Op.bytesLess a b
theorem less_nil (a : List UInt8) : less a [] = false := by cases a <;> simp [less, Op.bytesLess]
theorem less_cons (a b : UInt8) (x y : List UInt8) : less (a :: x) (b :: y) = (decide (a < b) || (a == b && less x y)) := by simp [less, Op.bytesLess]
theorem less_irr : ∀ a, less a a = false
  | [] => less_nil _
  | c :: a => by rw [less_cons, less_irr a]; simp
theorem less_trans : ∀ a b c, less a b = true → less b c = true → less a c = true
  | [], [], c, h, _ => by simp [less_nil] at h
  | [], b :: y, [], _, h => by simp [less_nil] at h
  | [], b :: y, c :: z, _, _ => by simp [less, Op.bytesLess]
  | a :: x, [], c, h, _ => by simp [less_nil] at h
  | a :: x, b :: y, [], _, h => by simp [less_nil] at h
  | a :: x, b :: y, c :: z, h1, h2 => by
    rw [less_cons] at *
    simp only [Bool.or_eq_true, Bool.and_eq_true, decide_eq_true_eq, beq_iff_eq] at *
    rcases h1 with h1 | ⟨rfl, h1⟩ <;> rcases h2 with h2 | ⟨rfl, h2⟩
    · left; exact UInt8.lt_trans h1 h2
    · left; exact h1
    · left; exact h2
    · right; exact ⟨rfl, less_trans x y z h1 h2⟩
theorem less_tri : ∀ a b, less a b = false → less b a = false → a = b
  | [], [], _, _ => rfl
  | [], b :: y, h, _ => by simp [less, Op.bytesLess] at h
  | a :: x, [], _, h => by simp [less, Op.bytesLess] at h
  | a :: x, b :: y, h1, h2 => by
    rw [less_cons] at *
    simp only [Bool.or_eq_false_iff, Bool.and_eq_false_iff, decide_eq_false_iff_not, beq_eq_false_iff_ne] at *
    have hab : a = b := by
      have q1 := h1.1
      have q2 := h2.1
      rw [UInt8.lt_iff_toNat_lt] at q1 q2
      exact UInt8.toNat_inj.1 (by omega)
    subst hab
    rw [less_tri x y (by simpa using h1.2) (by simpa using h2.2)]
def kid (path p : List UInt8) : Option (List UInt8) := if path.length < p.length ∧ p.take path.length = path ∧ P.has (p.drop path.length) 47 = false then some (p.drop path.length) else none
theorem kid_some {path p n : List UInt8} (h : kid path p = some n) : p = path ++ n ∧ n ≠ [] ∧ P.has n 47 = false := by
  unfold kid at h
  split at h
  · rename_i hc
    simp at h
    subst h
    refine ⟨?_, ?_, hc.2.2⟩
    · conv => lhs; rw [← List.take_append_drop path.length p, hc.2.1]
    · intro h0
      have := congrArg List.length h0
      simp at this; omega
  · simp at h
def stepK (last : List UInt8) (st : Int × List UInt8) (i : Nat) : Option (List UInt8) → Int × List UInt8
  | none => st
  | some n => if less last n && (decide (st.1 < 0) || less n st.2) then ((i : Int), n) else st
def stepB (path last : List UInt8) (st : Int × List UInt8) (i : Nat) (e : En) : Int × List UInt8 := stepK last st i (kid path e.path.data.toList)
def bst (path last : List UInt8) : List En → Nat → Int × List UInt8 → Int × List UInt8
  | [], _, st => st
  | e :: r, i, st => bst path last r (i + 1) (stepB path last st i e)
def Best (path last : List UInt8) (l : List En) (st : Int × List UInt8) : Prop :=
  (st.1 < 0 ∧ ∀ e ∈ l, ∀ m, kid path e.path.data.toList = some m → less last m = false) ∨
  (∃ i : Nat, ∃ h : i < l.length, st.1 = i ∧ kid path l[i].path.data.toList = some st.2 ∧ less last st.2 = true ∧ ∀ e ∈ l, ∀ m, kid path e.path.data.toList = some m → less last m = true → less m st.2 = false)
theorem stepB_best (path last : List UInt8) (l : List En) (st : Int × List UInt8) (e : En) (h : Best path last l st) : Best path last (l ++ [e]) (stepB path last st l.length e) := by
  unfold stepB
  cases hk : kid path e.path.data.toList with
  | none =>
    simp only [stepK]
    rcases h with ⟨h0, h⟩ | ⟨i, hi, h0, h1, h2, h3⟩
    · left
      refine ⟨h0, fun x hx m hm => ?_⟩
      rcases List.mem_append.1 hx with hx | hx
      · exact h x hx m hm
      · simp at hx; subst hx; rw [hk] at hm; simp at hm
    · right
      refine ⟨i, by simp; omega, h0, by rw [List.getElem_append_left hi]; exact h1, h2, fun x hx m hm hl => ?_⟩
      rcases List.mem_append.1 hx with hx | hx
      · exact h3 x hx m hm hl
      · simp at hx; subst hx; rw [hk] at hm; simp at hm
  | some n =>
    simp only [stepK]
    cases hb : (less last n && (decide (st.1 < 0) || less n st.2)) with
    | true =>
      simp only [if_true]
      simp only [Bool.and_eq_true, Bool.or_eq_true, decide_eq_true_eq] at hb
      right
      refine ⟨l.length, by simp, rfl, by simpa using hk, hb.1, fun x hx m hm hl => ?_⟩
      rcases List.mem_append.1 hx with hx | hx
      · rcases h with ⟨h0, h⟩ | ⟨i, hi, h0, h1, h2, h3⟩
        · rw [h x hx m hm] at hl; simp at hl
        · have hn : less n st.2 = true := by
            rcases hb.2 with h4 | h4
            · omega
            · exact h4
          cases hmn : less m n with
          | false => rfl
          | true => have := less_trans _ _ _ hmn hn; rw [h3 x hx m hm hl] at this; simp at this
      · simp at hx; subst hx; rw [hk] at hm; simp at hm; subst hm; exact less_irr _
    | false =>
      simp only [Bool.false_eq_true, if_false]
      rcases h with ⟨h0, h⟩ | ⟨i, hi, h0, h1, h2, h3⟩
      · left
        refine ⟨h0, fun x hx m hm => ?_⟩
        rcases List.mem_append.1 hx with hx | hx
        · exact h x hx m hm
        · simp at hx; subst hx; rw [hk] at hm; simp at hm; subst hm
          simpa [h0] using hb
      · right
        refine ⟨i, by simp; omega, h0, by rw [List.getElem_append_left hi]; exact h1, h2, fun x hx m hm hl => ?_⟩
        rcases List.mem_append.1 hx with hx | hx
        · exact h3 x hx m hm hl
        · simp at hx; subst hx; rw [hk] at hm; simp at hm; subst hm
          rw [hl] at hb
          simp only [Bool.true_and, Bool.or_eq_false_iff] at hb
          exact hb.2
theorem bst_best (path last : List UInt8) : ∀ (r l : List En) (st : Int × List UInt8), Best path last l st → Best path last (l ++ r) (bst path last r l.length st)
  | [], l, st, h => by simpa [bst] using h
  | e :: r, l, st, h => by
    have h1 := stepB_best path last l st e h
    have h2 := bst_best path last r (l ++ [e]) _ h1
    simp only [bst]
    simpa using h2
def nxt (l : List En) (path last : List UInt8) : Int × List UInt8 := bst path last l 0 (-1, [])
theorem nxt_best (l : List En) (path last : List UInt8) : Best path last l (nxt l path last) := by
  have := bst_best path last l [] (-1, []) (.inl ⟨by decide, fun e he => absurd he (by simp)⟩)
  simpa [nxt] using this
def behind (l : List En) (path last : List UInt8) : Nat := (l.filter fun e => match kid path e.path.data.toList with | none => false | some n => less last n).length
theorem behind_le (l : List En) (path last : List UInt8) : behind l path last ≤ l.length := List.length_filter_le _ _
theorem filter_lt {α : Type} (p q : α → Bool) (hpq : ∀ x, p x = true → q x = true) : ∀ (l : List α), (∃ x ∈ l, q x = true ∧ p x = false) → (l.filter p).length < (l.filter q).length
  | [], h => by obtain ⟨x, hx, _⟩ := h; simp at hx
  | y :: l, h => by
    have hle : (l.filter p).length ≤ (l.filter q).length := by
      clear h
      induction l with
      | nil => simp
      | cons z l ih =>
        simp only [List.filter_cons]
        cases hp : p z with
        | true => simp [hpq z hp]; exact ih
        | false => cases q z <;> simp <;> omega
    obtain ⟨x, hx, hq, hp⟩ := h
    simp only [List.filter_cons]
    rcases List.mem_cons.1 hx with rfl | hx
    · simp [hq, hp]; omega
    · have ih := filter_lt p q hpq l ⟨x, hx, hq, hp⟩
      cases hp2 : p y with
      | true => simp [hpq y hp2]; exact ih
      | false => cases q y <;> simp <;> omega
theorem behind_lt (l : List En) (path last : List UInt8) (h : ¬ (nxt l path last).1 < 0) : behind l path (nxt l path last).2 < behind l path last := by
  rcases nxt_best l path last with ⟨h0, _⟩ | ⟨i, hi, h0, h1, h2, h3⟩
  · exact absurd h0 h
  · refine filter_lt _ _ (fun e he => ?_) l ⟨l[i], List.getElem_mem hi, ?_, ?_⟩
    · cases hk : kid path e.path.data.toList with
      | none => rw [hk] at he; simp at he
      | some n => rw [hk] at he; simp only at he ⊢; exact less_trans _ _ _ h2 he
    · rw [h1]; exact h2
    · rw [h1]; exact less_irr _
def insG (l : List En) (path : List UInt8) : Nat → List UInt8 → List Nat
  | 0, _ => []
  | f + 1, last => if (nxt l path last).1 < 0 then [] else (nxt l path last).1.toNat :: insG l path f (nxt l path last).2
def insP (l : List En) (path : List UInt8) : List Nat := insG l path (l.length + 1) []
end Go.Proofs.YtjmacegibchplaaGreatDoor
