import Derived.Test.YtjmacegibchplaaGreatDoorReadC
namespace Go.Proofs.YtjmacegibchplaaGreatDoor
open Go.RowKit
set_option linter.unusedVariables false
theorem u8_back (b : UInt8) : UInt8.ofNat b.toNat = b := by simp
theorem rOne_cons (b : UInt8) (r : List UInt8) : rOne ⟨b :: r, false⟩ = (b.toNat, ⟨r, false⟩) := by
 simp [rOne, rTake]
theorem rTake_app (a r : List UInt8) : rTake ⟨a ++ r, false⟩ a.length = (a, ⟨r, false⟩) := by
 simp [rTake]
theorem ofNat_toNat (n : Nat) (h : n < 256) : (UInt8.ofNat n).toNat = n := UInt8.toNat_ofNat_of_lt' (by simpa using h)
theorem it_ext (x y : P.It) (h1 : x.name = y.name) (h2 : x.kind = y.kind) (h3 : x.dig = y.dig) (h4 : x.size = y.size) (h5 : x.tgt = y.tgt) : x = y := by
 cases x; cases y; simp_all
theorem empty_of {s : ByteArray} (h : s.size = 0) : s = ⟨#[]⟩ := by
 apply ByteArray.ext
 exact Array.eq_empty_of_size_eq_zero h
theorem ok_link (x : P.It) (h : P.itemOk x = true) (hk : x.kind = 3) : x.dig = ⟨#[]⟩ ∧ x.size = 0 := by
 unfold P.itemOk at h
 rw [Bool.and_eq_true] at h
 have hr := h.2
 rw [hk] at hr
 have e : P.shape 3 = 2 := rfl
 rw [e, if_neg (by decide), if_pos rfl] at hr
 unfold P.linkOk at hr
 simp only [Bool.and_eq_true, ByteArray.toList_eq, List.isEmpty_iff, beq_iff_eq] at hr
 exact ⟨empty_of (by rw [← len_eq, hr.1.2]; rfl), hr.2⟩
theorem ok_plain (x : P.It) (h : P.itemOk x = true) (hk : x.kind ≠ 3) : x.tgt = ⟨#[]⟩ ∧ x.dig.size = 3 := by
 unfold P.itemOk at h
 rw [Bool.and_eq_true] at h
 have hr := h.2
 have hs : P.shape x.kind ≠ 2 := by
  unfold P.shape
  rw [if_neg hk]
  repeat (first | decide | split)
 by_cases k1 : P.shape x.kind = 1
 ·rw [if_pos k1] at hr
  unfold P.plainOk P.isDigest at hr
  simp only [Bool.and_eq_true, decide_eq_true_eq, len_eq, ByteArray.toList_eq, List.isEmpty_iff] at hr
  exact ⟨empty_of (by rw [← len_eq, hr.2]; rfl), hr.1.1.1⟩
 ·rw [if_neg k1, if_neg hs] at hr; simp at hr
theorem itemBytes_link (x : P.It) (hk : x.kind = 3) : itemBytes x = 3 :: UInt8.ofNat x.name.size :: (x.name.data.toList ++ (UInt8.ofNat x.tgt.size :: x.tgt.data.toList)) := by
 unfold itemBytes; rw [if_pos hk, hk]; rfl
theorem itemBytes_plain (x : P.It) (hk : x.kind ≠ 3) : itemBytes x = UInt8.ofNat x.kind.toNat :: UInt8.ofNat x.name.size :: (x.name.data.toList ++ (x.dig.data.toList ++ [UInt8.ofNat (x.size % 256).toNat, UInt8.ofNat (x.size / 256).toNat])) := by
 unfold itemBytes; rw [if_neg hk]
theorem rItem_of (x : P.It) (r : List UInt8) (h : P.itemOk x = true) : rItem ⟨itemBytes x ++ r, false⟩ = (x, ⟨r, false⟩) := by
 have hs := sane_of_ok x h
 have hnl : (UInt8.ofNat x.name.size).toNat = x.name.data.toList.length := by rw [ofNat_toNat _ (by have := hs.nm; omega), len_eq]
 by_cases hk : x.kind = 3
 ·have htl : (UInt8.ofNat x.tgt.size).toNat = x.tgt.data.toList.length := by rw [ofNat_toNat _ (by have := hs.tg; omega), len_eq]
  obtain ⟨hd, hz⟩ := ok_link x h hk
  rw [itemBytes_link x hk]
  unfold rItem
  simp only [List.cons_append, List.append_assoc, rOne_cons, hnl, rTake_app, htl]
  rw [if_pos (by rfl)]
  congr 1
  exact it_ext _ _ (bs_of _) hk.symm hd.symm hz.symm (bs_of _)
 ·obtain ⟨ht, hd3⟩ := ok_plain x h hk
  have hkn : (UInt8.ofNat x.kind.toNat).toNat = x.kind.toNat := ofNat_toNat _ (by have := hs.k3; omega)
  have hdl : x.dig.data.toList.length = 3 := by rw [len_eq]; exact hd3
  have hz1 : (UInt8.ofNat (x.size % 256).toNat).toNat = (x.size % 256).toNat := ofNat_toNat _ (by omega)
  have hz2 : (UInt8.ofNat (x.size / 256).toNat).toNat = (x.size / 256).toNat := ofNat_toNat _ (by have := hs.s1; omega)
  rw [itemBytes_plain x hk]
  have ht3 : ∀ q, rTake ⟨x.dig.data.toList ++ q, false⟩ 3 = (x.dig.data.toList, ⟨q, false⟩) := fun q => by rw [← hdl]; exact rTake_app _ _
  unfold rItem
  simp only [List.cons_append, List.append_assoc, rOne_cons, hnl, rTake_app, hkn, ht3, List.nil_append, hz1, hz2]
  rw [if_neg (by have := hs.k0; have := hs.k3; omega)]
  congr 1
  refine it_ext _ _ (bs_of _) ?_ (bs_of _) ?_ ht.symm
  ·have := hs.k0; simp only; omega
  ·have := hs.s0; simp only; omega
theorem rTake_got (s : RS) (n : Nat) (h : (rTake s n).2.short = false) : s.short = false ∧ s.rest = (rTake s n).1 ++ (rTake s n).2.rest ∧ (rTake s n).1.length = n := by
 unfold rTake at h ⊢
 split at h
 ·simp at h
 ·rw [if_neg (by assumption)]
  exact ⟨h, by simp, by simp; omega⟩
theorem rOne_got (s : RS) (h : (rOne s).2.short = false) : s.short = false ∧ s.rest = UInt8.ofNat (rOne s).1 :: (rOne s).2.rest := by
 have e2 : (rOne s).2 = (rTake s 1).2 := by unfold rOne; split <;> rfl
 rw [e2] at h ⊢
 obtain ⟨h1, h2, h3⟩ := rTake_got s 1 h
 refine ⟨h1, ?_⟩
 obtain ⟨b, hb⟩ : ∃ b, (rTake s 1).1 = [b] := by
  match (rTake s 1).1, h3 with
  | [b], _ => exact ⟨b, rfl⟩
 have e1 : (rOne s).1 = b.toNat := by unfold rOne; rw [if_neg (by rw [h]; simp), hb]; rfl
 rw [e1, u8_back, h2, hb]
 rfl
theorem size_split (a b : Nat) (ha : a ≤ 255) (hb : b ≤ 255) : ((((a + 256 * b : Nat) : Int) % 256).toNat = a) ∧ ((((a + 256 * b : Nat) : Int) / 256).toNat = b) := by omega
theorem rItem_got (s : RS) (h : (rItem s).2.short = false) : s.short = false ∧ s.rest = itemBytes (rItem s).1 ++ (rItem s).2.rest := by
 have bk := rOne_bd s
 unfold rItem at h ⊢
 simp only at h ⊢
 generalize hk : rOne s = k at *
 generalize hn : rOne k.2 = n at *
 generalize hm : rTake n.2 n.1 = nm at *
 have bn := rOne_bd k.2
 rw [hn] at bn
 by_cases h3 : k.1 = 3
 ·rw [if_pos h3] at h ⊢
  generalize ht : rOne nm.2 = t at *
  generalize hg : rTake t.2 t.1 = tg at *
  have bt := rOne_bd nm.2
  rw [ht] at bt
  simp only at h ⊢
  rw [← hg] at h
  obtain ⟨g1, g2, g3⟩ := rTake_got t.2 t.1 h
  rw [hg] at g2 g3 h
  rw [← ht] at g1
  obtain ⟨t1, t2⟩ := rOne_got nm.2 g1
  rw [ht] at t2
  rw [← hm] at t1
  obtain ⟨m1, m2, m3⟩ := rTake_got n.2 n.1 t1
  rw [hm] at m2 m3
  rw [← hn] at m1
  obtain ⟨n1, n2⟩ := rOne_got k.2 m1
  rw [hn] at n2
  rw [← hk] at n1
  obtain ⟨k1, k2⟩ := rOne_got s n1
  rw [hk] at k2
  refine ⟨k1, ?_⟩
  rw [itemBytes_link _ (by simp only; rw [h3]; rfl)]
  simp only [bs_data, bs_size]
  rw [k2, h3, n2, m2, t2, g2, m3, g3]
  simp
 ·rw [if_neg h3] at h ⊢
  generalize hd : rTake nm.2 3 = dg at *
  generalize ha : rOne dg.2 = a at *
  generalize hb : rOne a.2 = b at *
  have ba := rOne_bd dg.2
  have bb := rOne_bd a.2
  rw [ha] at ba
  rw [hb] at bb
  simp only at h ⊢
  rw [← hb] at h
  obtain ⟨b1, b2⟩ := rOne_got a.2 h
  rw [hb] at b2
  rw [← ha] at b1
  obtain ⟨a1, a2⟩ := rOne_got dg.2 b1
  rw [ha] at a2
  rw [← hd] at a1
  obtain ⟨d1, d2, d3⟩ := rTake_got nm.2 3 a1
  rw [hd] at d2 d3
  rw [← hm] at d1
  obtain ⟨m1, m2, m3⟩ := rTake_got n.2 n.1 d1
  rw [hm] at m2 m3
  rw [← hn] at m1
  obtain ⟨n1, n2⟩ := rOne_got k.2 m1
  rw [hn] at n2
  rw [← hk] at n1
  obtain ⟨k1, k2⟩ := rOne_got s n1
  rw [hk] at k2
  refine ⟨k1, ?_⟩
  rw [itemBytes_plain _ (by simp only; omega)]
  obtain ⟨z1, z2⟩ := size_split a.1 b.1 ba bb
  simp only [bs_data, bs_size, z1, z2, Int.toNat_natCast]
  rw [k2, n2, m2, d2, a2, b2, m3]
  simp
theorem rAt_got (s : RS) : ∀ k, (rAt s k).short = false → s.short = false ∧ s.rest = itemsBytes (rGot s k) ++ (rAt s k).rest
 | 0, h => ⟨h, by simp [rGot, itemsBytes, rAt]⟩
 | k + 1, h => by
  obtain ⟨h1, h2⟩ := rItem_got (rAt s k) h
  obtain ⟨h3, h4⟩ := rAt_got s k h1
  refine ⟨h3, ?_⟩
  rw [h4, h2]
  simp only [rGot, rAt]
  rw [itemsBytes_snoc, List.append_assoc]
theorem itemsBytes_cons (x : P.It) (l : List P.It) : itemsBytes (x :: l) = itemBytes x ++ itemsBytes l := by simp [itemsBytes]
theorem rAt_of (l : List P.It) (hok : ∀ x ∈ l, P.itemOk x = true) : ∀ k, k ≤ l.length → rAt ⟨itemsBytes l, false⟩ k = ⟨itemsBytes (l.drop k), false⟩ ∧ rGot ⟨itemsBytes l, false⟩ k = l.take k
 | 0, _ => ⟨by simp [rAt], by simp [rGot]⟩
 | k + 1, hk => by
  obtain ⟨h1, h2⟩ := rAt_of l hok k (by omega)
  have hd : l.drop k = l[k] :: l.drop (k + 1) := List.drop_eq_getElem_cons (by omega)
  have hb : itemsBytes (l.drop k) = itemBytes l[k] ++ itemsBytes (l.drop (k + 1)) := by rw [hd, itemsBytes_cons]
  have hr := rItem_of l[k] (itemsBytes (l.drop (k + 1))) (hok _ (List.getElem_mem (by omega)))
  refine ⟨?_, ?_⟩
  ·simp only [rAt]; rw [h1, hb, hr]
  ·simp only [rGot]; rw [h1, hb, hr, h2, take_snoc_it l k (by omega)]
theorem decOk_iff (L : List UInt8) (l : List P.It) : decOk L = some l ↔ dirOk l = true ∧ dirBytes l = L := by
 constructor
 ·intro h
  unfold decOk at h
  cases hr : readOk L with
  | none => rw [hr] at h; simp at h
  | some items =>
   rw [hr] at h
   simp only [Option.bind_some] at h
   by_cases hd : dirOk items = true
   ·rw [if_pos hd] at h
    simp at h
    subst h
    refine ⟨hd, ?_⟩
    unfold readOk at hr
    simp only at hr
    split at hr
    ·rename_i h84
     split at hr
     ·rename_i hc
      obtain ⟨c1, c2, c3⟩ := hc
      simp at hr
      obtain ⟨e1, e2⟩ := rOne_got ⟨L, false⟩ (by
       cases hz : (rOne ⟨L, false⟩).2.short with
       | false => rfl
       | true => have := rOne_stays _ hz; rw [c1] at this; simp at this)
      obtain ⟨e3, e4⟩ := rOne_got (rOne ⟨L, false⟩).2 c1
      obtain ⟨_, e5⟩ := rAt_got _ _ c2
      have hlen := rGot_len (rOne (rOne ⟨L, false⟩).2).2 (rOne (rOne ⟨L, false⟩).2).1
      rw [hr] at e5 hlen
      rw [c3, List.append_nil] at e5
      simp only at e2
      unfold dirBytes
      rw [e2, e4, e5, hlen, h84]
      rfl
     ·simp at hr
    ·simp at hr
   ·rw [if_neg hd] at h; simp at h
 ·rintro ⟨hd, rfl⟩
  have h40 := len_of_dirOk l hd
  have hok : ∀ x ∈ l, P.itemOk x = true := fun x hx => by
   obtain ⟨k, hk, rfl⟩ := List.getElem_of_mem hx
   exact ok_of_dirOk l hd k hk
  obtain ⟨h1, h2⟩ := rAt_of l hok l.length (Nat.le_refl _)
  have hln : (UInt8.ofNat l.length).toNat = l.length := ofNat_toNat _ (by omega)
  unfold decOk readOk dirBytes
  simp only [rOne_cons, hln, h1, h2]
  simp [itemsBytes, hd]
def Track (L : List UInt8) (items : List P.It) (at' : Nat) : Prop := ∀ l, dirOk l = true → dirBytes l = L → ∃ r, l = items ++ r ∧ L.drop at' = itemsBytes r
theorem Track.start (L : List UInt8) : Track L [] 2 := fun l hd hb => ⟨l, rfl, by rw [← hb]; rfl⟩
theorem itemBytes_ge (x : P.It) : 2 ≤ (itemBytes x).length := by unfold itemBytes; simp
theorem Track.more {L : List UInt8} {items : List P.It} {p : Nat} (h : Track L items p) (hp : p + 1 < L.length) (l : List P.It) (hd : dirOk l = true) (hb : dirBytes l = L) :
  ∃ x r, l = items ++ x :: r ∧ rItem ⟨L.drop p, false⟩ = (x, ⟨itemsBytes r, false⟩) := by
 obtain ⟨r, h1, h2⟩ := h l hd hb
 cases r with
 | nil =>
  have : (L.drop p).length = 0 := by rw [h2]; rfl
  simp at this; omega
 | cons x r =>
  refine ⟨x, r, h1, ?_⟩
  rw [h2, itemsBytes_cons]
  have hx : x ∈ l := by rw [h1]; simp
  obtain ⟨k, hk, rfl⟩ := List.getElem_of_mem hx
  exact rItem_of _ _ (ok_of_dirOk l hd k hk)
theorem Track.short {L : List UInt8} {items : List P.It} {p : Nat} (h : Track L items p) (hp : p + 1 < L.length) (hs : (rItem ⟨L.drop p, false⟩).2.short = true) : decOk L = none := by
 cases hd : decOk L with
 | none => rfl
 | some l =>
  obtain ⟨h1, h2⟩ := (decOk_iff L l).1 hd
  obtain ⟨x, r, _, e⟩ := h.more hp l h1 h2
  rw [e] at hs
  simp at hs
theorem Track.next {L : List UInt8} {items : List P.It} {p p' : Nat} (h : Track L items p) (hp : p + 1 < L.length) (y : P.It) (hs : rItem ⟨L.drop p, false⟩ = (y, ⟨L.drop p', false⟩)) : Track L (items ++ [y]) p' := by
 intro l hd hb
 obtain ⟨x, r, h1, e⟩ := h.more hp l hd hb
 rw [hs] at e
 simp only [Prod.mk.injEq, RS.mk.injEq] at e
 exact ⟨r, by rw [h1, e.1]; simp, e.2.1⟩
theorem Track.done {L : List UInt8} {items : List P.It} {p : Nat} (h : Track L items p) (hp : ¬ p + 1 < L.length ∨ ¬ items.length < 41) (l : List P.It) (hd : dirOk l = true) (hb : dirBytes l = L) : l = items := by
 obtain ⟨r, h1, h2⟩ := h l hd hb
 have h40 := len_of_dirOk l hd
 cases r with
 | nil => simpa using h1
 | cons x r =>
  rcases hp with hp | hp
  ·have hl : (L.drop p).length = (itemBytes x ++ itemsBytes r).length := by rw [h2, itemsBytes_cons]
   have := itemBytes_ge x
   simp at hl
   omega
  ·rw [h1] at h40
   simp at h40
   omega
theorem Track.verdict {L : List UInt8} {items : List P.It} {p : Nat} (h : Track L items p) (hp : ¬ p + 1 < L.length ∨ ¬ items.length < 41) :
  decOk L = if dirOk items = true ∧ dirBytes items = L then some items else none := by
 by_cases hc : dirOk items = true ∧ dirBytes items = L
 ·rw [if_pos hc]; exact (decOk_iff L items).2 hc
 ·rw [if_neg hc]
  cases hd : decOk L with
  | none => rfl
  | some l =>
   obtain ⟨h1, h2⟩ := (decOk_iff L l).1 hd
   have := h.done hp l h1 h2
   subst this
   exact absurd ⟨h1, h2⟩ hc
theorem drop_two (L : List UInt8) (p : Nat) (h : p + 1 < L.length) : L.drop p = L[p] :: L[p + 1] :: L.drop (p + 2) := by
 rw [List.drop_eq_getElem_cons (by omega), List.drop_eq_getElem_cons (i := p + 1) (by omega)]
theorem rItem_cons (k0 n0 : UInt8) (q : List UInt8) : rItem ⟨k0 :: n0 :: q, false⟩ =
  if k0.toNat = 3 then (⟨bs (rTake ⟨q, false⟩ n0.toNat).1, (k0.toNat : Nat), ⟨#[]⟩, 0, bs (rTake (rOne (rTake ⟨q, false⟩ n0.toNat).2).2 (rOne (rTake ⟨q, false⟩ n0.toNat).2).1).1⟩, (rTake (rOne (rTake ⟨q, false⟩ n0.toNat).2).2 (rOne (rTake ⟨q, false⟩ n0.toNat).2).1).2)
  else (⟨bs (rTake ⟨q, false⟩ n0.toNat).1, (k0.toNat : Nat), bs (rTake (rTake ⟨q, false⟩ n0.toNat).2 3).1, (((rOne (rTake (rTake ⟨q, false⟩ n0.toNat).2 3).2).1 + 256 * (rOne (rOne (rTake (rTake ⟨q, false⟩ n0.toNat).2 3).2).2).1 : Nat) : Int), ⟨#[]⟩⟩, (rOne (rOne (rTake (rTake ⟨q, false⟩ n0.toNat).2 3).2).2).2) := by
 unfold rItem
 simp only [rOne_cons]
theorem rTake_no (q : List UInt8) (n : Nat) (h : q.length < n) : rTake ⟨q, false⟩ n = ([], ⟨[], true⟩) := by unfold rTake; rw [if_pos h]
theorem rTake_yes (q : List UInt8) (n : Nat) (h : ¬ q.length < n) : rTake ⟨q, false⟩ n = (q.take n, ⟨q.drop n, false⟩) := by unfold rTake; rw [if_neg h]
theorem way_name (L : List UInt8) (p : Nat) (h : p + 1 < L.length) (hn : L.length < p + 2 + L[p + 1].toNat) : (rItem ⟨L.drop p, false⟩).2.short = true := by
 have h1 : (rTake ⟨L.drop (p + 2), false⟩ L[p + 1].toNat) = ([], ⟨[], true⟩) := rTake_no _ _ (by simp; omega)
 rw [drop_two L p h, rItem_cons, h1]
 split
 ·exact rTake_stays _ _ (rOne_stays _ rfl)
 ·exact rOne_stays _ (rOne_stays _ (rTake_stays _ _ rfl))
theorem take_name (L : List UInt8) (p n : Nat) (hn : ¬ L.length < p + 2 + n) : rTake ⟨L.drop (p + 2), false⟩ n = ((L.drop (p + 2)).take n, ⟨L.drop (p + 2 + n), false⟩) := by
 rw [rTake_yes _ _ (by simp; omega), List.drop_drop]
theorem rOne_nil : rOne ⟨[], false⟩ = (0, ⟨[], true⟩) := by simp [rOne, rTake]
theorem way_link0 (L : List UInt8) (p : Nat) (h : p + 1 < L.length) (hn : ¬ L.length < p + 2 + L[p + 1].toNat) (h3 : L[p].toNat = 3) (h0 : L.length ≤ p + 2 + L[p + 1].toNat) : (rItem ⟨L.drop p, false⟩).2.short = true := by
 rw [drop_two L p h, rItem_cons, if_pos h3, take_name L p _ hn]
 have : L.drop (p + 2 + L[p + 1].toNat) = [] := List.drop_eq_nil_of_le h0
 simp only [this, rOne_nil]
 exact rTake_stays _ _ rfl
theorem drop_one (L : List UInt8) (p : Nat) (h : p < L.length) : L.drop p = L[p] :: L.drop (p + 1) := List.drop_eq_getElem_cons h
theorem way_link1 (L : List UInt8) (p p2 : Nat) (h : p + 1 < L.length) (h3 : L[p].toNat = 3) (e2 : p + 2 + L[p + 1].toNat = p2) (h0 : p2 < L.length) (ht : L.length < p2 + 1 + L[p2].toNat) : (rItem ⟨L.drop p, false⟩).2.short = true := by
 rw [drop_two L p h, rItem_cons, if_pos h3, take_name L p _ (by omega), e2, drop_one L p2 h0]
 simp only [rOne_cons]
 rw [rTake_no _ _ (by simp; omega)]
theorem way_link (L : List UInt8) (p p2 p3 : Nat) (h : p + 1 < L.length) (h3 : L[p].toNat = 3) (e2 : p + 2 + L[p + 1].toNat = p2) (h0 : p2 < L.length) (e3 : p2 + 1 + L[p2].toNat = p3) (ht : p3 ≤ L.length) :
  rItem ⟨L.drop p, false⟩ = (⟨bs ((L.drop (p + 2)).take L[p + 1].toNat), 3, ⟨#[]⟩, 0, bs ((L.drop (p2 + 1)).take L[p2].toNat)⟩, ⟨L.drop p3, false⟩) := by
 rw [drop_two L p h, rItem_cons, if_pos h3, take_name L p _ (by omega), e2, drop_one L p2 h0]
 simp only [rOne_cons]
 rw [rTake_yes _ _ (by simp; omega), List.drop_drop, e3, h3]
 rfl
theorem way_plain0 (L : List UInt8) (p p2 : Nat) (h : p + 1 < L.length) (h3 : ¬ L[p].toNat = 3) (e2 : p + 2 + L[p + 1].toNat = p2) (hn : p2 ≤ L.length) (h5 : L.length < p2 + 5) : (rItem ⟨L.drop p, false⟩).2.short = true := by
 rw [drop_two L p h, rItem_cons, if_neg h3, take_name L p _ (by omega), e2]
 simp only
 cases hz : (rOne (rOne (rTake ⟨L.drop p2, false⟩ 3).2).2).2.short with
 | true => rfl
 | false =>
  exfalso
  obtain ⟨b1, b2⟩ := rOne_got _ hz
  obtain ⟨a1, a2⟩ := rOne_got _ b1
  obtain ⟨_, d2, d3⟩ := rTake_got _ _ a1
  have hl := congrArg List.length d2
  rw [List.length_append, a2, List.length_cons, b2, List.length_cons, d3] at hl
  simp at hl
  omega
theorem way_plain (L : List UInt8) (p p2 : Nat) (h : p + 1 < L.length) (h3 : ¬ L[p].toNat = 3) (e2 : p + 2 + L[p + 1].toNat = p2) (h5 : p2 + 5 ≤ L.length) :
  rItem ⟨L.drop p, false⟩ = (⟨bs ((L.drop (p + 2)).take L[p + 1].toNat), (L[p].toNat : Nat), bs ((L.drop p2).take 3), ((L[p2 + 3].toNat + 256 * L[p2 + 4].toNat : Nat) : Int), ⟨#[]⟩⟩, ⟨L.drop (p2 + 5), false⟩) := by
 rw [drop_two L p h, rItem_cons, if_neg h3, take_name L p _ (by omega), e2]
 simp only
 rw [rTake_yes _ _ (by simp; omega), List.drop_drop]
 simp only
 rw [drop_one L (p2 + 3) (by omega)]
 simp only [rOne_cons]
 have e4 : L.drop (p2 + 3 + 1) = L[p2 + 4] :: L.drop (p2 + 5) := drop_one L (p2 + 4) (by omega)
 rw [e4]
 simp only [rOne_cons]
theorem way_plain_at (L : List UInt8) (p p2 : Nat) (kb nb sa sb : UInt8) (nmL dgL : List UInt8) (h : p + 1 < L.length) (h5 : p2 + 5 ≤ L.length) (hk : L[p] = kb) (hn : L[p + 1] = nb) (h3 : ¬ kb.toNat = 3) (e2 : p + 2 + nb.toNat = p2)
  (ha : L[p2 + 3] = sa) (hb : L[p2 + 4] = sb) (hnm : (L.drop (p + 2)).take nb.toNat = nmL) (hdg : (L.drop p2).take 3 = dgL) :
  rItem ⟨L.drop p, false⟩ = (⟨bs nmL, (kb.toNat : Nat), bs dgL, (sa.toNat : Int) + 256 * (sb.toNat : Int), ⟨#[]⟩⟩, ⟨L.drop (p2 + 5), false⟩) := by
 subst hk hn
 rw [way_plain L p p2 h h3 e2 h5, ha, hb, hnm, hdg]
 congr 2
end Go.Proofs.YtjmacegibchplaaGreatDoor