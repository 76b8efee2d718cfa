import Derived.Test.YtjmacegibchplaaGreatDoorDecP
import Derived.Test.YtjmacegibchplaaGreatDoorRefEnc
import Derived.Test.YtjmacegibchplaaGreatDoorTextB
import Derived.Test.YtjmacegibchplaaGreatDoorTreeR
import Derived.Test.YtjmacegibchplaaGreatDoorTreeD
namespace Go.Proofs.YtjmacegibchplaaGreatDoor
open Go.RowKit
set_option linter.unusedVariables false
def RLoop (w : World) (L : List UInt8) (v i : Value) (wr : World) : Prop :=
 ∃ (items : List P.It) (p : Nat), i = .int .i64 p ∧ (p ≤ L.length ∨ p = 2) ∧ items.length ≤ 41 ∧ OwnsIt wr w.heap.size v items ∧ FitAll items ∧ Below w.heap.size w wr ∧ Track L items p
def posOf : Value → Nat
 | .int _ n => n.toNat
 | _ => 0
theorem bs_int (L : List UInt8) (n : Int) (q : Nat) (hq : n.toNat = q) (h : q < L.length) (b : UInt8) (hb : L[q] = b) : ∃ h' : n.toNat < (bs L).size, (bs L)[n.toNat]'h' = b := by
 subst hq
 exact ⟨by rw [bs_size]; exact h, hb⟩
theorem fit_snoc {l : List P.It} (h : FitAll l) (x : P.It) (hx : Fits x) : FitAll (l ++ [x]) := fun i hi => by
 by_cases hlt : i < l.length
 ·rw [List.getElem_append_left hlt]; exact h i hlt
 ·rw [List.getElem_append_right (by omega)]
  have : i - l.length = 0 := by simp at hi; omega
  simp only [this, List.getElem_cons_zero]
  exact hx
set_option maxRecDepth 100000 in
set_option maxHeartbeats 4000000 in
theorem refDecode_loop (L : List UInt8) (w : World) (hl : L.length ≤ 140737488351232) :
  Calls Tryz.prog 113 #[.string (bs L)] w fun e w' => Below w.heap.size w w' ∧ ((decOk L = none ∧ e = .returned (.tuple #[.slice none 0 0, .bool false]))
   ∨ ∃ items v, decOk L = some items ∧ e = .returned (.tuple #[v, .bool true]) ∧ OwnsIt w' w.heap.size v items) := by
 have hsz := bs_size L
 go_enter Tryz.func113, Tryz.ntmps113
 go_wp2
 go_loopw [4, 5] (fun v i wr => RLoop w L v i wr) (fun v i _ => L.length + 3 - posOf i)
 case atStart => exact ⟨[], 2, rfl, .inr rfl, by simp, World.ownsRow_nil _ _ _ _, fun i hi => absurd hi (by simp), Below.refl _ _, Track.start L⟩
 case round =>
  obtain ⟨items, p, rfl, hp, hi41, hown, hfit, hbel, htr⟩ := hrel
  obtain ⟨a, c, rfl, hlies, _⟩ := hown.lies
  have hp2 : p ≤ 140737488351234 := by omega
  by_cases hlt : p + 1 < L.length
  ·by_cases h41 : items.length < 41
   ·have q1 : (p : Int) + 1 < (L.length : Int) := by omega
    have q2 : (items.length : Int) < 41 := by omega
    obtain ⟨kb, hkb⟩ : ∃ kb, L[p] = kb := ⟨_, rfl⟩
    obtain ⟨nb, hnb⟩ : ∃ nb, L[p + 1] = nb := ⟨_, rfl⟩
    have k0 : (bs L)[p]'(by rw [hsz]; omega) = kb := hkb
    have n0 : (bs L)[p + 1]'(by rw [hsz]; omega) = nb := hnb
    have bk : (kb.toNat : Int) ≤ 255 := by have := kb.toNat_lt; omega
    have bn : (nb.toNat : Int) ≤ 255 := by have := nb.toNat_lt; omega
    have Hk := hide hkb
    have Hn := hide hnb
    clear hkb hnb
    by_cases hname : L.length < p + 2 + nb.toNat
    ·have q3 : (L.length : Int) < (p : Int) + 2 + (nb.toNat : Int) := by omega
     go_wp2_with fail
     go_ret2
     exact ⟨hbel.alloc hbel.size _, .inl ⟨htr.short hlt (way_name L p hlt (by rw [unhide Hn]; exact hname)), rfl⟩⟩
    ·obtain ⟨p2, hpp⟩ : ∃ p2, p + 2 + nb.toNat = p2 := ⟨_, rfl⟩
     have e2 : (p : Int) + 2 + (nb.toNat : Int) = (p2 : Int) := by omega
     have q3 : ¬ (L.length : Int) < (p2 : Int) := by omega
     have q3' : (p2 : Int) ≤ (L.length : Int) := by omega
     have q4 : (p : Int) + 2 ≤ (p2 : Int) := by omega
     have x1 : (bs L).extract (p + 2) p2 = bs ((L.drop (p + 2)).take nb.toNat) := by rw [extract_bs, ← hpp]; congr 2; omega
     have hnl : ((L.drop (p + 2)).take nb.toNat).length ≤ 255 := by simp; omega
     generalize hnm : (L.drop (p + 2)).take nb.toNat = nmL at *
     have Hnm := hide hnm
     have Hpp := hide hpp
     have hp2l : p2 ≤ L.length := by omega
     have hpp2 : p + 2 ≤ p2 := by omega
     clear hnm hpp hname
     by_cases h3 : kb.toNat = 3
     ·have b3 : ((kb.toNat : Int) == 3) = true := by rw [h3]; rfl
      have H3 := hide h3
      clear h3
      by_cases h0 : L.length ≤ p2
      ·have q5 : (L.length : Int) ≤ (p2 : Int) := by omega
       go_wp2_with fail
       go_ret2
       refine ⟨?_, .inl ⟨htr.short hlt (way_link0 L p hlt ?_ ?_ ?_), rfl⟩⟩
       ·exact hbel.alloc hbel.size _
       ·rw [unhide Hn, unhide Hpp]; omega
       ·rw [unhide Hk]; exact unhide H3
       ·rw [unhide Hn, unhide Hpp]; exact h0
      ·have hp2lt : p2 < L.length := by omega
       obtain ⟨tb, htb⟩ : ∃ tb, L[p2] = tb := ⟨_, rfl⟩
       have t0 : (bs L)[p2]'(by rw [hsz]; omega) = tb := htb
       have Ht := hide htb
       have bt : (tb.toNat : Int) ≤ 255 := by have := tb.toNat_lt; omega
       have q5 : ¬ (L.length : Int) ≤ (p2 : Int) := by omega
       have q6 : (p2 : Int) < (L.length : Int) := by omega
       have q7 : decide ((L.length : Int) ≤ (p2 : Int)) = false := by simpa using q6
       obtain ⟨p3, hp3⟩ : ∃ p3, p2 + 1 + tb.toNat = p3 := ⟨_, rfl⟩
       have e3 : (p2 : Int) + 1 + (tb.toNat : Int) = (p3 : Int) := by omega
       clear htb h0
       by_cases htl : L.length < p3
       ·have q8 : (L.length : Int) < (p3 : Int) := by omega
        have Hp3 := hide hp3
        clear hp3
        go_wp2_with fail
        go_ret2
        refine ⟨?_, .inl ⟨htr.short hlt (way_link1 L p p2 hlt ?_ ?_ hp2lt ?_), rfl⟩⟩
        ·exact hbel.alloc hbel.size _
        ·rw [unhide Hk]; exact unhide H3
        ·rw [unhide Hn]; exact unhide Hpp
        ·rw [unhide Ht, unhide Hp3]; exact htl
       ·have q8 : (p3 : Int) ≤ (L.length : Int) := by omega
        have q9 : (p2 : Int) + 1 ≤ (p3 : Int) := by omega
        have hp3l : p3 ≤ L.length := by omega
        have x2 : (bs L).extract (p2 + 1) p3 = bs ((L.drop (p2 + 1)).take tb.toNat) := by rw [extract_bs, ← hp3]; congr 2; omega
        have htl2 : ((L.drop (p2 + 1)).take tb.toNat).length ≤ 255 := by simp; omega
        generalize htm : (L.drop (p2 + 1)).take tb.toNat = tgL at *
        have Htm := hide htm
        have hp3e := hide hp3
        have hpp3 : p + 2 ≤ p3 := by omega
        clear htm hp3 htl
        have hw := way_link L p p2 p3 hlt (by rw [unhide Hk]; exact unhide H3) (by rw [unhide Hn]; exact unhide Hpp) hp2lt (by rw [unhide Ht]; exact unhide hp3e) hp3l
        rw [unhide Hn, unhide Hnm, unhide Ht, unhide Htm] at hw
        have htr' := htr.next hlt _ hw
        have Htr := hide htr'
        clear hw htr'
        have k3 : (kb.toNat : Int) = 3 := by have := unhide H3; omega
        have K3 := hide k3
        clear k3
        go_wp2_with (at_builtin; refine app_item rfl (.tmp 109) (.tmp 111) rfl w.heap.size _ items rfl (World.ownsRow.alloc (World.ownsRow.alloc hown _) _) ⟨wr.heap.size + 1, 0, none⟩ ⟨bs nmL, kb.toNat, ⟨#[]⟩, 0, bs tgL⟩ rfl ?qa ?qb ?qc ?_)
        case qa => exact fun j u hu => hu
        case qb => omega
        case qc => have := hbel.size; omega
        intro v4 w4 ho4 g4
        have hb4 : Below w.heap.size w w4 := ((hbel.alloc hbel.size _).alloc (by simp; exact Nat.le_trans hbel.size (Nat.le_succ _)) _).grown g4 (by simp; have := hbel.size; omega) (fun k hk => (World.ownsRow.lt hown k hk).1)
        clear g4
        go_wp2_with fail
        go_roundw
        case rel =>
         refine ⟨items ++ [⟨bs nmL, kb.toNat, ⟨#[]⟩, 0, bs tgL⟩], p3, rfl, .inl hp3l, by simp; omega, ho4, fit_snoc hfit _ ⟨by simp only [bs_size, maxLen]; omega, Nat.zero_le _, by simp only [bs_size, maxLen]; omega⟩, hb4, ?_⟩
         rw [unhide K3]
         exact unhide Htr
        case measure => simp [posOf]; omega
     ·have b3 : ((kb.toNat : Int) == 3) = false := by simp; omega
      have H3 := hide h3
      clear h3
      by_cases h5 : L.length < p2 + 5
      ·have q5 : (L.length : Int) < (p2 : Int) + 5 := by omega
       go_wp2_with fail
       go_ret2
       refine ⟨?_, .inl ⟨htr.short hlt (way_plain0 L p p2 hlt ?_ ?_ hp2l h5), rfl⟩⟩
       ·exact hbel.alloc hbel.size _
       ·rw [unhide Hk]; exact unhide H3
       ·rw [unhide Hn]; exact unhide Hpp
      ·have h5' : p2 + 5 ≤ L.length := by omega
       have q5 : ¬ (L.length : Int) < (p2 : Int) + 5 := by omega
       have q6 : (p2 : Int) + 3 ≤ (L.length : Int) := by omega
       have q7 : (p2 : Int) + 3 < (L.length : Int) := by omega
       have q8 : (p2 : Int) + 4 < (L.length : Int) := by omega
       have x3 : (bs L).extract p2 (p2 + 3) = bs ((L.drop p2).take 3) := by rw [extract_bs]; congr 2; omega
       have hdl : ((L.drop p2).take 3).length ≤ 3 := by simp; omega
       generalize hdg : (L.drop p2).take 3 = dgL at *
       have Hdg := hide hdg
       obtain ⟨sa, hsa⟩ : ∃ sa, L[p2 + 3] = sa := ⟨_, rfl⟩
       obtain ⟨sb, hsb⟩ : ∃ sb, L[p2 + 4] = sb := ⟨_, rfl⟩
       have a0 : (bs L)[p2 + 3]'(by rw [hsz]; omega) = sa := hsa
       have b0 : (bs L)[p2 + 4]'(by rw [hsz]; omega) = sb := hsb
       obtain ⟨ja, a0'⟩ := bs_int L ((p2 : Int) + 3) (p2 + 3) (by omega) (by omega) sa hsa
       obtain ⟨jb, b0'⟩ := bs_int L ((p2 : Int) + 4) (p2 + 4) (by omega) (by omega) sb hsb
       have q9 : (0 : Int) ≤ (p2 : Int) + 3 := by omega
       have q10 : (0 : Int) ≤ (p2 : Int) + 4 := by omega
       have ba : (sa.toNat : Int) ≤ 255 := by have := sa.toNat_lt; omega
       have bb : (sb.toNat : Int) ≤ 255 := by have := sb.toNat_lt; omega
       have Ha := hide hsa
       have Hb := hide hsb
       have m1 : IntKind.i64.wrap (256 * (sb.toNat : Int)) = 256 * (sb.toNat : Int) := by rw [IntKind.wrap_i64]; omega
       have m2 : IntKind.i64.wrap ((sa.toNat : Int) + 256 * (sb.toNat : Int)) = (sa.toNat : Int) + 256 * (sb.toNat : Int) := by rw [IntKind.wrap_i64]; omega
       have m3 : IntKind.i64.wrap ((p2 : Int) + 3) = (p2 : Int) + 3 := by rw [IntKind.wrap_i64]; omega
       have m4 : IntKind.i64.wrap ((p2 : Int) + 4) = (p2 : Int) + 4 := by rw [IntKind.wrap_i64]; omega
       clear hdg hsa hsb
       have hw := way_plain_at L p p2 kb nb sa sb nmL dgL hlt h5' (unhide Hk) (unhide Hn) (unhide H3) (unhide Hpp) (unhide Ha) (unhide Hb) (unhide Hnm) (unhide Hdg)
       have htr' := htr.next hlt _ hw
       have Htr := hide htr'
       clear hw htr'
       go_wp2_with fail
       go_region
       clear a0' b0' a0 b0 m1 m2 m3 m4
       go_wp2_with (at_builtin; refine app_item rfl (.tmp 109) (.tmp 111) rfl w.heap.size _ items rfl (World.ownsRow.alloc (World.ownsRow.drew (World.ownsRow.alloc hown _)) _) ⟨wr.heap.size + 1, 0, none⟩ ⟨bs nmL, kb.toNat, bs dgL, (sa.toNat : Int) + 256 * (sb.toNat : Int), ⟨#[]⟩⟩ rfl ?qd ?qe ?qf ?_)
       case qd =>
        intro j u hu
        have hb := Box.new (wr.alloc (.cells #[.string (bs nmL), .int .i64 kb.toNat, .string (bs dgL), .int .i64 ((sa.toNat : Int) + 256 * (sb.toNat : Int)), .string ⟨#[]⟩] 47)) (bs nmL) kb.toNat (bs dgL) ((sa.toNat : Int) + 256 * (sb.toNat : Int)) ⟨#[]⟩
        have hz : (wr.alloc (.cells #[.string (bs nmL), .int .i64 kb.toNat, .string (bs dgL), .int .i64 ((sa.toNat : Int) + 256 * (sb.toNat : Int)), .string ⟨#[]⟩] 47)).heap.size = wr.heap.size + 1 := by simp
        rw [hz] at hb
        have hadd : (⟨wr.heap.size + 1, 0, none⟩ : Addr).add j = ⟨wr.heap.size + 1, j, none⟩ := by unfold Addr.add; split <;> simp_all
        rw [hadd]
        refine (cell_of_block (show Box _ _ _ _ _ _ _ from hb)).trans ?_
        rw [← hu, List.getElem?_toArray]; rfl
       case qe => omega
       case qf => have := hbel.size; simp; omega
       intro v4 w4 ho4 g4
       have hb4 : Below w.heap.size w w4 := (((hbel.alloc hbel.size _).alloc (by simp; exact Nat.le_trans hbel.size (Nat.le_succ _)) _).drew).grown g4 (by simp; have := hbel.size; omega) (fun k hk => (World.ownsRow.lt hown k hk).1)
       clear g4
       go_wp2_with fail
       go_roundw
       case rel => exact ⟨items ++ [⟨bs nmL, kb.toNat, bs dgL, (sa.toNat : Int) + 256 * (sb.toNat : Int), ⟨#[]⟩⟩], p2 + 5, by go_num, .inl h5', by simp; omega, ho4, fit_snoc hfit _ ⟨by simp only [bs_size, maxLen]; omega, by simp only [bs_size, maxLen]; omega, Nat.zero_le _⟩, hb4, unhide Htr⟩
       case measure => simp [posOf]; omega
   ·have h41' : ¬ (items.length : Int) < 41 := by omega
    have q1 : (p : Int) + 1 < (L.length : Int) := by omega
    have q2 : decide ((items.length : Int) < 41) = false := by simpa using h41'
    have hv := htr.verdict (.inr h41)
    have Hv := hide hv
    clear hv
    go_wp2_with fail
    refine (refDirectory_any items a c wr (by unfold maxLen; omega) hlies hfit).mono ?_
    rintro e w5 ⟨rfl, hb5⟩
    have hw5 := hbel.trans (hb5.mono hbel.size)
    have ho5 : OwnsIt w5 w.heap.size (.slice a items.length c) items := World.ownsRow.kept (row := none) hown ⟨hb5.os, hb5.tape, hb5.output, hb5.size, fun k hk _ => hb5.block k hk⟩ (by cases a <;> simp [Value.ownBlock])
    cases hd : dirOk items with
    | false =>
     have Hd := hide hd
     clear hd
     go_wp2_with fail
     go_ret2
     exact ⟨hw5, .inl ⟨by rw [unhide Hv, if_neg (by rw [unhide Hd]; simp)], rfl⟩⟩
    | true =>
     have Hd := hide hd
     clear hd
     go_wp2_with fail
     refine (refEncode_any items a c w5 (hlies.below hb5 (Nat.le_refl _)) (unhide Hd)).mono ?_
     rintro e w6 ⟨rfl, hb6⟩
     have hw6 := hw5.trans (hb6.mono hw5.size)
     have ho6 : OwnsIt w6 w.heap.size (.slice a items.length c) items := World.ownsRow.kept (row := none) ho5 ⟨hb6.os, hb6.tape, hb6.output, hb6.size, fun k hk _ => hb6.block k hk⟩ (by cases a <;> simp [Value.ownBlock])
     by_cases hE : dirBytes items = L
     ·have hq : ((⟨(dirBytes items).toArray⟩ : ByteArray).toList == (bs L).toList) = true := by rw [hE]; simp [bs]
      have HE := hide hE
      clear hE
      generalize (⟨(dirBytes items).toArray⟩ : ByteArray) = S at *
      go_wp2_with fail
      go_ret2
      exact ⟨hw6, .inr ⟨items, _, by rw [unhide Hv, if_pos ⟨unhide Hd, unhide HE⟩], rfl, ho6⟩⟩
     ·have hq : ((⟨(dirBytes items).toArray⟩ : ByteArray).toList == (bs L).toList) = false := by
       rw [ByteArray.toList_eq, ByteArray.toList_eq, bs_data]; simpa using hE
      have HE := hide hE
      clear hE
      generalize (⟨(dirBytes items).toArray⟩ : ByteArray) = S at *
      go_wp2_with fail
      go_ret2
      exact ⟨hw6, .inl ⟨by rw [unhide Hv, if_neg (fun h => unhide HE h.2)], rfl⟩⟩
  ·have q1 : ¬ (p : Int) + 1 < (L.length : Int) := by omega
   have q2 : decide ((p : Int) + 1 < (L.length : Int)) = false := by simpa using q1
   have hv := htr.verdict (.inl hlt)
   have Hv := hide hv
   clear hv
   go_wp2_with fail
   refine (refDirectory_any items a c wr (by unfold maxLen; omega) hlies hfit).mono ?_
   rintro e w5 ⟨rfl, hb5⟩
   have hw5 := hbel.trans (hb5.mono hbel.size)
   have ho5 : OwnsIt w5 w.heap.size (.slice a items.length c) items := World.ownsRow.kept (row := none) hown ⟨hb5.os, hb5.tape, hb5.output, hb5.size, fun k hk _ => hb5.block k hk⟩ (by cases a <;> simp [Value.ownBlock])
   cases hd : dirOk items with
   | false =>
    have Hd := hide hd
    clear hd
    go_wp2_with fail
    go_ret2
    exact ⟨hw5, .inl ⟨by rw [unhide Hv, if_neg (by rw [unhide Hd]; simp)], rfl⟩⟩
   | true =>
    have Hd := hide hd
    clear hd
    go_wp2_with fail
    refine (refEncode_any items a c w5 (hlies.below hb5 (Nat.le_refl _)) (unhide Hd)).mono ?_
    rintro e w6 ⟨rfl, hb6⟩
    have hw6 := hw5.trans (hb6.mono hw5.size)
    have ho6 : OwnsIt w6 w.heap.size (.slice a items.length c) items := World.ownsRow.kept (row := none) ho5 ⟨hb6.os, hb6.tape, hb6.output, hb6.size, fun k hk _ => hb6.block k hk⟩ (by cases a <;> simp [Value.ownBlock])
    by_cases hE : dirBytes items = L
    ·have hq : ((⟨(dirBytes items).toArray⟩ : ByteArray).toList == (bs L).toList) = true := by rw [hE]; simp [bs]
     have HE := hide hE
     clear hE
     generalize (⟨(dirBytes items).toArray⟩ : ByteArray) = S at *
     go_wp2_with fail
     go_ret2
     exact ⟨hw6, .inr ⟨items, _, by rw [unhide Hv, if_pos ⟨unhide Hd, unhide HE⟩], rfl, ho6⟩⟩
    ·have hq : ((⟨(dirBytes items).toArray⟩ : ByteArray).toList == (bs L).toList) = false := by
      rw [ByteArray.toList_eq, ByteArray.toList_eq, bs_data]; simpa using hE
     have HE := hide hE
     clear hE
     generalize (⟨(dirBytes items).toArray⟩ : ByteArray) = S at *
     go_wp2_with fail
     go_ret2
     exact ⟨hw6, .inl ⟨by rw [unhide Hv, if_neg (fun h => unhide HE h.2)], rfl⟩⟩
end Go.Proofs.YtjmacegibchplaaGreatDoor
namespace Go.Proofs.YtjmacegibchplaaGreatDoor
open Go.RowKit
set_option maxHeartbeats 400000 in
theorem refDigest_any (s : ByteArray) (w : World) (hs : s.size ≤ maxLen) :
  Calls Tryz.prog 20 #[.string s] w fun e w' => e = .returned (.string ⟨(P.digest s.data.toList).toArray⟩) ∧ ∃ n, w' = w.drewN n := by
 unfold maxLen at hs
 go_enter Tryz.func20, Tryz.ntmps20
 go_wp2
 go_loop [3, 4] (fun n i => ∃ k : Nat, k ≤ s.size ∧ i = .int .i64 k ∧ n = .int .i64 (P.dnum (s.data.toList.take k))) (fun _ i => s.size - (intOf i).toNat)
 case atStart => exact ⟨0, Nat.zero_le _, rfl, rfl⟩
 case round =>
  obtain ⟨k, hk, rfl, rfl⟩ := hrel
  have hd := P.dnum_bd (s.data.toList.take k)
  by_cases hlt : k < s.size
  ·have hb : (s[k].toNat : Int) ≤ 255 := by have := s[k].toNat_lt; omega
   have HS := hide (P.dnum_next s k hlt)
   go_wp2
   go_round
   case rel => exact ⟨k + 1, by omega, by go_num, by rw [unhide HS]⟩
   case measure => simp [intOf]; omega
  ·obtain rfl : k = s.size := by omega
   rw [List.take_of_length_le (by simp)] at hd ⊢
   generalize hn : P.dnum s.data.toList = n at *
   have Hn := hide hn
   clear hn
   go_wp2
   go_quiet (fail)
   go_wp2
   go_ret
   exact ⟨ret_string (by rw [P.digest, unhide Hn]; exact P.three_cuts n hd.1 hd.2), nq, rfl⟩
end Go.Proofs.YtjmacegibchplaaGreatDoor
namespace Go.Proofs.YtjmacegibchplaaGreatDoor
open Go.RowKit
set_option linter.unusedVariables false
theorem OwnsIt.below {w w' : World} {base : Nat} {v : Value} {l : List P.It} (h : OwnsIt w base v l) (hb : Below w.heap.size w w') : OwnsIt w' base v l :=
 World.ownsRow.kept (row := none) h ⟨hb.os, hb.tape, hb.output, hb.size, fun k hk _ => hb.block k hk⟩ (by cases v.ownBlock <;> simp)
theorem OwnsIt.set {w : World} {base q j : Nat} {v u : Value} {l : List P.It} (h : OwnsIt w base v l) (hq : ∀ k, v.ownBlock = some k → k ≠ q) : OwnsIt (w.setCell ⟨q, j, none⟩ u) base v l := by
 refine World.ownsRow.kept (row := some q) h ⟨rfl, rfl, rfl, by simp [World.setCell], fun k hk hne => Below.heap_setCell _ _ _ _ (fun e => hne (by rw [e]))⟩ ?_
 cases hv : v.ownBlock with
 | none => exact .inl rfl
 | some k => exact .inr (fun e => hq k hv (Option.some.inj e))
theorem cell_new' (w : World) (x : P.It) (g : Nat) (hg : w.heap.size = g) (j : Nat) (u : Value) (hu : (itCells x)[j]? = some u) : (w.alloc (.cells #[.string x.name, .int .i64 x.kind, .string x.dig, .int .i64 x.size, .string x.tgt] 47)).cell? ((⟨g, 0, none⟩ : Addr).add j) = some u := by
 have hb := Box.new w x.name x.kind x.dig x.size x.tgt
 rw [hg] at hb
 rw [add_off0]
 refine (cell_of_block (show Box _ _ _ _ _ _ _ from hb)).trans ?_
 rw [← hu, List.getElem?_toArray]; rfl
theorem itemP_link (l : List En) (path : List UInt8) (bl : List UInt8 → List UInt8) (i : Nat) (p n : List UInt8) (dt : ByteArray) (he : l.getD i en0 = ⟨bs p, 3, dt⟩) (hn : nm l path i = n) : itemP l path bl i = ⟨bs n, 3, ⟨#[]⟩, 0, dt⟩ := by
 simp only [itemP, he, hn, if_true]
theorem itemP_dir (l : List En) (path : List UInt8) (bl : List UInt8 → List UInt8) (i : Nat) (p n B : List UInt8) (kd : Int) (dt : ByteArray) (h3 : kd ≠ 3) (he : l.getD i en0 = ⟨bs p, kd, dt⟩) (hn : nm l path i = n) (hB : (if kd = 0 then bl (p ++ [47]) else dt.data.toList) = B) : itemP l path bl i = ⟨bs n, kd, bs (P.digest B), B.length, ⟨#[]⟩⟩ := by
 simp only [itemP, he, hn, if_neg h3, bs_data, hB]
theorem path_len (p : List UInt8) (h5 : (sp p).length ≤ 5) (hn : ∀ n ∈ sp p, P.isName n = true) : p.length ≤ 64 := by
 have key : ∀ (p : List UInt8), p.length + 1 = ((sp p).map (fun x => x.length + 1)).sum := by
  intro p
  induction p with
  | nil => rfl
  | cons c r ih =>
   simp only [sp]
   split
   ·simp; omega
   ·split
    ·rename_i e; exact absurd e (sp_ne r)
    ·rename_i h t e; rw [e] at ih; simp at ih ⊢; omega
 have hs : ∀ (S : List (List UInt8)), (∀ n ∈ S, P.isName n = true) → (S.map (fun x => x.length + 1)).sum ≤ 13 * S.length := by
  intro S
  induction S with
  | nil => intro _; simp
  | cons x S ih =>
   intro h
   have h1 := h x (by simp)
   have h2 := ih (fun y hy => h y (by simp [hy]))
   simp only [P.isName, Bool.and_eq_true, decide_eq_true_eq] at h1
   have := h1.1.1.1.1.2
   simp only [List.map_cons, List.sum_cons, List.length_cons]
   omega
 have h1 := key p
 have h2 := hs (sp p) hn
 omega
theorem tree_path (l : List En) (ht : Tree l) (i : Nat) (h : i < l.length) : l[i].path.data.toList.length ≤ 64 := path_len _ (fineP_deep l i h (ht.fine i h)) (fineP_name l i h (ht.fine i h))
theorem take_one {α : Type} (S : List α) (k : Nat) (h : k < S.length) : S.take (k + 1) = S.take k ++ [S[k]] := List.take_succ_eq_append_getElem h
theorem cell_new (w : World) (x : P.It) (g : Nat) (hg : w.heap.size = g) (j : Nat) (u : Value) (hu : (itCells x)[j]? = some u) : ((w.alloc (.cells #[.string x.name, .int .i64 x.kind, .string x.dig, .int .i64 x.size, .string x.tgt] 47)).drew).cell? ((⟨g, 0, none⟩ : Addr).add j) = some u := by
 have hb := Box.new w x.name x.kind x.dig x.size x.tgt
 rw [hg] at hb
 rw [add_off0]
 refine (cell_of_block (show Box _ _ _ _ _ _ _ from hb)).trans ?_
 rw [← hu, List.getElem?_toArray]; rfl
set_option maxRecDepth 100000 in
set_option maxHeartbeats 2000000 in
theorem blob_any (l : List En) (ht : Tree l) (hdl : ∀ i (h : i < l.length), l[i].data.size ≤ maxLen) : ∀ (f : Nat) (path : List UInt8) (a : Option Addr) (c : Nat) (w : World), LiesE w a l → DirPath path → path.length ≤ 1000 → dep path ≤ 5 → 6 ≤ dep path + f →
  Calls Tryz.prog 47 #[.slice a l.length c, .string (bs path)] w fun e w' => e = .returned (.string (bs (blobP l f path))) ∧ Below w.heap.size w w' := by
 have hl := ht.len
 have hf : ELens l := fun i h => by have := tree_path l ht i h; simp at this; unfold maxLen; omega
 intro f
 induction f with
 | zero => intro path a c w _ _ _ h1 h2; omega
 | succ f ih =>
 intro path a c w hi hd hpl hd5 hd6
 have Hd6 := hide hd6
 have Hd5 := hide hd5
 clear hd6 hd5
 have zp := bs_size path
 go_enter Tryz.func47, Tryz.ntmps47
 go_wp2_with fail
 refine (inside_any l a c path w (by omega) hi hf (by omega)).mono ?_
 rintro e w1 ⟨v, rfl, ho1, hb1⟩
 obtain ⟨a1, c1, rfl, hn1, -, -⟩ := ho1.nats
 have hKl := insP_len l path
 have HI := hide (show blobP l (f + 1) path = dirBytes ((insP l path).map (itemP l path (blobP l f))) from rfl)
 have Hok := hide (items_dirOk l ht f path hd)
 have Hmem := hide (show ∀ k (h : k < (insP l path).length), (insP l path)[k] < l.length ∧ kid path (l.getD (insP l path)[k] en0).path.data.toList = some (nm l path (insP l path)[k]) ∧ dep ((l.getD (insP l path)[k] en0).path.data.toList ++ [47]) = dep path + 1 ∧ dep path + 1 ≤ 5 from
  fun k h => ⟨(insP_mem (List.getElem_mem h)).1, (insP_mem (List.getElem_mem h)).2, dep_next l ht path _ (List.getElem_mem h)⟩)
 unfold itemsP at Hok
 have hi1 := hi.below hb1 (Nat.le_refl _)
 clear ho1 hi
 generalize insP l path = K at *
 go_wp2_with fail
 go_loopw [6, 7] (fun v i wr => ∃ k : Nat, k ≤ K.length ∧ i = .int .i64 k ∧ OwnsIt wr w1.heap.size v ((K.take k).map (itemP l path (blobP l f))) ∧ Below w1.heap.size w1 wr) (fun _ i _ => K.length - (intOf i).toNat)
 case atStart => exact ⟨0, Nat.zero_le _, rfl, World.ownsRow_nil _ _ _ _, Below.refl _ _⟩
 case round =>
  obtain ⟨k, hk, rfl, hown, hbel⟩ := hrel
  have hbs := hbel.size
  by_cases hlt : k < K.length
  ·obtain ⟨b1, o1, rfl, hcn⟩ : ∃ b o, a1 = some ⟨b, o, none⟩ ∧ ∀ i (h : i < K.length), wr.cell? ⟨b, o + i, none⟩ = some (natVal K[i]) := by
    rcases hn1.below hbel (Nat.le_refl _) with h | h
    ·subst h; simp at hlt
    ·exact h
   have ck := hcn k hlt
   obtain ⟨hil, hkid, hdn, hd1⟩ := unhide Hmem k hlt
   have Htk := hide (show (K.take (k + 1)).map (itemP l path (blobP l f)) = (K.take k).map (itemP l path (blobP l f)) ++ [itemP l path (blobP l f) K[k]] by rw [take_one K k hlt, List.map_append]; rfl)
   generalize K[k] = i at *
   unfold natVal at ck
   obtain ⟨b, o, rfl, hc⟩ := EntsAt.get (hi1.below hbel (Nat.le_refl _)) hil
   obtain ⟨e0, e1, e2⟩ := hc i hil
   obtain ⟨p, kd, dt, hx⟩ : ∃ p kd dt, l[i] = ⟨bs p, kd, dt⟩ := ⟨l[i].path.data.toList, l[i].kind, l[i].data, by rw [bs_of]⟩
   have hg : l.getD i en0 = ⟨bs p, kd, dt⟩ := by rw [en_getD l i hil, hx]
   have hp64 := tree_path l ht i hil
   have hdts := hdl i hil
   have hkb := fineP_kind l i hil (ht.fine i hil)
   rw [hx] at e0 e1 e2 hp64 hdts hkb
   rw [hg] at hkid hdn
   simp only [bs_data] at e0 e1 e2 hp64 hkid hdn hdts
   obtain ⟨hpe, hnn, -⟩ := kid_some hkid
   generalize hnm : nm l path i = n at *
   have Hnm := hide hnm
   have Hg := hide hg
   have x2 : (bs p).extract path.length p.length = bs n := by
    rw [extract_bs, hpe, List.drop_left]; congr 1; rw [List.take_of_length_le (by simp)]
   have zb := bs_size p
   have q1 : (k : Int) < (K.length : Int) := by omega
   have q2 : (i : Int) < (l.length : Int) := by omega
   have q3 : (path.length : Int) ≤ (p.length : Int) := by rw [hpe, List.length_append]; omega
   have Hkb := hide hkb
   clear hx hg hnm hkid hnn hpe hc hcn hkb
   go_wp2_with fail
   go_region
   clear e0 e1 e2 ck x2 zb q1 q2 q3
   by_cases h3 : kd = 3
   ·subst h3
    have Hit := hide (itemP_link l path (blobP l f) i p n dt (unhide Hg) (unhide Hnm))
    rw [unhide Hit] at Htk
    clear Hit
    go_wp2_with (at_builtin; refine app_item rfl (.tmp 57) (.tmp 59) rfl w1.heap.size _ _ rfl (World.ownsRow.drew (World.ownsRow.alloc (World.ownsRow.alloc (World.ownsRow.alloc hown _) _) _)) ⟨wr.heap.size + 2, 0, none⟩ ⟨bs n, 3, ⟨#[]⟩, 0, dt⟩ rfl ?qd ?qe ?qf ?_)
    case qd => exact fun j u hu => cell_new _ ⟨bs n, 3, ⟨#[]⟩, 0, dt⟩ (wr.heap.size + 2) (by simp) j u hu
    case qe => simp; omega
    case qf => simp; omega
    intro v4 w4 ho4 g4
    have hb4 : Below w1.heap.size w1 w4 := ((((hbel.alloc hbs _).alloc (by simp; omega) _).alloc (by simp; omega) _).drew).grown g4 (by simp; omega) (fun k hk => (World.ownsRow.lt hown k hk).1)
    clear g4
    go_wp2_with fail
    go_roundw
    case rel => exact ⟨k + 1, by omega, by go_num, by rw [unhide Htk, List.map_take]; exact ho4, hb4⟩
    case measure => simp [intOf]; omega
   ·have g3 : (kd == 3) = false := by simpa using h3
    obtain ⟨B, hB⟩ : ∃ B, (if kd = 0 then blobP l f (p ++ [47]) else dt.data.toList) = B := ⟨_, rfl⟩
    have Hit := hide (itemP_dir l path (blobP l f) i p n B kd dt h3 (unhide Hg) (unhide Hnm) hB)
    rw [unhide Hit] at Htk
    have HB := hide hB
    clear Hit hB
    go_upto_if 45 with fail
    go_cut [10] (fun s10 wx => s10 = .string (bs B) ∧ OwnsIt wx w1.heap.size u6 ((K.take k).map (itemP l path (blobP l f))) ∧ Below w1.heap.size w1 wx ∧ wr.heap.size + 2 ≤ wx.heap.size ∧ Box wx (wr.heap.size + 1) (bs n) kd ⟨#[]⟩ 0 ⟨#[]⟩)
    case first =>
     have hbW : Below w1.heap.size w1 (((wr.alloc (.cells #[.string (bs p), .int .i64 kd, .string dt] 32)).alloc (.cells #[.string (bs n), .int .i64 kd, .string ⟨#[]⟩, .int .i64 0, .string ⟨#[]⟩] 47)).drew) := ((hbel.alloc hbs _).alloc (by simp; omega) _).drew
     have hoW : OwnsIt (((wr.alloc (.cells #[.string (bs p), .int .i64 kd, .string dt] 32)).alloc (.cells #[.string (bs n), .int .i64 kd, .string ⟨#[]⟩, .int .i64 0, .string ⟨#[]⟩] 47)).drew) w1.heap.size u6 ((K.take k).map (itemP l path (blobP l f))) := World.ownsRow.drew (World.ownsRow.alloc (World.ownsRow.alloc hown _) _)
     have hxW : Box (((wr.alloc (.cells #[.string (bs p), .int .i64 kd, .string dt] 32)).alloc (.cells #[.string (bs n), .int .i64 kd, .string ⟨#[]⟩, .int .i64 0, .string ⟨#[]⟩] 47)).drew) (wr.heap.size + 1) (bs n) kd ⟨#[]⟩ 0 ⟨#[]⟩ := by
      have := Box.new (wr.alloc (.cells #[.string (bs p), .int .i64 kd, .string dt] 32)) (bs n) kd ⟨#[]⟩ 0 ⟨#[]⟩
      rw [show (wr.alloc (.cells #[.string (bs p), .int .i64 kd, .string dt] 32)).heap.size = wr.heap.size + 1 by simp] at this
      exact this
     have hsW : wr.heap.size + 2 ≤ (((wr.alloc (.cells #[.string (bs p), .int .i64 kd, .string dt] 32)).alloc (.cells #[.string (bs n), .int .i64 kd, .string ⟨#[]⟩, .int .i64 0, .string ⟨#[]⟩] 47)).drew).heap.size := by simp
     have hcW : (((wr.alloc (.cells #[.string (bs p), .int .i64 kd, .string dt] 32)).alloc (.cells #[.string (bs n), .int .i64 kd, .string ⟨#[]⟩, .int .i64 0, .string ⟨#[]⟩] 47)).drew).cell? ⟨wr.heap.size, 0, none⟩ = some (.string (bs p)) := by
      have hz : (wr.alloc (.cells #[.string (bs p), .int .i64 kd, .string dt] 32)).heap[wr.heap.size]? = some (.cells #[.string (bs p), .int .i64 kd, .string dt] 32) := heap_alloc_new wr _
      exact cell_of_block (w := ((wr.alloc (.cells #[.string (bs p), .int .i64 kd, .string dt] 32)).alloc (.cells #[.string (bs n), .int .i64 kd, .string ⟨#[]⟩, .int .i64 0, .string ⟨#[]⟩] 47)).drew) (j := 0) ((Below.heap_alloc _ _ _ (by simp)).trans hz)
     generalize ((wr.alloc (.cells #[.string (bs p), .int .i64 kd, .string dt] 32)).alloc (.cells #[.string (bs n), .int .i64 kd, .string ⟨#[]⟩, .int .i64 0, .string ⟨#[]⟩] 47)).drew = W at *
     by_cases h0 : kd = 0
     ·subst h0
      have hadd : ∀ w, (Op.stringOp .add (bs p) ⟨#[47]⟩).run Tryz.prog w = .ok (.string (bs (p ++ [47]))) w := fun w => by
       have := add_ok (bs p) ⟨#[47]⟩ (by rw [bs_size]; omega) (by show 1 ≤ 100000; omega) w
       rw [this, show bs p ++ ⟨#[47]⟩ = bs (p ++ [47]) from cat_eq p ⟨#[47]⟩]
      have hBe : blobP l f (p ++ [47]) = B := by have := unhide HB; rwa [if_pos rfl] at this
      have HBe := hide hBe
      have hle5 : LiesE W (some ⟨b, o, none⟩) l := hi1.below hbW (Nat.le_refl _)
      have H6 := unhide Hd6
      clear hBe
      go_wp2_with fail
      refine (ih (p ++ [47]) _ _ W hle5 (.inr ⟨p, rfl⟩) (by simp; omega) (by omega) (by omega)).mono ?_
      rintro e w5 ⟨rfl, hb5⟩
      rw [unhide HBe]
      go_wp2_with fail
      go_meet
      refine ⟨rfl, ?_, hbW.trans (hb5.mono hbW.size), Nat.le_trans hsW hb5.size, ?_⟩
      ·exact hoW.below hb5
      ·exact (hb5.block _ (by omega)).trans hxW
     ·have g0 : (kd == 0) = false := by simpa using h0
      have hBe : bs B = dt := by have := unhide HB; rw [if_neg h0] at this; rw [← this, bs_of]
      have HBe := hide hBe
      clear hBe
      go_wp2_with fail
      go_meet
      exact ⟨by rw [unhide HBe], hoW, hbW, hsW, hxW⟩
    case rest =>
     obtain ⟨h10, hown2, hbel2, hsz2, hbox⟩ := hcut
     subst h10
     have hBs : (bs B).size ≤ maxLen := by
      have := unhide HB
      rw [bs_size, ← this]
      split
      ·have := blob_small l ht f (p ++ [47]) (.inr ⟨p, rfl⟩); unfold maxLen; omega
      ·simpa using hdts
     go_wp2_with fail
     refine (refDigest_any (bs B) _ hBs).mono ?_
     rintro e w5 ⟨rfl, nd, hw5⟩
     rw [bs_data]
     have hbn : Below wc.heap.size wc w5 := by rw [hw5]; exact below_drewN (Below.refl _ _) _
     have hown5 := hown2.below hbn
     have hbel5 := hbel2.trans (hbn.mono hbel2.size)
     have hsz5 := Nat.le_trans hsz2 hbn.size
     have hbox5 : Box w5 (wr.heap.size + 1) (bs n) kd ⟨#[]⟩ 0 ⟨#[]⟩ := (hbn.block _ (by omega)).trans hbox
     clear hw5 hbn hown2 hbel2 hsz2 hbox
     obtain ⟨d0, d1, d2, d3, d4⟩ := hbox5.cells
     have f2 := free_block (j := 2) hbox5
     have f3 := free_block (j := 3) hbox5
     have zB := bs_size B
     have hnq : ∀ k, u6.ownBlock = some k → k ≠ wr.heap.size + 1 := fun k hk => by have := (World.ownsRow.lt hown k hk).2; omega
     have hwz : ((w5.setCell ⟨wr.heap.size + 1, 2, none⟩ (.string ⟨(P.digest B).toArray⟩)).setCell ⟨wr.heap.size + 1, 3, none⟩ (.int .i64 B.length)).heap.size = w5.heap.size := by simp [World.setCell]
     have hbz : w1.heap.size ≤ w5.heap.size := hbel5.size
     clear hbox5
     go_wp2_with (at_builtin; refine app_item rfl (.tmp 57) (.tmp 59) rfl w1.heap.size _ _ rfl (World.ownsRow.alloc (OwnsIt.set (OwnsIt.set hown5 hnq) hnq) _) ⟨w5.heap.size, 0, none⟩ ⟨bs n, kd, bs (P.digest B), B.length, ⟨#[]⟩⟩ rfl ?qd ?qe ?qf ?_)
     case qd => exact fun j u hu => cell_new' _ ⟨bs n, kd, bs (P.digest B), B.length, ⟨#[]⟩⟩ w5.heap.size hwz j u hu
     case qe => simp; omega
     case qf => simp; omega
     intro v4 w4 ho4 g4
     have hb4 : Below w1.heap.size w1 w4 := (((hbel5.setCell (p := ⟨wr.heap.size + 1, 2, none⟩) (by simp; omega) _).setCell (p := ⟨wr.heap.size + 1, 3, none⟩) (by simp; omega) _).alloc (by rw [hwz]; exact hbz) _).grown g4 (by simp; omega) (fun k hk => (World.ownsRow.lt hown k hk).1)
     clear g4
     go_wp2_with fail
     go_roundw
     case rel => exact ⟨k + 1, by omega, by go_num, by rw [unhide Htk, List.map_take]; exact ho4, hb4⟩
     case measure => simp [intOf]; omega
  ·obtain rfl : k = K.length := by omega
   rw [List.take_length] at hown
   obtain ⟨a2, c2, rfl, hlies, -⟩ := hown.lies
   rw [List.length_map] at *
   go_wp2_with fail
   have := (refEncode_any _ a2 c2 wr hlies (unhide Hok))
   rw [List.length_map] at this
   refine this.mono ?_
   rintro e w5 ⟨rfl, hb5⟩
   have hw5 := (hb1.trans (hbel.mono hb1.size)).trans (hb5.mono (Nat.le_trans hb1.size hbel.size))
   go_wp2_with fail
   go_ret
   exact ⟨ret_string (by rw [unhide HI]; rfl), hw5⟩
end Go.Proofs.YtjmacegibchplaaGreatDoor