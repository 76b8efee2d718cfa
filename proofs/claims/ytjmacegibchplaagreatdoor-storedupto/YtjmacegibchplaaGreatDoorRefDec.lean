/-
  The document's Decode (the statements' own): its contract.
-/
import Derived.Test.YtjmacegibchplaaGreatDoorDecP
import Derived.Test.YtjmacegibchplaaGreatDoorRefEnc
namespace Go.Proofs.YtjmacegibchplaaGreatDoor
open Go.RowKit
set_option linter.unusedVariables false
def RLoop (w : World) (L : List UInt8) (v i : Value) (wr : World) : Prop :=
  ∃ (items : List P.It) (p : Nat), i = .int .i64 p ∧ (p ≤ L.length ∨ p = 2) ∧ items.length ≤ 41 ∧ OwnsIt wr w.heap.size v items ∧ FitAll items ∧ Below w.heap.size w wr ∧ Track L items p
def posOf : Value → Nat
  | .int _ n => n.toNat
  | _ => 0
theorem bs_int (L : List UInt8) (n : Int) (q : Nat) (hq : n.toNat = q) (h : q < L.length) (b : UInt8) (hb : L[q] = b) : ∃ h' : n.toNat < (bs L).size, (bs L)[n.toNat]'h' = b := by
  subst hq
  exact ⟨by rw [bs_size]; exact h, hb⟩
theorem fit_snoc {l : List P.It} (h : FitAll l) (x : P.It) (hx : Fits x) : FitAll (l ++ [x]) := fun i hi => by
  by_cases hlt : i < l.length
  · rw [List.getElem_append_left hlt]; exact h i hlt
  · rw [List.getElem_append_right (by omega)]
    have : i - l.length = 0 := by simp at hi; omega
    simp only [this, List.getElem_cons_zero]
    exact hx
set_option maxRecDepth 100000 in
set_option maxHeartbeats 4000000 in
theorem refDecode_loop (L : List UInt8) (w : World) (hl : L.length ≤ 140737488351232) :
    Calls Tryz.prog 113 #[.string (bs L)] w fun e w' => Below w.heap.size w w' ∧ ((decOk L = none ∧ e = .returned (.tuple #[.slice none 0 0, .bool false]))
      ∨ ∃ items v, decOk L = some items ∧ e = .returned (.tuple #[v, .bool true]) ∧ OwnsIt w' w.heap.size v items) := by
  have hsz := bs_size L
  go_enter Tryz.func113, Tryz.ntmps113
  go_wp2
  go_loopw [4, 5] (fun v i wr => RLoop w L v i wr) (fun v i _ => L.length + 3 - posOf i)
  case atStart => exact ⟨[], 2, rfl, .inr rfl, by simp, World.ownsRow_nil _ _ _ _, fun i hi => absurd hi (by simp), Below.refl _ _, Track.start L⟩
  case round =>
    obtain ⟨items, p, rfl, hp, hi41, hown, hfit, hbel, htr⟩ := hrel
    obtain ⟨a, c, rfl, hlies, _⟩ := hown.lies
    have hp2 : p ≤ 140737488351234 := by omega
    by_cases hlt : p + 1 < L.length
    · by_cases h41 : items.length < 41
      · have q1 : (p : Int) + 1 < (L.length : Int) := by omega
        have q2 : (items.length : Int) < 41 := by omega
        obtain ⟨kb, hkb⟩ : ∃ kb, L[p] = kb := ⟨_, rfl⟩
        obtain ⟨nb, hnb⟩ : ∃ nb, L[p + 1] = nb := ⟨_, rfl⟩
        have k0 : (bs L)[p]'(by rw [hsz]; omega) = kb := hkb
        have n0 : (bs L)[p + 1]'(by rw [hsz]; omega) = nb := hnb
        have bk : (kb.toNat : Int) ≤ 255 := by have := kb.toNat_lt; omega
        have bn : (nb.toNat : Int) ≤ 255 := by have := nb.toNat_lt; omega
        have Hk := hide hkb
        have Hn := hide hnb
        clear hkb hnb
        by_cases hname : L.length < p + 2 + nb.toNat
        · have q3 : (L.length : Int) < (p : Int) + 2 + (nb.toNat : Int) := by omega
          go_wp2_with fail
          go_ret2
          exact ⟨hbel.alloc hbel.size _, .inl ⟨htr.short hlt (way_name L p hlt (by rw [unhide Hn]; exact hname)), rfl⟩⟩
        · obtain ⟨p2, hpp⟩ : ∃ p2, p + 2 + nb.toNat = p2 := ⟨_, rfl⟩
          have e2 : (p : Int) + 2 + (nb.toNat : Int) = (p2 : Int) := by omega
          have q3 : ¬ (L.length : Int) < (p2 : Int) := by omega
          have q3' : (p2 : Int) ≤ (L.length : Int) := by omega
          have q4 : (p : Int) + 2 ≤ (p2 : Int) := by omega
          have x1 : (bs L).extract (p + 2) p2 = bs ((L.drop (p + 2)).take nb.toNat) := by rw [extract_bs, ← hpp]; congr 2; omega
          have hnl : ((L.drop (p + 2)).take nb.toNat).length ≤ 255 := by simp; omega
          generalize hnm : (L.drop (p + 2)).take nb.toNat = nmL at *
          have Hnm := hide hnm
          have Hpp := hide hpp
          have hp2l : p2 ≤ L.length := by omega
          have hpp2 : p + 2 ≤ p2 := by omega
          clear hnm hpp hname
          by_cases h3 : kb.toNat = 3
          · have b3 : ((kb.toNat : Int) == 3) = true := by rw [h3]; rfl
            have H3 := hide h3
            clear h3
            by_cases h0 : L.length ≤ p2
            · have q5 : (L.length : Int) ≤ (p2 : Int) := by omega
              go_wp2_with fail
              go_ret2
              refine ⟨?_, .inl ⟨htr.short hlt (way_link0 L p hlt ?_ ?_ ?_), rfl⟩⟩
              · exact hbel.alloc hbel.size _
              · rw [unhide Hn, unhide Hpp]; omega
              · rw [unhide Hk]; exact unhide H3
              · rw [unhide Hn, unhide Hpp]; exact h0
            · have hp2lt : p2 < L.length := by omega
              obtain ⟨tb, htb⟩ : ∃ tb, L[p2] = tb := ⟨_, rfl⟩
              have t0 : (bs L)[p2]'(by rw [hsz]; omega) = tb := htb
              have Ht := hide htb
              have bt : (tb.toNat : Int) ≤ 255 := by have := tb.toNat_lt; omega
              have q5 : ¬ (L.length : Int) ≤ (p2 : Int) := by omega
              have q6 : (p2 : Int) < (L.length : Int) := by omega
              have q7 : decide ((L.length : Int) ≤ (p2 : Int)) = false := by simpa using q6
              obtain ⟨p3, hp3⟩ : ∃ p3, p2 + 1 + tb.toNat = p3 := ⟨_, rfl⟩
              have e3 : (p2 : Int) + 1 + (tb.toNat : Int) = (p3 : Int) := by omega
              clear htb h0
              by_cases htl : L.length < p3
              · have q8 : (L.length : Int) < (p3 : Int) := by omega
                have Hp3 := hide hp3
                clear hp3
                go_wp2_with fail
                go_ret2
                refine ⟨?_, .inl ⟨htr.short hlt (way_link1 L p p2 hlt ?_ ?_ hp2lt ?_), rfl⟩⟩
                · exact hbel.alloc hbel.size _
                · rw [unhide Hk]; exact unhide H3
                · rw [unhide Hn]; exact unhide Hpp
                · rw [unhide Ht, unhide Hp3]; exact htl
              · have q8 : (p3 : Int) ≤ (L.length : Int) := by omega
                have q9 : (p2 : Int) + 1 ≤ (p3 : Int) := by omega
                have hp3l : p3 ≤ L.length := by omega
                have x2 : (bs L).extract (p2 + 1) p3 = bs ((L.drop (p2 + 1)).take tb.toNat) := by rw [extract_bs, ← hp3]; congr 2; omega
                have htl2 : ((L.drop (p2 + 1)).take tb.toNat).length ≤ 255 := by simp; omega
                generalize htm : (L.drop (p2 + 1)).take tb.toNat = tgL at *
                have Htm := hide htm
                have hp3e := hide hp3
                have hpp3 : p + 2 ≤ p3 := by omega
                clear htm hp3 htl
                have hw := way_link L p p2 p3 hlt (by rw [unhide Hk]; exact unhide H3) (by rw [unhide Hn]; exact unhide Hpp) hp2lt (by rw [unhide Ht]; exact unhide hp3e) hp3l
                rw [unhide Hn, unhide Hnm, unhide Ht, unhide Htm] at hw
                have htr' := htr.next hlt _ hw
                have Htr := hide htr'
                clear hw htr'
                have k3 : (kb.toNat : Int) = 3 := by have := unhide H3; omega
                have K3 := hide k3
                clear k3
                go_wp2_with (at_builtin; refine app_item rfl (.tmp 109) (.tmp 111) rfl w.heap.size _ items rfl (World.ownsRow.alloc (World.ownsRow.alloc hown _) _) ⟨wr.heap.size + 1, 0, none⟩ ⟨bs nmL, kb.toNat, ⟨#[]⟩, 0, bs tgL⟩ rfl ?qa ?qb ?qc ?_)
                case qa => exact fun j u hu => hu
                case qb => omega
                case qc => have := hbel.size; omega
                intro v4 w4 ho4 g4
                have hb4 : Below w.heap.size w w4 := ((hbel.alloc hbel.size _).alloc (by simp; exact Nat.le_trans hbel.size (Nat.le_succ _)) _).grown g4 (by simp; have := hbel.size; omega) (fun k hk => (World.ownsRow.lt hown k hk).1)
                clear g4
                go_wp2_with fail
                go_roundw
                case rel =>
                  refine ⟨items ++ [⟨bs nmL, kb.toNat, ⟨#[]⟩, 0, bs tgL⟩], p3, rfl, .inl hp3l, by simp; omega, ho4, fit_snoc hfit _ ⟨by simp only [bs_size, maxLen]; omega, Nat.zero_le _, by simp only [bs_size, maxLen]; omega⟩, hb4, ?_⟩
                  rw [unhide K3]
                  exact unhide Htr
                case measure => simp [posOf]; omega
          · have b3 : ((kb.toNat : Int) == 3) = false := by simp; omega
            have H3 := hide h3
            clear h3
            by_cases h5 : L.length < p2 + 5
            · have q5 : (L.length : Int) < (p2 : Int) + 5 := by omega
              go_wp2_with fail
              go_ret2
              refine ⟨?_, .inl ⟨htr.short hlt (way_plain0 L p p2 hlt ?_ ?_ hp2l h5), rfl⟩⟩
              · exact hbel.alloc hbel.size _
              · rw [unhide Hk]; exact unhide H3
              · rw [unhide Hn]; exact unhide Hpp
            · have h5' : p2 + 5 ≤ L.length := by omega
              have q5 : ¬ (L.length : Int) < (p2 : Int) + 5 := by omega
              have q6 : (p2 : Int) + 3 ≤ (L.length : Int) := by omega
              have q7 : (p2 : Int) + 3 < (L.length : Int) := by omega
              have q8 : (p2 : Int) + 4 < (L.length : Int) := by omega
              have x3 : (bs L).extract p2 (p2 + 3) = bs ((L.drop p2).take 3) := by rw [extract_bs]; congr 2; omega
              have hdl : ((L.drop p2).take 3).length ≤ 3 := by simp; omega
              generalize hdg : (L.drop p2).take 3 = dgL at *
              have Hdg := hide hdg
              obtain ⟨sa, hsa⟩ : ∃ sa, L[p2 + 3] = sa := ⟨_, rfl⟩
              obtain ⟨sb, hsb⟩ : ∃ sb, L[p2 + 4] = sb := ⟨_, rfl⟩
              have a0 : (bs L)[p2 + 3]'(by rw [hsz]; omega) = sa := hsa
              have b0 : (bs L)[p2 + 4]'(by rw [hsz]; omega) = sb := hsb
              obtain ⟨ja, a0'⟩ := bs_int L ((p2 : Int) + 3) (p2 + 3) (by omega) (by omega) sa hsa
              obtain ⟨jb, b0'⟩ := bs_int L ((p2 : Int) + 4) (p2 + 4) (by omega) (by omega) sb hsb
              have q9 : (0 : Int) ≤ (p2 : Int) + 3 := by omega
              have q10 : (0 : Int) ≤ (p2 : Int) + 4 := by omega
              have ba : (sa.toNat : Int) ≤ 255 := by have := sa.toNat_lt; omega
              have bb : (sb.toNat : Int) ≤ 255 := by have := sb.toNat_lt; omega
              have Ha := hide hsa
              have Hb := hide hsb
              have m1 : IntKind.i64.wrap (256 * (sb.toNat : Int)) = 256 * (sb.toNat : Int) := by rw [IntKind.wrap_i64]; omega
              have m2 : IntKind.i64.wrap ((sa.toNat : Int) + 256 * (sb.toNat : Int)) = (sa.toNat : Int) + 256 * (sb.toNat : Int) := by rw [IntKind.wrap_i64]; omega
              have m3 : IntKind.i64.wrap ((p2 : Int) + 3) = (p2 : Int) + 3 := by rw [IntKind.wrap_i64]; omega
              have m4 : IntKind.i64.wrap ((p2 : Int) + 4) = (p2 : Int) + 4 := by rw [IntKind.wrap_i64]; omega
              clear hdg hsa hsb
              have hw := way_plain_at L p p2 kb nb sa sb nmL dgL hlt h5' (unhide Hk) (unhide Hn) (unhide H3) (unhide Hpp) (unhide Ha) (unhide Hb) (unhide Hnm) (unhide Hdg)
              have htr' := htr.next hlt _ hw
              have Htr := hide htr'
              clear hw htr'
              go_wp2_with fail
              go_region
              clear a0' b0' a0 b0 m1 m2 m3 m4
              go_wp2_with (at_builtin; refine app_item rfl (.tmp 109) (.tmp 111) rfl w.heap.size _ items rfl (World.ownsRow.alloc (World.ownsRow.drew (World.ownsRow.alloc hown _)) _) ⟨wr.heap.size + 1, 0, none⟩ ⟨bs nmL, kb.toNat, bs dgL, (sa.toNat : Int) + 256 * (sb.toNat : Int), ⟨#[]⟩⟩ rfl ?qd ?qe ?qf ?_)
              case qd =>
                intro j u hu
                have hb := Box.new (wr.alloc (.cells #[.string (bs nmL), .int .i64 kb.toNat, .string (bs dgL), .int .i64 ((sa.toNat : Int) + 256 * (sb.toNat : Int)), .string ⟨#[]⟩] 47)) (bs nmL) kb.toNat (bs dgL) ((sa.toNat : Int) + 256 * (sb.toNat : Int)) ⟨#[]⟩
                have hz : (wr.alloc (.cells #[.string (bs nmL), .int .i64 kb.toNat, .string (bs dgL), .int .i64 ((sa.toNat : Int) + 256 * (sb.toNat : Int)), .string ⟨#[]⟩] 47)).heap.size = wr.heap.size + 1 := by simp
                rw [hz] at hb
                have hadd : (⟨wr.heap.size + 1, 0, none⟩ : Addr).add j = ⟨wr.heap.size + 1, j, none⟩ := by unfold Addr.add; split <;> simp_all
                rw [hadd]
                refine (cell_of_block (show Box _ _ _ _ _ _ _ from hb)).trans ?_
                rw [← hu, List.getElem?_toArray]; rfl
              case qe => omega
              case qf => have := hbel.size; simp; omega
              intro v4 w4 ho4 g4
              have hb4 : Below w.heap.size w w4 := (((hbel.alloc hbel.size _).alloc (by simp; exact Nat.le_trans hbel.size (Nat.le_succ _)) _).drew).grown g4 (by simp; have := hbel.size; omega) (fun k hk => (World.ownsRow.lt hown k hk).1)
              clear g4
              go_wp2_with fail
              go_roundw
              case rel => exact ⟨items ++ [⟨bs nmL, kb.toNat, bs dgL, (sa.toNat : Int) + 256 * (sb.toNat : Int), ⟨#[]⟩⟩], p2 + 5, by go_num, .inl h5', by simp; omega, ho4, fit_snoc hfit _ ⟨by simp only [bs_size, maxLen]; omega, by simp only [bs_size, maxLen]; omega, Nat.zero_le _⟩, hb4, unhide Htr⟩
              case measure => simp [posOf]; omega
      · have h41' : ¬ (items.length : Int) < 41 := by omega
        have q1 : (p : Int) + 1 < (L.length : Int) := by omega
        have q2 : decide ((items.length : Int) < 41) = false := by simpa using h41'
        have hv := htr.verdict (.inr h41)
        have Hv := hide hv
        clear hv
        go_wp2_with fail
        refine (refDirectory_any items a c wr (by unfold maxLen; omega) hlies hfit).mono ?_
        rintro e w5 ⟨rfl, hb5⟩
        have hw5 := hbel.trans (hb5.mono hbel.size)
        have ho5 : OwnsIt w5 w.heap.size (.slice a items.length c) items := World.ownsRow.kept (row := none) hown ⟨hb5.os, hb5.tape, hb5.output, hb5.size, fun k hk _ => hb5.block k hk⟩ (by cases a <;> simp [Value.ownBlock])
        cases hd : dirOk items with
        | false =>
          have Hd := hide hd
          clear hd
          go_wp2_with fail
          go_ret2
          exact ⟨hw5, .inl ⟨by rw [unhide Hv, if_neg (by rw [unhide Hd]; simp)], rfl⟩⟩
        | true =>
          have Hd := hide hd
          clear hd
          go_wp2_with fail
          refine (refEncode_any items a c w5 (hlies.below hb5 (Nat.le_refl _)) (unhide Hd)).mono ?_
          rintro e w6 ⟨rfl, hb6⟩
          have hw6 := hw5.trans (hb6.mono hw5.size)
          have ho6 : OwnsIt w6 w.heap.size (.slice a items.length c) items := World.ownsRow.kept (row := none) ho5 ⟨hb6.os, hb6.tape, hb6.output, hb6.size, fun k hk _ => hb6.block k hk⟩ (by cases a <;> simp [Value.ownBlock])
          by_cases hE : dirBytes items = L
          · have hq : ((⟨(dirBytes items).toArray⟩ : ByteArray).toList == (bs L).toList) = true := by rw [hE]; simp [bs]
            have HE := hide hE
            clear hE
            generalize (⟨(dirBytes items).toArray⟩ : ByteArray) = S at *
            go_wp2_with fail
            go_ret2
            exact ⟨hw6, .inr ⟨items, _, by rw [unhide Hv, if_pos ⟨unhide Hd, unhide HE⟩], rfl, ho6⟩⟩
          · have hq : ((⟨(dirBytes items).toArray⟩ : ByteArray).toList == (bs L).toList) = false := by
              rw [ByteArray.toList_eq, ByteArray.toList_eq, bs_data]; simpa using hE
            have HE := hide hE
            clear hE
            generalize (⟨(dirBytes items).toArray⟩ : ByteArray) = S at *
            go_wp2_with fail
            go_ret2
            exact ⟨hw6, .inl ⟨by rw [unhide Hv, if_neg (fun h => unhide HE h.2)], rfl⟩⟩
    · have q1 : ¬ (p : Int) + 1 < (L.length : Int) := by omega
      have q2 : decide ((p : Int) + 1 < (L.length : Int)) = false := by simpa using q1
      have hv := htr.verdict (.inl hlt)
      have Hv := hide hv
      clear hv
      go_wp2_with fail
      refine (refDirectory_any items a c wr (by unfold maxLen; omega) hlies hfit).mono ?_
      rintro e w5 ⟨rfl, hb5⟩
      have hw5 := hbel.trans (hb5.mono hbel.size)
      have ho5 : OwnsIt w5 w.heap.size (.slice a items.length c) items := World.ownsRow.kept (row := none) hown ⟨hb5.os, hb5.tape, hb5.output, hb5.size, fun k hk _ => hb5.block k hk⟩ (by cases a <;> simp [Value.ownBlock])
      cases hd : dirOk items with
      | false =>
        have Hd := hide hd
        clear hd
        go_wp2_with fail
        go_ret2
        exact ⟨hw5, .inl ⟨by rw [unhide Hv, if_neg (by rw [unhide Hd]; simp)], rfl⟩⟩
      | true =>
        have Hd := hide hd
        clear hd
        go_wp2_with fail
        refine (refEncode_any items a c w5 (hlies.below hb5 (Nat.le_refl _)) (unhide Hd)).mono ?_
        rintro e w6 ⟨rfl, hb6⟩
        have hw6 := hw5.trans (hb6.mono hw5.size)
        have ho6 : OwnsIt w6 w.heap.size (.slice a items.length c) items := World.ownsRow.kept (row := none) ho5 ⟨hb6.os, hb6.tape, hb6.output, hb6.size, fun k hk _ => hb6.block k hk⟩ (by cases a <;> simp [Value.ownBlock])
        by_cases hE : dirBytes items = L
        · have hq : ((⟨(dirBytes items).toArray⟩ : ByteArray).toList == (bs L).toList) = true := by rw [hE]; simp [bs]
          have HE := hide hE
          clear hE
          generalize (⟨(dirBytes items).toArray⟩ : ByteArray) = S at *
          go_wp2_with fail
          go_ret2
          exact ⟨hw6, .inr ⟨items, _, by rw [unhide Hv, if_pos ⟨unhide Hd, unhide HE⟩], rfl, ho6⟩⟩
        · have hq : ((⟨(dirBytes items).toArray⟩ : ByteArray).toList == (bs L).toList) = false := by
            rw [ByteArray.toList_eq, ByteArray.toList_eq, bs_data]; simpa using hE
          have HE := hide hE
          clear hE
          generalize (⟨(dirBytes items).toArray⟩ : ByteArray) = S at *
          go_wp2_with fail
          go_ret2
          exact ⟨hw6, .inl ⟨by rw [unhide Hv, if_neg (fun h => unhide HE h.2)], rfl⟩⟩
end Go.Proofs.YtjmacegibchplaaGreatDoor
