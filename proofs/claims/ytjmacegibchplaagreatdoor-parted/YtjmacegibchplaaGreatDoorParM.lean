/-
  Two trees of one root (Parted), for arguments of whatever size.
-/
import Derived.Test.YtjmacegibchplaaGreatDoorFetR
import Derived.Test.YtjmacegibchplaaGreatDoorParA
namespace Go.Proofs.YtjmacegibchplaaGreatDoor
open Go.RowKit Go.Maps Go.WideMaps
set_option linter.unusedVariables false
def KeepTreeM : Prop := ∀ (raw : List Int) (texts : List (List UInt8)) (ar : Option Addr) (cr : Nat) (at' : Option Addr) (ct : Nat) (w : World), raw.length ≤ 9223372036854775807 → texts.length ≤ 9223372036854775807 →
    IntsAt w ar raw → (∀ r ∈ raw, -9223372036854775808 ≤ r ∧ r ≤ 9223372036854775807) → TextsAt w at' texts → (∀ x ∈ texts, x.length ≤ 9223372036854775807) →
    Calls Tryz.prog 33 #[.slice ar raw.length cr, .slice at' texts.length ct] w fun e w' => ∃ v, e = .returned v ∧ OwnsE w' w.heap.size v (treeP raw texts) ∧ Below w.heap.size w w'
set_option maxRecDepth 100000 in
set_option maxHeartbeats 8000000 in
theorem parted_lawM (hT : KeepTreeM) (raw : List Int) (texts : List (List UInt8)) (ahead behind : List UInt8) (ar : Option Addr) (cr : Nat) (at' : Option Addr) (ct : Nat) (w : World) (hg : GlobOk w)
    (hrl : raw.length ≤ 9223372036854775807) (htl : texts.length ≤ 9223372036854775807) (hal : ahead.length ≤ 9223372036854775807) (hbl : behind.length ≤ 9223372036854775807)
    (hir : IntsAt w ar raw) (hrb : ∀ r ∈ raw, -9223372036854775808 ≤ r ∧ r ≤ 9223372036854775807) (htx : TextsAt w at' texts) (hts : ∀ x ∈ texts, x.length ≤ 9223372036854775807) :
    Calls Tryz.prog 9 #[.slice ar raw.length cr, .slice at' texts.length ct, .string (bs ahead), .string (bs behind)] w fun e w' => e = .returned (.bool true) ∧ Below w.heap.size w w' := by
  have Hir := hide (And.intro hir hrb)
  have Htx := hide (And.intro htx hts)
  have HT := hide hT
  clear hT hir hrb htx hts
  have k1 := fun w' => keepCutM ahead 20 w' (by omega) (by decide)
  have k2 := fun w' => keepCutM behind 20 w' (by omega) (by decide)
  have z1 : (bs (ahead.take 20)).size ≤ 20 := by rw [bs_size]; exact List.length_take_le _ _
  have z2 : (bs (behind.take 20)).size ≤ 20 := by rw [bs_size]; exact List.length_take_le _ _
  have ad1 := add_ok (bs (ahead.take 20)) ⟨#[48, 5]⟩ (by omega) (by decide)
  have ad2 := add_ok (bs (ahead.take 20) ++ ⟨#[48, 5]⟩) (bs (behind.take 20)) (by rw [ByteArray.size_append]; have : (⟨#[48, 5]⟩ : ByteArray).size = 2 := rfl; omega) (by omega)
  have ad3 := add_ok (bs (ahead.take 20)) ⟨#[63, 153]⟩ (by omega) (by decide)
  have ad4 := add_ok (bs (ahead.take 20) ++ ⟨#[63, 153]⟩) (bs (behind.take 20)) (by rw [ByteArray.size_append]; have : (⟨#[63, 153]⟩ : ByteArray).size = 2 := rfl; omega) (by omega)
  have HX := hide (show bs (ahead.take 20) ++ ⟨#[48, 5]⟩ ++ bs (behind.take 20) = bs (twoX ahead behind) by unfold twoX; rw [← bs_add, ← bs_add]; rfl)
  have HY := hide (show bs (ahead.take 20) ++ ⟨#[63, 153]⟩ ++ bs (behind.take 20) = bs (twoY ahead behind) by unfold twoY; rw [← bs_add, ← bs_add]; rfl)
  go_enter Tryz.func9, Tryz.ntmps9
  go_wp2_with fail
  refine (keepTwo w).mono ?_
  rintro e w' ⟨rfl, hw'⟩
  rw [hw']
  clear hw' w'
  go_wp2_with fail
  refine (unhide HT raw texts ar cr at' ct w hrl htl (unhide Hir).1 (unhide Hir).2 (unhide Htx).1 (unhide Htx).2).mono ?_
  rintro e W2 ⟨v2, rfl, ho2, hb2⟩
  obtain ⟨a2, c2, rfl, hc29, hn2⟩ := own_more ho2
  have hl2 : LiesE W2 a2 (treeP raw texts) := by
    obtain ⟨a, c, e, h, -⟩ := OwnsE.lies ho2
    obtain ⟨rfl, -⟩ : a2 = a ∧ c2 = c := by simpa using e
    exact h
  have htk := treeP_ok (raw.take 29) texts
  have htz := treeP_zero (raw.take 29) texts
  have hl30 := (treeP_ok raw texts).2.2
  rw [← treeP_take raw texts 29 (by decide)] at htk htz
  have hl2t := lies_take hl2 29
  have hlt : ((treeP raw texts).take 29).length = min 29 (treeP raw texts).length := List.length_take
  have hn3 : a2 = none → (treeP raw texts).take 29 = [] ∧ c2 = 0 := fun h => by
    obtain ⟨h1, h2⟩ := hn2 h
    exact ⟨List.eq_nil_of_length_eq_zero (by omega), h2⟩
  generalize (treeP raw texts).take 29 = t at *
  generalize treeP raw texts = t0 at *
  obtain ⟨htt, htw, -⟩ := htk
  have H2 := hide (And.intro hl2t hb2)
  have Hp := hide (parted_plain htt htw (show t.length ≤ 29 by omega) htz (show (twoX ahead behind).length ≤ 60 by have := (two_len ahead behind).2; omega) (two_len ahead behind).1 (two_digest ahead behind) (two_ne ahead behind))
  have Hta := hide (tree_zero htt htw (show t.length ≤ 29 by omega) htz (twoX ahead behind) (by have := (two_len ahead behind).2; omega))
  have Htb := hide (tree_zero htt htw (show t.length ≤ 29 by omega) htz (twoY ahead behind) (by have := two_len ahead behind; omega))
  generalize twoX ahead behind = x at *
  generalize twoY ahead behind = y at *
  have Hn3 := hide hn3
  have h29 : t.length ≤ 29 := by omega
  clear ho2 hl2 hl2t hb2 htz htt htw hn2 hn3 Hir Htx HT z1 z2
  go_upto_if 40 with fail
  go_cut [11] (fun s wx => s = .slice a2 t.length c2 ∧ W2 = wx)
  case first =>
    by_cases h : t0.length = 30
    · have g1 : decide ((29 : Int) < (t0.length : Int)) = true := by simp; omega
      have g2 : t.length = 29 := by omega
      go_wp2_with fail
      go_meet
      exact ⟨by rw [g2], rfl⟩
    · have g1 : decide ((29 : Int) < (t0.length : Int)) = false := by simp; omega
      have g2 : t.length = t0.length := by omega
      go_wp2_with fail
      go_meet
      exact ⟨by rw [g2], rfl⟩
  case rest =>
  obtain ⟨h11, hw2⟩ := hcut
  subst h11
  subst hw2
  clear hc29 hlt hl30
  go_wp2_with fail
  refine (k1 W2).mono ?_
  rintro e w' ⟨rfl, hw'⟩
  rw [hw']
  clear hw' w'
  go_wp2_with fail
  refine (k2 W2).mono ?_
  rintro e w' ⟨rfl, hw'⟩
  rw [hw']
  clear hw' w'
  go_wp2_with fail
  refine (k1 W2).mono ?_
  rintro e w' ⟨rfl, hw'⟩
  rw [hw']
  clear hw' w'
  go_wp2_with fail
  refine (k2 W2).mono ?_
  rintro e w' ⟨rfl, hw'⟩
  rw [hw']
  clear hw' w'
  go_upto_region 7 with fail
  rw [unhide HX, unhide HY]
  clear HX HY ad1 ad2 ad3 ad4 k1 k2
  have hbw2 := (unhide H2).2
  have hA := one_entry W2 W2.heap.size x (Nat.le_refl _)
  have hbA : Below W2.heap.size W2 (W2.alloc (.cells #[.string ⟨#[48]⟩, .int .i64 1, .string (bs x)] 32)) := (Below.refl _ _).alloc (Nat.le_refl _) _
  have HA := hide (And.intro hA (And.intro hbA ((unhide H2).1.below hbA (Nat.le_refl _))))
  clear hA hbA
  go_wp2_with (at_builtin; go_loud (refine app_entries rfl (.tmp 59) (.tmp 60) rfl W2.heap.size _ [zeroE x] rfl (unhide HA).1 a2 t c2 rfl (unhide Hn3) (unhide HA).2.2 ?qb ?qc ?_))
  case qb => simp; omega
  case qc => simp
  intro va W3 hoa ga
  have hb3 : Below W2.heap.size W2 W3 := (unhide HA).2.1.grown ga (by simp) (fun k hk => by simp [Value.ownBlock] at hk; omega)
  have hl3 := (unhide H2).1.below hb3 (Nat.le_refl _)
  have hbw3 := hbw2.trans (hb3.mono hbw2.size)
  obtain ⟨A, hAe⟩ : ∃ A, zeroE x :: t = A := ⟨_, rfl⟩
  have hoA : OwnsE W3 W2.heap.size va A := by rw [← hAe]; exact hoa
  have hAl : A.length ≤ 30 := by rw [← hAe]; simp; omega
  rw [hAe] at Hp Hta
  clear hAe hoa
  obtain ⟨aa, ca, rfl, hla, -⟩ := OwnsE.lies hoA
  have hB := one_entry W3 W3.heap.size y (Nat.le_refl _)
  have hbB : Below W3.heap.size W3 (W3.alloc (.cells #[.string ⟨#[48]⟩, .int .i64 1, .string (bs y)] 32)) := (Below.refl _ _).alloc (Nat.le_refl _) _
  have HB := hide (And.intro hB (And.intro hbB (hl3.below hbB (Nat.le_refl _))))
  have Hla := hide (And.intro hla hbw3)
  clear hB hbB hl3 hla hb3 ga hoA HA H2 hbw2 hbw3
  go_wp2_with (at_builtin; refine app_entries rfl (.tmp 64) (.tmp 65) rfl W3.heap.size _ [zeroE y] rfl (unhide HB).1 a2 t c2 rfl (unhide Hn3) (unhide HB).2.2 ?qb ?qc ?_)
  case qb => simp; omega
  case qc => simp
  intro vb W4 hob gb
  have hb4 : Below W3.heap.size W3 W4 := (unhide HB).2.1.grown gb (by simp) (fun k hk => by simp [Value.ownBlock] at hk; omega)
  obtain ⟨Bl, hBe⟩ : ∃ Bl, zeroE y :: t = Bl := ⟨_, rfl⟩
  have hoB : OwnsE W4 W3.heap.size vb Bl := by rw [← hBe]; exact hob
  have hBl : Bl.length ≤ 30 := by rw [← hBe]; simp; omega
  rw [hBe] at Hp Htb
  clear hBe hob
  obtain ⟨ab, cb, rfl, hlb, -⟩ := OwnsE.lies hoB
  have hla4 := (unhide Hla).1.below hb4 (Nat.le_refl _)
  have hbw4 := (unhide Hla).2.trans (hb4.mono (unhide Hla).2.size)
  have Hm := hide (And.intro hla4 (And.intro hlb hbw4))
  have hg4 := hg.below hbw4 (Nat.le_refl _)
  clear hla4 hlb hbw4 hb4 gb hoB HB Hla Hn3
  go_wp2_with fail
  refine (awake_any W4 hg4).mono ?_
  rintro e W5 ⟨rfl, hb5⟩
  have hla5 := (unhide Hm).1.below hb5 (Nat.le_refl _)
  have hlb5 := (unhide Hm).2.1.below hb5 (Nat.le_refl _)
  have hbw5 := (unhide Hm).2.2.trans (hb5.mono (unhide Hm).2.2.size)
  have hfA := tree_fit A (unhide Hta).1
  have hfB := tree_fit Bl (unhide Htb).1
  have hbd := progBuild_uni A aa ca W5 (hg.below hbw5 (Nat.le_refl _)) (by unfold maxLen; omega) hla5 hfA
  have Hbd := hide hbd
  have Hm5 := hide (And.intro hla5 (And.intro hlb5 hbw5))
  have Hfit := hide (And.intro hfA hfB)
  clear hbd hla5 hlb5 hbw5 hb5 Hm hg4 hfA hfB
  obtain ⟨eA, hEA⟩ : ∃ eA, errOf A = eA := ⟨_, rfl⟩
  rw [hEA] at Hbd
  go_wp2_with fail
  refine (unhide Hbd).mono ?_
  rintro e W6 ⟨v6, rfl, ho6, hb6⟩
  obtain ⟨a6, c6, rfl, ht6, -, -⟩ := OwnsS.texts ho6
  have hla6 := (unhide Hm5).1.below hb6 (Nat.le_refl _)
  have hlb6 := (unhide Hm5).2.1.below hb6 (Nat.le_refl _)
  have hbw6 := (unhide Hm5).2.2.trans (hb6.mono (unhide Hm5).2.2.size)
  have htu := turned_any Bl ab cb W6 (by omega) hlb6
  have Htu := hide htu
  have Hm6 := hide (And.intro hla6 (And.intro hlb6 (And.intro hbw6 ht6)))
  clear htu hla6 hlb6 hbw6 hb6 Hm5 Hbd ho6 ht6
  go_wp2_with fail
  refine (unhide Htu).mono ?_
  rintro e W7 ⟨v7, rfl, ho7, hb7⟩
  obtain ⟨a7, c7, rfl, hl7, -⟩ := OwnsE.lies ho7
  have hla7 := (unhide Hm6).1.below hb7 (Nat.le_refl _)
  have hlb7 := (unhide Hm6).2.1.below hb7 (Nat.le_refl _)
  have hbw7 := (unhide Hm6).2.2.1.trans (hb7.mono (unhide Hm6).2.2.1.size)
  have ht7 := (unhide Hm6).2.2.2.below hb7 (Nat.le_refl _)
  have hrv := tree_rev (unhide Htb).1 (unhide Htb).2
  have hbd := progBuild_uni Bl.reverse a7 c7 W7 (hg.below hbw7 (Nat.le_refl _)) (by rw [List.length_reverse]; unfold maxLen; omega) hl7 (tree_fit _ hrv.1)
  obtain ⟨eB, hEB⟩ : ∃ eB, errOf Bl.reverse = eB := ⟨_, rfl⟩
  rw [hEB, List.length_reverse] at hbd
  have Hbd := hide hbd
  have Hm7 := hide (And.intro hla7 (And.intro hlb7 (And.intro hbw7 ht7)))
  clear hbd hla7 hlb7 hbw7 ht7 hb7 hl7 ho7 hrv Hm6 Htu
  go_wp2_with fail
  refine (unhide Hbd).mono ?_
  rintro e W8 ⟨v8, rfl, ho8, hb8⟩
  obtain ⟨a8, c8, rfl, ht8, -, -⟩ := OwnsS.texts ho8
  have hla8 := (unhide Hm7).1.below hb8 (Nat.le_refl _)
  have hlb8 := (unhide Hm7).2.1.below hb8 (Nat.le_refl _)
  have hbw8 := (unhide Hm7).2.2.1.trans (hb8.mono (unhide Hm7).2.2.1.size)
  have ht68 := (unhide Hm7).2.2.2.below hb8 (Nat.le_refl _)
  have hcl := progClash.2 A Bl aa ab ca cb W8 (hg.below hbw8 (Nat.le_refl _)) (by unfold maxLen; omega) (by unfold maxLen; omega) hla8 hlb8 (unhide Hfit).1 (unhide Hfit).2
  have hck := progClash.1 A Bl (unhide Hfit).1 (unhide Hfit).2
  obtain ⟨hE1, hE2⟩ := unhide Hp
  rw [hEA, hEB] at hE1 hE2
  have HE2 := hide hE2
  have Hm8 := hide (And.intro hla8 (And.intro hlb8 (And.intro hbw8 (And.intro ht68 ht8))))
  have Hcl := hide (And.intro hcl hck)
  clear hE2 hla8 hlb8 ht68 ht8 hcl hck hb8 ho8 Hm7 Hbd
  by_cases h00 : eA = 0 ∧ eB = 0
  · obtain ⟨h01, h02⟩ := h00
    obtain ⟨hr, hcA, hcB, hout⟩ := unhide HE2 h01 h02
    obtain ⟨hcl, hck⟩ := unhide Hcl
    obtain ⟨R, hR⟩ : ∃ R, clOf A Bl = R := ⟨_, rfl⟩
    rw [hR] at hcl hck
    obtain ⟨u, v, c⟩ := R
    have h1 := hck.err
    simp only at h1 hcl
    rw [hcA] at h1
    subst h1
    obtain ⟨k1, k2, k3, k4⟩ := hck.some rfl
    simp only at k1 k2 k3 k4
    rw [hr]
    generalize rootOf Bl.reverse = rt at *
    subst h01
    subst h02
    have hbb : ((bs rt).toList == (bs rt).toList) = true := by simp
    have hne : ((bs u).toList == (bs v).toList) = false := by rw [bs_eqb]; simpa using k1
    obtain ⟨oA1, oA2⟩ := out_facts (unhide Hta).1
    obtain ⟨oB1, oB2⟩ := out_facts (unhide Htb).1
    have hul := oA2 u k2
    have hvl := oB2 v k3
    rw [hout] at Hm8 ⊢
    have an1 := any_mem k2
    have an2 := any_mem k3
    have hck2 := (progClash.1 A A.reverse (unhide Hfit).1 (tree_fit _ (tree_rev (unhide Hta).1 (unhide Hta).2).1)).err
    rw [hcB] at hck2
    have Hck2 := hide hck2
    have Hcl1 := hide hcl
    have Ho := hide (And.intro oA1 oB1)
    generalize outOf A = oA at *
    generalize outOf Bl = oB at *
    clear hcl hck Hcl HE2 hE1 hr hcA hcB hout k2 k3 oA2 oB2 hck2 hR hbw8 Hp hEA hEB
    go_wp2_with fail
    refine (unhide Hcl1).mono ?_
    rintro e W9 ⟨rfl, hb9⟩
    obtain ⟨hla8, hlb8, hbw8, ht68, ht8⟩ := unhide Hm8
    have hla9 := hla8.below hb9 (Nat.le_refl _)
    have hbw9 := hbw8.trans (hb9.mono hbw8.size)
    have ht69 := ht68.below hb9 (Nat.le_refl _)
    have ht89 := ht8.below hb9 (Nat.le_refl _)
    have Htu := hide (turned_any A aa ca W9 (by omega) hla9)
    have Hm9 := hide (And.intro hla9 (And.intro hbw9 (And.intro ht69 ht89)))
    clear hla8 hlb8 hbw8 ht68 ht8 Hm8 hla9 hbw9 ht69 ht89 hb9 Hcl1
    go_wp2_with fail
    refine (unhide Htu).mono ?_
    rintro e W10 ⟨v10, rfl, ho10, hb10⟩
    obtain ⟨a10, c10, rfl, hl10, -⟩ := OwnsE.lies ho10
    obtain ⟨hla9, hbw9, ht69, ht89⟩ := unhide Hm9
    have hla10 := hla9.below hb10 (Nat.le_refl _)
    have hbw10 := hbw9.trans (hb10.mono hbw9.size)
    have ht610 := ht69.below hb10 (Nat.le_refl _)
    have ht810 := ht89.below hb10 (Nat.le_refl _)
    have hcl2 := progClash.2 A A.reverse aa a10 ca c10 W10 (hg.below hbw10 (Nat.le_refl _)) (by unfold maxLen; omega) (by rw [List.length_reverse]; unfold maxLen; omega) hla10 hl10 (unhide Hfit).1 (tree_fit _ (tree_rev (unhide Hta).1 (unhide Hta).2).1)
    obtain ⟨R2, hR2⟩ : ∃ R2, clOf A A.reverse = R2 := ⟨_, rfl⟩
    rw [hR2, List.length_reverse] at hcl2
    rw [hR2] at Hck2
    obtain ⟨u2, v2, c2'⟩ := R2
    have h11 : c2' = 11 := unhide Hck2
    subst h11
    simp only at hcl2
    have Hcl2 := hide hcl2
    have Hm10 := hide (And.intro hbw10 (And.intro ht610 ht810))
    clear hla9 hbw9 ht69 ht89 Hm9 hla10 hbw10 ht610 ht810 hb10 hcl2 hR2 Hck2 ho10 hl10 Htu
    go_wp2_with fail
    refine (unhide Hcl2).mono ?_
    rintro e W11 ⟨rfl, hb11⟩
    have hbw11 := (unhide Hm10).1.trans (hb11.mono (unhide Hm10).1.size)
    have ht611 := (unhide Hm10).2.1.below hb11 (Nat.le_refl _)
    have ht811 := (unhide Hm10).2.2.below hb11 (Nat.le_refl _)
    have Hdu := hide (cDigest u W11 (by unfold maxLen; omega))
    have Hm11 := hide (And.intro hbw11 (And.intro ht611 ht811))
    clear hbw11 ht611 ht811 hb11 Hm10 Hcl2
    go_wp2_with fail
    refine (unhide Hdu).mono ?_
    rintro e W12 ⟨rfl, hb12⟩
    have hbw12 := (unhide Hm11).1.trans (hb12.mono (unhide Hm11).1.size)
    have ht612 := (unhide Hm11).2.1.below hb12 (Nat.le_refl _)
    have ht812 := (unhide Hm11).2.2.below hb12 (Nat.le_refl _)
    have Hdv := hide (cDigest v W12 (by unfold maxLen; omega))
    have Hm12 := hide (And.intro hbw12 (And.intro ht612 ht812))
    clear hbw12 ht612 ht812 hb12 Hm11 Hdu
    go_wp2_with fail
    refine (unhide Hdv).mono ?_
    rintro e W13 ⟨rfl, hb13⟩
    have hbw13 := (unhide Hm12).1.trans (hb13.mono (unhide Hm12).1.size)
    have ht613 := (unhide Hm12).2.1.below hb13 (Nat.le_refl _)
    have ht813 := (unhide Hm12).2.2.below hb13 (Nat.le_refl _)
    have hdd : ((bs (P.digest v)).toList == (bs (P.digest v)).toList) = true := by simp
    generalize P.digest v = dv at *
    have o1 := keepOne u oA a6 c6 W13 (by have := (unhide Ho).1; unfold maxLen; omega) ht613
    have o2 := keepOne v oB a8 c8 W13 (by have := (unhide Ho).2; unfold maxLen; omega) ht813
    rw [an1] at o1
    rw [an2] at o2
    have Ho1 := hide o1
    have Ho2 := hide o2
    clear o1 o2 an1 an2 ht613 ht813 hb13 Hm12 Hdv k4
    go_wp2_with fail
    refine (unhide Ho1).mono ?_
    rintro e w' ⟨rfl, hw'⟩
    rw [hw']
    clear hw' w'
    go_wp2_with fail
    refine (unhide Ho2).mono ?_
    rintro e w' ⟨rfl, hw'⟩
    rw [hw']
    clear hw' w'
    go_wp2_with fail
    go_ret
    exact ⟨rfl, hbw13⟩
  · clear Hcl HE2 Hm8
    obtain ⟨rfl | rfl, rfl | rfl⟩ := hE1
    · go_wp2_with fail
      go_ret
      exact ⟨rfl, hbw8⟩
    · go_wp2_with fail
      go_ret
      exact ⟨rfl, hbw8⟩
    · go_wp2_with fail
      go_ret
      exact ⟨rfl, hbw8⟩
    · exact absurd ⟨rfl, rfl⟩ h00
end Go.Proofs.YtjmacegibchplaaGreatDoor
