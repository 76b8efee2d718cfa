/-
  The statement on Clash: the walk.
-/
import Derived.Test.YtbfjbohdiemofaaGreatDoorClaLaw
namespace Go.Proofs.YtbfjbohdiemofaaGreatDoor
open Go.RowKit
set_option linter.unusedVariables false

set_option maxRecDepth 100000 in
set_option maxHeartbeats 2000000 in
theorem clashes_law {G : World → Prop} (hS : Stays G) {cl : List En → List En → List UInt8 × List UInt8 × Int} (hP : ProgClash G cl) (x y : List En) (a1 a2 : Option Addr) (c1 c2 : Nat) (w : World) (hG : G w) (hl1 : x.length * 40 ≤ 140737488351232) (hl2 : y.length * 40 ≤ 140737488351232)
    (hi1 : LiesE w a1 x) (hi2 : LiesE w a2 y) (hn1 : a1 = none → x = [] ∧ c1 = 0) (hn2 : a2 = none → y = [] ∧ c2 = 0) (hf1 : TFit x) (hf2 : TFit y) :
    Calls Tryz.prog 4 #[.slice a1 x.length c1, .slice a2 y.length c2] w fun e w' => e = .returned (.bool true) ∧ Below w.heap.size w w' := by
  have hlm1 : x.length ≤ maxLen := by unfold maxLen; omega
  have hlm2 : y.length ≤ maxLen := by unfold maxLen; omega
  have Hcl := hide (hP.1 x y hf1 hf2)
  go_enter Tryz.func4, Tryz.ntmps4
  go_wp2_with fail
  have hza : EntsAt ((w.alloc (.cells #[.string ⟨#[102]⟩, .int .i64 1, .string ⟨#[48, 5]⟩] 32)).alloc (.cells #[.string ⟨#[102]⟩, .int .i64 1, .string ⟨#[63, 153]⟩] 32)) w.heap.size 0 cla := by
    intro i hi
    have hz := (Below.heap_alloc (w.alloc (.cells #[.string ⟨#[102]⟩, .int .i64 1, .string ⟨#[48, 5]⟩] 32)) (.cells #[.string ⟨#[102]⟩, .int .i64 1, .string ⟨#[63, 153]⟩] 32) w.heap.size (by simp)).trans (heap_alloc_new w _)
    match i, hi with
    | 0, _ => exact ⟨cell_of_block hz, cell_of_block hz, cell_of_block hz⟩
  have hzb : EntsAt ((w.alloc (.cells #[.string ⟨#[102]⟩, .int .i64 1, .string ⟨#[48, 5]⟩] 32)).alloc (.cells #[.string ⟨#[102]⟩, .int .i64 1, .string ⟨#[63, 153]⟩] 32)) (w.heap.size + 1) 0 clb := by
    intro i hi
    have hz := heap_alloc_new (w.alloc (.cells #[.string ⟨#[102]⟩, .int .i64 1, .string ⟨#[48, 5]⟩] 32)) (.cells #[.string ⟨#[102]⟩, .int .i64 1, .string ⟨#[63, 153]⟩] 32)
    rw [show (w.alloc (.cells #[.string ⟨#[102]⟩, .int .i64 1, .string ⟨#[48, 5]⟩] 32)).heap.size = w.heap.size + 1 by simp] at hz
    match i, hi with
    | 0, _ => exact ⟨cell_of_block hz, cell_of_block hz, cell_of_block hz⟩
  have hbW : Below w.heap.size w ((w.alloc (.cells #[.string ⟨#[102]⟩, .int .i64 1, .string ⟨#[48, 5]⟩] 32)).alloc (.cells #[.string ⟨#[102]⟩, .int .i64 1, .string ⟨#[63, 153]⟩] 32)) := ((Below.refl _ _).alloc (Nat.le_refl _) _).alloc (by simp) _
  refine (hP.2 cla clb (some ⟨w.heap.size, 0, none⟩) (some ⟨w.heap.size + 1, 0, none⟩) 1 1 _ (hS _ _ hG hbW) (by decide) (by decide) (.inr ⟨_, _, rfl, hza⟩) (.inr ⟨_, _, rfl, hzb⟩) (cl_fit _ rfl) (cl_fit _ rfl)).mono ?_
  rintro e w1 ⟨rfl, hb1⟩
  rw [cl_first hP]
  have hw1 := hbW.trans (hb1.mono hbW.size)
  clear hza hzb hbW hb1
  have hs1 : ((bs [48, 5]).toList == [48, 5]) = true := by rw [str_eq]; rfl
  have hs2 : ((bs [63, 153]).toList == [63, 153]) = true := by rw [str_eq]; rfl
  simp only
  go_wp2_with fail
  refine (entriesOf_any x a1 c1 w1 hl1 (hi1.below hw1 (Nat.le_refl _)) hn1).mono ?_
  rintro e w2 ⟨a3, c3, rfl, hi3, hb2, hst1⟩
  have hw2 := hw1.trans (hb2.mono hw1.size)
  have Hst1 := hide hst1
  clear hst1 hs1 hs2
  go_wp2_with fail
  refine (entriesOf_any y a2 c2 w2 hl2 (hi2.below hw2 (Nat.le_refl _)) hn2).mono ?_
  rintro e w3 ⟨a4, c4, rfl, hi4, hb3, hst2⟩
  have hw3 := hw2.trans (hb3.mono hw2.size)
  have Hst2 := hide hst2
  clear hst2
  have hi33 := hi3.below hb3 (Nat.le_refl _)
  go_wp2_with fail
  refine (hP.2 x y a3 a4 c3 c4 w3 (hS _ _ hG hw3) hlm1 hlm2 hi33 hi4 hf1 hf2).mono ?_
  rintro e w4 ⟨rfl, hb4⟩
  have hw4 := hw3.trans (hb4.mono hw3.size)
  generalize hcr : cl x y = r at *
  have Hcr := hide hcr
  clear hcr
  obtain ⟨s, t, ee⟩ := r
  simp only
  go_wp2_with fail
  refine (hP.2 x y a3 a4 c3 c4 w4 (hS _ _ hG hw4) hlm1 hlm2 (hi33.below hb4 (Nat.le_refl _)) (hi4.below hb4 (Nat.le_refl _)) hf1 hf2).mono ?_
  rintro e w5 ⟨rfl, hb5⟩
  have hw5 := hw4.trans (hb5.mono hw4.size)
  have hb45 := hb4.trans (hb5.mono hb4.size)
  have hb25 := hb3.trans (hb45.mono hb3.size)
  rw [unhide Hcr]
  simp only
  have es : ((bs s).toList == (bs s).toList) = true := by simp
  have et : ((bs t).toList == (bs t).toList) = true := by simp
  have ee' : (ee == ee) = true := by simp
  go_wp2_with fail
  refine (unhide Hst1 w5 hb25).mono ?_
  rintro e w6 ⟨rfl, n6, hw6⟩
  have hb56 : Below w5.heap.size w5 w6 := by rw [hw6]; exact below_drewN (Below.refl _ _) _
  clear hw6
  go_wp2_with fail
  refine (unhide Hst2 w6 (hb45.trans (hb56.mono hb45.size))).mono ?_
  rintro e w7 ⟨rfl, n7, hw7⟩
  have hb67 : Below w6.heap.size w6 w7 := by rw [hw7]; exact below_drewN (Below.refl _ _) _
  have hw7' := hw5.trans ((hb56.trans (hb67.mono hb56.size)).mono hw5.size)
  clear hw7 Hst1 Hst2 es et ee'
  go_wp2_with fail
  refine (refBuild_uni x a1 c1 w7 hlm1 (hi1.below hw7' (Nat.le_refl _)) hf1).mono ?_
  rintro e w8 ⟨v8, rfl, ho8, hb8⟩
  have hw8 := hw7'.trans (hb8.mono hw7'.size)
  go_wp2_with fail
  refine (refBuild_uni y a2 c2 w8 hlm2 (hi2.below hw8 (Nat.le_refl _)) hf2).mono ?_
  rintro e w9 ⟨v9, rfl, ho9, hb9⟩
  have hw9 := hw8.trans (hb9.mono hw8.size)
  obtain ⟨a8, c8, rfl, ht8, -, -⟩ := ho8.texts
  obtain ⟨a9, c9, rfl, ht9, -, -⟩ := ho9.texts
  have ht8' := ht8.below hb9 (Nat.le_refl _)
  have hlen8 := outOf_len x
  have hlen9 := outOf_len y
  have Hsm8 := hide (outOf_small x)
  have Hsm9 := hide (outOf_small y)
  have He := hide (show clashErr x y = if errOf x ≠ 0 then errOf x else if errOf y ≠ 0 then errOf y else if sameP x y = true ∨ rootOf x ≠ rootOf y then 11 else 0 from rfl)
  clear ho8 ho9 ht8
  generalize errOf x = ex at *
  generalize errOf y = ey at *
  generalize rootOf x = rx at *
  generalize rootOf y = ry at *
  by_cases hx0 : ex = 0
  · subst hx0
    by_cases hy0 : ey = 0
    · subst hy0
      go_wp2_with fail
      refine (same_any x y a1 a2 c1 c2 w9 hlm1 hlm2 (hi1.below hw9 (Nat.le_refl _)) (hi2.below hw9 (Nat.le_refl _))).mono ?_
      rintro e w10 ⟨rfl, n10, hw10⟩
      have hb910 : Below w9.heap.size w9 w10 := by rw [hw10]; exact below_drewN (Below.refl _ _) _
      have hwa := hw9.trans (hb910.mono hw9.size)
      have hta := ht8'.below hb910 (Nat.le_refl _)
      have htb := ht9.below hb910 (Nat.le_refl _)
      clear hw10
      generalize sameP x y = sm at *
      have hrr := str_eq2 rx ry
      by_cases hbad : sm = true ∨ rx ≠ ry
      · have Hce := hide (show ee = 11 ∧ s = [] ∧ t = [] by
          have h1 := (unhide Hcl).err
          have h2 := (unhide Hcl).none
          simp only at h1 h2
          rw [unhide He, if_neg (by simp), if_neg (by simp), if_pos hbad] at h1
          exact ⟨h1, h2 (by rw [h1]; decide)⟩)
        obtain ⟨he1, hs1, ht1⟩ := unhide Hce
        subst he1 hs1 ht1
        have g2 : ((bs ([] : List UInt8)).toList.isEmpty) = true := by rw [ByteArray.toList_eq, bs_data]; rfl
        clear Hcl He Hce
        cases sm with
        | true =>
          go_wp2_with fail
          go_ret
          exact ⟨rfl, hwa⟩
        | false =>
          have hne : rx ≠ ry := by simpa using hbad
          have g3 : ((bs rx).toList == (bs ry).toList) = false := by rw [hrr]; simpa using hne
          clear hrr hbad hne
          go_wp2_with fail
          go_ret
          exact ⟨rfl, hwa⟩
      · have hsm : sm = false := by
          cases sm with
          | false => rfl
          | true => exact absurd (.inl rfl) hbad
        subst hsm
        have hre : rx = ry := Classical.byContradiction fun h => hbad (.inr h)
        have Hce := hide (show ee = 0 ∧ s ≠ t ∧ s ∈ outOf x ∧ t ∈ outOf y ∧ P.digest s = P.digest t by
          have h1 := (unhide Hcl).err
          have h2 := (unhide Hcl).some
          simp only at h1 h2
          rw [unhide He, if_neg (by simp), if_neg (by simp), if_neg hbad] at h1
          exact ⟨h1, h2 h1⟩)
        obtain ⟨he1, hst, hsx, hty, hdg⟩ := unhide Hce
        subst he1
        have g3 : ((bs rx).toList == (bs ry).toList) = true := by rw [hrr]; simpa using hre
        have g4 : ((bs s).toList == (bs t).toList) = false := by rw [str_eq2]; simpa using hst
        have hss := unhide Hsm8 s hsx
        have htt := unhide Hsm9 t hty
        have m1 : (outOf x).any (· == s) = true := by rw [List.any_eq_true]; exact ⟨s, hsx, by simp⟩
        have m2 : (outOf y).any (· == t) = true := by rw [List.any_eq_true]; exact ⟨t, hty, by simp⟩
        have g5 : ((bs (P.digest s)).toList == (bs (P.digest t)).toList) = true := by rw [str_eq2]; simpa using hdg
        have M1 := hide m1
        have M2 := hide m2
        clear Hcl He Hce hrr hbad hre hst hsx hty hdg m1 m2 Hsm8 Hsm9
        generalize outOf x = ox at *
        generalize outOf y = oy at *
        go_wp2_with fail
        refine (oneOf_any s ox a8 c8 w10 (by unfold maxLen; omega) hta).mono ?_
        rintro e w11 ⟨rfl, hw11⟩
        subst hw11
        rw [unhide M1]
        go_wp2_with fail
        refine (oneOf_any t oy a9 c9 w11 (by unfold maxLen; omega) htb).mono ?_
        rintro e w12 ⟨rfl, hw12⟩
        subst hw12
        rw [unhide M2]
        go_wp2_with fail
        refine (refDigest_bs s w12 (by omega)).mono ?_
        rintro e w13 ⟨rfl, n13, hw13⟩
        have hw13' : Below w.heap.size w w13 := by rw [hw13]; exact below_drewN hwa _
        clear hw13
        go_wp2_with fail
        refine (refDigest_bs t w13 (by omega)).mono ?_
        rintro e w14 ⟨rfl, n14, hw14⟩
        have hw14' : Below w.heap.size w w14 := by rw [hw14]; exact below_drewN hw13' _
        clear hw14
        go_wp2_with fail
        go_ret
        exact ⟨rfl, hw14'⟩
    · have Hce := hide (show ee = ey ∧ s = [] ∧ t = [] by
        have h1 := (unhide Hcl).err
        have h2 := (unhide Hcl).none
        simp only at h1 h2
        rw [unhide He, if_neg (by simp), if_pos hy0] at h1
        exact ⟨h1, h2 (by rw [h1]; exact hy0)⟩)
      obtain ⟨he1, hs1, ht1⟩ := unhide Hce
      subst he1 hs1 ht1
      have g1 : (ee == 0) = false := by simpa using hy0
      have g2 : ((bs ([] : List UInt8)).toList.isEmpty) = true := by rw [ByteArray.toList_eq, bs_data]; rfl
      have g3 : (ee != 0) = true := by simpa using hy0
      clear Hcl He Hce
      go_wp2_with fail
      go_ret
      exact ⟨rfl, hw9⟩
  · have Hce := hide (show ee = ex ∧ s = [] ∧ t = [] by
      have h1 := (unhide Hcl).err
      have h2 := (unhide Hcl).none
      simp only at h1 h2
      rw [unhide He, if_pos hx0] at h1
      exact ⟨h1, h2 (by rw [h1]; exact hx0)⟩)
    obtain ⟨he1, hs1, ht1⟩ := unhide Hce
    subst he1 hs1 ht1
    have g1 : (ee == 0) = false := by simpa using hx0
    have g2 : ((bs ([] : List UInt8)).toList.isEmpty) = true := by rw [ByteArray.toList_eq, bs_data]; rfl
    have g3 : (ee != 0) = true := by simpa using hx0
    clear Hcl He Hce
    go_wp2_with fail
    go_ret
    exact ⟨rfl, hw9⟩
end Go.Proofs.YtbfjbohdiemofaaGreatDoor
