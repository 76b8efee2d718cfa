import Derived.Test.YtjmacegibchplaaGreatDoorClaP
import Derived.Test.YtjmacegibchplaaGreatDoorRows
import Derived.Test.YtjmacegibchplaaGreatDoorTreeC
import Derived.Test.YtjmacegibchplaaGreatDoorCardA
import Derived.Test.YtjmacegibchplaaGreatDoorClaS
import Derived.ShutString
/-
  The statement on Clash: the walk.
-/
namespace Go.Proofs.YtjmacegibchplaaGreatDoor
open Go.RowKit
set_option linter.unusedVariables false

set_option maxRecDepth 100000 in
set_option maxHeartbeats 2000000 in
theorem clashes_law {G : World → Prop} (hS : Stays G) {cl : List En → List En → List UInt8 × List UInt8 × Int} (hP : ProgClash G cl) (x y : List En) (a1 a2 : Option Addr) (c1 c2 : Nat) (w : World) (hG : G w) (hl1 : x.length * 40 ≤ 140737488351232) (hl2 : y.length * 40 ≤ 140737488351232)
    (hi1 : LiesE w a1 x) (hi2 : LiesE w a2 y) (hn1 : a1 = none → x = [] ∧ c1 = 0) (hn2 : a2 = none → y = [] ∧ c2 = 0) (hf1 : TFit x) (hf2 : TFit y) :
    Calls Tryz.prog 4 #[.slice a1 x.length c1, .slice a2 y.length c2] w fun e w' => e = .returned (.bool true) ∧ Below w.heap.size w w' := by
  have hlm1 : x.length ≤ maxLen := by unfold maxLen; omega
  have hlm2 : y.length ≤ maxLen := by unfold maxLen; omega
  have Hcl := hide (hP.1 x y hf1 hf2)
  go_enter Tryz.func4, Tryz.ntmps4
  go_wp2_with fail
  have hza : EntsAt ((w.alloc (.cells #[.string ⟨#[102]⟩, .int .i64 1, .string ⟨#[48, 5]⟩] 32)).alloc (.cells #[.string ⟨#[102]⟩, .int .i64 1, .string ⟨#[63, 153]⟩] 32)) w.heap.size 0 cla := by
    intro i hi
    have hz := (Below.heap_alloc (w.alloc (.cells #[.string ⟨#[102]⟩, .int .i64 1, .string ⟨#[48, 5]⟩] 32)) (.cells #[.string ⟨#[102]⟩, .int .i64 1, .string ⟨#[63, 153]⟩] 32) w.heap.size (by simp)).trans (heap_alloc_new w _)
    match i, hi with
    | 0, _ => exact ⟨cell_of_block hz, cell_of_block hz, cell_of_block hz⟩
  have hzb : EntsAt ((w.alloc (.cells #[.string ⟨#[102]⟩, .int .i64 1, .string ⟨#[48, 5]⟩] 32)).alloc (.cells #[.string ⟨#[102]⟩, .int .i64 1, .string ⟨#[63, 153]⟩] 32)) (w.heap.size + 1) 0 clb := by
    intro i hi
    have hz := heap_alloc_new (w.alloc (.cells #[.string ⟨#[102]⟩, .int .i64 1, .string ⟨#[48, 5]⟩] 32)) (.cells #[.string ⟨#[102]⟩, .int .i64 1, .string ⟨#[63, 153]⟩] 32)
    rw [show (w.alloc (.cells #[.string ⟨#[102]⟩, .int .i64 1, .string ⟨#[48, 5]⟩] 32)).heap.size = w.heap.size + 1 by simp] at hz
    match i, hi with
    | 0, _ => exact ⟨cell_of_block hz, cell_of_block hz, cell_of_block hz⟩
  have hbW : Below w.heap.size w ((w.alloc (.cells #[.string ⟨#[102]⟩, .int .i64 1, .string ⟨#[48, 5]⟩] 32)).alloc (.cells #[.string ⟨#[102]⟩, .int .i64 1, .string ⟨#[63, 153]⟩] 32)) := ((Below.refl _ _).alloc (Nat.le_refl _) _).alloc (by simp) _
  refine (hP.2 cla clb (some ⟨w.heap.size, 0, none⟩) (some ⟨w.heap.size + 1, 0, none⟩) 1 1 _ (hS _ _ hG hbW) (by decide) (by decide) (.inr ⟨_, _, rfl, hza⟩) (.inr ⟨_, _, rfl, hzb⟩) (cl_fit _ rfl) (cl_fit _ rfl)).mono ?_
  rintro e w1 ⟨rfl, hb1⟩
  rw [cl_first hP]
  have hw1 := hbW.trans (hb1.mono hbW.size)
  clear hza hzb hbW hb1
  have hs1 : ((bs [48, 5]).toList == [48, 5]) = true := by rw [str_eq]; rfl
  have hs2 : ((bs [63, 153]).toList == [63, 153]) = true := by rw [str_eq]; rfl
  simp only
  go_wp2_with fail
  refine (entriesOf_any x a1 c1 w1 hl1 (hi1.below hw1 (Nat.le_refl _)) hn1).mono ?_
  rintro e w2 ⟨a3, c3, rfl, hi3, hb2, hst1⟩
  have hw2 := hw1.trans (hb2.mono hw1.size)
  have Hst1 := hide hst1
  clear hst1 hs1 hs2
  go_wp2_with fail
  refine (entriesOf_any y a2 c2 w2 hl2 (hi2.below hw2 (Nat.le_refl _)) hn2).mono ?_
  rintro e w3 ⟨a4, c4, rfl, hi4, hb3, hst2⟩
  have hw3 := hw2.trans (hb3.mono hw2.size)
  have Hst2 := hide hst2
  clear hst2
  have hi33 := hi3.below hb3 (Nat.le_refl _)
  go_wp2_with fail
  refine (hP.2 x y a3 a4 c3 c4 w3 (hS _ _ hG hw3) hlm1 hlm2 hi33 hi4 hf1 hf2).mono ?_
  rintro e w4 ⟨rfl, hb4⟩
  have hw4 := hw3.trans (hb4.mono hw3.size)
  generalize hcr : cl x y = r at *
  have Hcr := hide hcr
  clear hcr
  obtain ⟨s, t, ee⟩ := r
  simp only
  go_wp2_with fail
  refine (hP.2 x y a3 a4 c3 c4 w4 (hS _ _ hG hw4) hlm1 hlm2 (hi33.below hb4 (Nat.le_refl _)) (hi4.below hb4 (Nat.le_refl _)) hf1 hf2).mono ?_
  rintro e w5 ⟨rfl, hb5⟩
  have hw5 := hw4.trans (hb5.mono hw4.size)
  have hb45 := hb4.trans (hb5.mono hb4.size)
  have hb25 := hb3.trans (hb45.mono hb3.size)
  rw [unhide Hcr]
  simp only
  have es : ((bs s).toList == (bs s).toList) = true := by simp
  have et : ((bs t).toList == (bs t).toList) = true := by simp
  have ee' : (ee == ee) = true := by simp
  go_wp2_with fail
  refine (unhide Hst1 w5 hb25).mono ?_
  rintro e w6 ⟨rfl, n6, hw6⟩
  have hb56 : Below w5.heap.size w5 w6 := by rw [hw6]; exact below_drewN (Below.refl _ _) _
  clear hw6
  go_wp2_with fail
  refine (unhide Hst2 w6 (hb45.trans (hb56.mono hb45.size))).mono ?_
  rintro e w7 ⟨rfl, n7, hw7⟩
  have hb67 : Below w6.heap.size w6 w7 := by rw [hw7]; exact below_drewN (Below.refl _ _) _
  have hw7' := hw5.trans ((hb56.trans (hb67.mono hb56.size)).mono hw5.size)
  clear hw7 Hst1 Hst2 es et ee'
  go_wp2_with fail
  refine (refBuild_uni x a1 c1 w7 hlm1 (hi1.below hw7' (Nat.le_refl _)) hf1).mono ?_
  rintro e w8 ⟨v8, rfl, ho8, hb8⟩
  have hw8 := hw7'.trans (hb8.mono hw7'.size)
  go_wp2_with fail
  refine (refBuild_uni y a2 c2 w8 hlm2 (hi2.below hw8 (Nat.le_refl _)) hf2).mono ?_
  rintro e w9 ⟨v9, rfl, ho9, hb9⟩
  have hw9 := hw8.trans (hb9.mono hw8.size)
  obtain ⟨a8, c8, rfl, ht8, -, -⟩ := ho8.texts
  obtain ⟨a9, c9, rfl, ht9, -, -⟩ := ho9.texts
  have ht8' := ht8.below hb9 (Nat.le_refl _)
  have hlen8 := outOf_len x
  have hlen9 := outOf_len y
  have Hsm8 := hide (outOf_small x)
  have Hsm9 := hide (outOf_small y)
  have He := hide (show clashErr x y = if errOf x ≠ 0 then errOf x else if errOf y ≠ 0 then errOf y else if sameP x y = true ∨ rootOf x ≠ rootOf y then 11 else 0 from rfl)
  clear ho8 ho9 ht8
  generalize errOf x = ex at *
  generalize errOf y = ey at *
  generalize rootOf x = rx at *
  generalize rootOf y = ry at *
  by_cases hx0 : ex = 0
  · subst hx0
    by_cases hy0 : ey = 0
    · subst hy0
      go_wp2_with fail
      refine (same_any x y a1 a2 c1 c2 w9 hlm1 hlm2 (hi1.below hw9 (Nat.le_refl _)) (hi2.below hw9 (Nat.le_refl _))).mono ?_
      rintro e w10 ⟨rfl, n10, hw10⟩
      have hb910 : Below w9.heap.size w9 w10 := by rw [hw10]; exact below_drewN (Below.refl _ _) _
      have hwa := hw9.trans (hb910.mono hw9.size)
      have hta := ht8'.below hb910 (Nat.le_refl _)
      have htb := ht9.below hb910 (Nat.le_refl _)
      clear hw10
      generalize sameP x y = sm at *
      have hrr := str_eq2 rx ry
      by_cases hbad : sm = true ∨ rx ≠ ry
      · have Hce := hide (show ee = 11 ∧ s = [] ∧ t = [] by
          have h1 := (unhide Hcl).err
          have h2 := (unhide Hcl).none
          simp only at h1 h2
          rw [unhide He, if_neg (by simp), if_neg (by simp), if_pos hbad] at h1
          exact ⟨h1, h2 (by rw [h1]; decide)⟩)
        obtain ⟨he1, hs1, ht1⟩ := unhide Hce
        subst he1 hs1 ht1
        have g2 : ((bs ([] : List UInt8)).toList.isEmpty) = true := by rw [ByteArray.toList_eq, bs_data]; rfl
        clear Hcl He Hce
        cases sm with
        | true =>
          go_wp2_with fail
          go_ret
          exact ⟨rfl, hwa⟩
        | false =>
          have hne : rx ≠ ry := by simpa using hbad
          have g3 : ((bs rx).toList == (bs ry).toList) = false := by rw [hrr]; simpa using hne
          clear hrr hbad hne
          go_wp2_with fail
          go_ret
          exact ⟨rfl, hwa⟩
      · have hsm : sm = false := by
          cases sm with
          | false => rfl
          | true => exact absurd (.inl rfl) hbad
        subst hsm
        have hre : rx = ry := Classical.byContradiction fun h => hbad (.inr h)
        have Hce := hide (show ee = 0 ∧ s ≠ t ∧ s ∈ outOf x ∧ t ∈ outOf y ∧ P.digest s = P.digest t by
          have h1 := (unhide Hcl).err
          have h2 := (unhide Hcl).some
          simp only at h1 h2
          rw [unhide He, if_neg (by simp), if_neg (by simp), if_neg hbad] at h1
          exact ⟨h1, h2 h1⟩)
        obtain ⟨he1, hst, hsx, hty, hdg⟩ := unhide Hce
        subst he1
        have g3 : ((bs rx).toList == (bs ry).toList) = true := by rw [hrr]; simpa using hre
        have g4 : ((bs s).toList == (bs t).toList) = false := by rw [str_eq2]; simpa using hst
        have hss := unhide Hsm8 s hsx
        have htt := unhide Hsm9 t hty
        have m1 : (outOf x).any (· == s) = true := by rw [List.any_eq_true]; exact ⟨s, hsx, by simp⟩
        have m2 : (outOf y).any (· == t) = true := by rw [List.any_eq_true]; exact ⟨t, hty, by simp⟩
        have g5 : ((bs (P.digest s)).toList == (bs (P.digest t)).toList) = true := by rw [str_eq2]; simpa using hdg
        have M1 := hide m1
        have M2 := hide m2
        clear Hcl He Hce hrr hbad hre hst hsx hty hdg m1 m2 Hsm8 Hsm9
        generalize outOf x = ox at *
        generalize outOf y = oy at *
        go_wp2_with fail
        refine (oneOf_any s ox a8 c8 w10 (by unfold maxLen; omega) hta).mono ?_
        rintro e w11 ⟨rfl, hw11⟩
        subst hw11
        rw [unhide M1]
        go_wp2_with fail
        refine (oneOf_any t oy a9 c9 w11 (by unfold maxLen; omega) htb).mono ?_
        rintro e w12 ⟨rfl, hw12⟩
        subst hw12
        rw [unhide M2]
        go_wp2_with fail
        refine (refDigest_bs s w12 (by omega)).mono ?_
        rintro e w13 ⟨rfl, n13, hw13⟩
        have hw13' : Below w.heap.size w w13 := by rw [hw13]; exact below_drewN hwa _
        clear hw13
        go_wp2_with fail
        refine (refDigest_bs t w13 (by omega)).mono ?_
        rintro e w14 ⟨rfl, n14, hw14⟩
        have hw14' : Below w.heap.size w w14 := by rw [hw14]; exact below_drewN hw13' _
        clear hw14
        go_wp2_with fail
        go_ret
        exact ⟨rfl, hw14'⟩
    · have Hce := hide (show ee = ey ∧ s = [] ∧ t = [] by
        have h1 := (unhide Hcl).err
        have h2 := (unhide Hcl).none
        simp only at h1 h2
        rw [unhide He, if_neg (by simp), if_pos hy0] at h1
        exact ⟨h1, h2 (by rw [h1]; exact hy0)⟩)
      obtain ⟨he1, hs1, ht1⟩ := unhide Hce
      subst he1 hs1 ht1
      have g1 : (ee == 0) = false := by simpa using hy0
      have g2 : ((bs ([] : List UInt8)).toList.isEmpty) = true := by rw [ByteArray.toList_eq, bs_data]; rfl
      have g3 : (ee != 0) = true := by simpa using hy0
      clear Hcl He Hce
      go_wp2_with fail
      go_ret
      exact ⟨rfl, hw9⟩
  · have Hce := hide (show ee = ex ∧ s = [] ∧ t = [] by
      have h1 := (unhide Hcl).err
      have h2 := (unhide Hcl).none
      simp only at h1 h2
      rw [unhide He, if_pos hx0] at h1
      exact ⟨h1, h2 (by rw [h1]; exact hx0)⟩)
    obtain ⟨he1, hs1, ht1⟩ := unhide Hce
    subst he1 hs1 ht1
    have g1 : (ee == 0) = false := by simpa using hx0
    have g2 : ((bs ([] : List UInt8)).toList.isEmpty) = true := by rw [ByteArray.toList_eq, bs_data]; rfl
    have g3 : (ee != 0) = true := by simpa using hx0
    clear Hcl He Hce
    go_wp2_with fail
    go_ret
    exact ⟨rfl, hw9⟩
end Go.Proofs.YtjmacegibchplaaGreatDoor

/-
  A list of entries that comes in and is of bounded bulk: its paths and data are.
-/
namespace Go.Proofs.YtjmacegibchplaaGreatDoor
open Go.RowKit
set_option linter.unusedVariables false

theorem bulk_pos {H : Type} (d : DataW H) : 0 < Rows.uptoBulk d := by
  unfold Rows.uptoBulk
  split <;> omega
theorem bulk_len {H : Type} : ∀ l : List (DataW H), l.length ≤ Rows.uptoBulkAll l
  | [] => Nat.zero_le _
  | d :: l => by
    have h1 := bulk_pos d
    have h2 := bulk_len l
    rw [Rows.uptoBulkAll, List.length_cons]
    omega
theorem bulk_part {H : Type} {d : DataW H} {l : List (DataW H)} (h : d ∈ l) : Rows.uptoBulk d ≤ Rows.uptoBulkAll l := by
  obtain ⟨r, t, rfl⟩ := List.append_of_mem h
  clear h
  induction r with
  | nil => rw [List.nil_append, Rows.uptoBulkAll]; omega
  | cons e r ih => rw [List.cons_append, Rows.uptoBulkAll]; omega
set_option maxRecDepth 100000 in
theorem open_entryB {H : Type} {enc : TypeId × Value → H} {W : World} {base : Nat} {sp : Nat → Bool} {held : Bool} {fuel : Nat} {cs : List Value} {x : DataW H × List MemPlace}
    (h : DataW.trod enc Tryz.prog W base sp held fuel 32 cs = some x) : ∃ y : En, cs = enCells y ∧ EFits y ∧ y.path.size + y.data.size ≤ Rows.uptoBulk x.1 := by
  obtain ⟨xs, n, _, rfl, hl, hlen, hf⟩ := DataW.trod_struct Tryz.underlying32 h
  rw [cells_ent] at hl
  match cs, hl with
  | [v0, v1, v2], _ =>
    have h0 : DataW.trod enc Tryz.prog W base sp held n 9 (([v0, v1, v2].drop 0).take (Tryz.prog.cellsOf 9)) = xs[0]? := hf 0 _ rfl
    have h1 : DataW.trod enc Tryz.prog W base sp held n 3 (([v0, v1, v2].drop 1).take (Tryz.prog.cellsOf 3)) = xs[1]? := hf 1 _ rfl
    have h2 : DataW.trod enc Tryz.prog W base sp held n 9 (([v0, v1, v2].drop 2).take (Tryz.prog.cellsOf 9)) = xs[2]? := hf 2 _ rfl
    rw [cells_str] at h0 h2
    rw [cells_int] at h1
    match xs, hlen with
    | [y0, y1, y2], _ =>
      obtain ⟨s0, e0, r0, z0⟩ := DataW.trod_string Tryz.underlying9 h0
      obtain ⟨s1, e1, r1, z1⟩ := DataW.trod_int Tryz.underlying3 h1
      obtain ⟨s2, e2, r2, z2⟩ := DataW.trod_string Tryz.underlying9 h2
      simp at e0 e1 e2
      subst e0 e1 e2
      subst r0 r2
      refine ⟨⟨s0, s1, s2⟩, rfl, ⟨z0, z2⟩, ?_⟩
      simp only [List.map_cons, List.map_nil, Rows.uptoBulk, Rows.uptoBulkAll, Array.length_toList]
      show s0.data.size + s2.data.size ≤ _
      omega
set_option maxRecDepth 100000 in
theorem open_entriesB {H : Type} {enc : TypeId × Value → H} {W : World} {base : Nat} {sp : Nat → Bool} {held : Bool} {fuel : Nat} {a : Option Addr} {len cap : Nat} {x : DataW H × List MemPlace}
    (h : DataW.trod enc Tryz.prog W base sp held fuel 22 [.slice a len cap] = some x) (hk : Rows.uptoBulk x.1 ≤ 1048576) :
    ∃ l : List En, l.length = len ∧ LiesE W a l ∧ TFit l ∧ len ≤ 1048576 ∧ (a = none → l = [] ∧ cap = 0) := by
  rcases Deep.open_slice Tryz.underlying22 h with ⟨hcs, rfl⟩ | ⟨ad, len', cap', m, n, D, Pl, hcs, _, hl, hm, hmm, rfl, hel⟩
  · simp at hcs
    obtain ⟨rfl, rfl, rfl⟩ := hcs
    exact ⟨[], rfl, .inl rfl, fun i hi => absurd hi (by simp), by decide, fun _ => ⟨rfl, rfl⟩⟩
  · simp at hcs
    obtain ⟨rfl, rfl, rfl⟩ := hcs
    have hlm : len ≤ m := by rw [hmm]; split <;> omega
    simp only [Rows.uptoBulk] at hk
    have hln := bulk_len ((List.range len).map D)
    rw [List.length_map, List.length_range] at hln
    have hex : ∀ i, i < len → ∃ y : En, (EFits y ∧ y.path.size + y.data.size ≤ 1048576) ∧ ∀ j v, (enCells y)[j]? = some v → W.cell? ((ad.add (i * 3)).add j) = some v := by
      intro i hi
      obtain ⟨cs', hc, ht⟩ := hel i (by omega)
      obtain ⟨y, rfl, hy, hb⟩ := open_entryB ht
      rw [cells_ent] at hc
      obtain ⟨_, hlen, hcc⟩ := World.cells?_some hc
      have hp := bulk_part (d := D i) (l := (List.range len).map D) (List.mem_map.2 ⟨i, by simpa using hi, rfl⟩)
      simp only at hb
      refine ⟨y, ⟨hy, by omega⟩, fun j v hv => ?_⟩
      have hj : j < 3 := (List.getElem?_eq_some_iff.1 hv).1
      rw [← hv]
      exact hcc j hj
    obtain ⟨l, hll, hp⟩ := list_choose hex
    refine ⟨l, hll, ?_, fun i hi => ⟨by have := (hp i hi).1.2; omega, (hp i hi).1.1.data⟩, by omega, fun h => by simp at h⟩
    rcases Nat.eq_zero_or_pos len with h0 | hpos
    · left; exact List.eq_nil_of_length_eq_zero (by omega)
    · right
      obtain ⟨b, o, spot⟩ := ad
      have hc := (hp 0 (by omega)).2 0 _ rfl
      have hspot : spot = none := by simpa [Addr.add] using World.cell?_spot hc
      subst hspot
      refine ⟨b, o, rfl, EntsAt.of_row ?_⟩
      intro i hi j v hv
      have := (hp i hi).2 j v hv
      rw [add_off, add_off] at this
      exact this
end Go.Proofs.YtjmacegibchplaaGreatDoor

/-
  What is proved: the second form's card of the statement on Clash: for every two lists of entries (with what the row lists held by the library's two tables, tied to the program's text by the given tie), where all that is read is of bulk at most 1048576, Clashes returns true and leaves its arguments as they were.
-/
namespace Go.Proofs.YtjmacegibchplaaGreatDoor.clashes
open Go.ChangeShapes Go.WideShapes Go.ChangeAt Go.RowKit
set_option linter.unusedVariables false

set_option maxRecDepth 100000 in
theorem laid_met2 (os : Os) : laidMet Tryz.prog Rows.clashesUptoRow.laid ((laidIn (World.holding Tryz.prog os ⟨#[], #[], []⟩)).forCall (fun _ _ => 0) ⟨#[], #[.slice none 0 0, .slice none 0 0], []⟩).memory :=
  laidMet_of_run' 8 (by kernel_rfl) (by kernel_rfl)
theorem reads (os : Os) {H : Type} (enc : TypeId × Value → H) : ∃ places, DataW.whole enc Tryz.prog ((laidIn (World.holding Tryz.prog os ⟨#[], #[], []⟩)).forCall (fun _ _ => 0) ⟨#[], #[.slice none 0 0, .slice none 0 0], []⟩).memory Tryz.f4.params.toList Rows.clashesSpec.vars false #[Value.slice none 0 0, Value.slice none 0 0].toList 8 = some ([.nil, .nil], [], places) :=
  ⟨[], by kernel_rfl⟩
set_option maxRecDepth 100000 in
theorem lifted (os : Os) (started : os.Started) (H : Type) (enc : TypeId × Value → H) (F : Stop.Interp) :
    ReturnsInHanded {} Tryz.checked os 4 .any ((Rows.OpenSpec.upto Rows.clashesSpec).preRow enc Tryz.prog Tryz.f4 Rows.clashesUptoRow.domain false Rows.clashesUptoRow.laid) (((Rows.OpenSpec.upto Rows.clashesSpec).at F).post enc Tryz.prog Tryz.f4 false true false false) := by
  obtain ⟨places, hx⟩ := reads os enc
  refine returnsInHanded_of_row (C := Tryz.checked) (s := Rows.OpenSpec.upto Rows.clashesSpec) own started (by kernel_rfl) Tryz.func4
    (witness_row_at (enc := enc) (C := Tryz.checked) false (laidIn (World.holding Tryz.prog os ⟨#[], #[], []⟩)) #[.slice none 0 0, .slice none 0 0] rfl (by kernel_rfl) (by kernel_rfl) (by kernel_rfl)
      (OpenSpec.preRow_of_cond 8 hx (by kernel_rfl) (fun k hk => by cases hk; kernel_rfl) (by kernel_rfl) (laid_met2 os))) ?_
  intro W base args ds gs before hval0 hW _ hcond _ hL hsh _
  have hG := glob_of_shape hsh
  have hk0 : Rows.uptoSmall H (ds ++ gs) = true := hcond _ rfl
  have hval : ∀ (j : Nat) t v, Tryz.f4.params[j]? = some t → args[j]? = some v → Value.okWide Tryz.prog W .any base t v := hval0
  have hW' := hW
  obtain ⟨p, q, hA0, hV, rfl, hfz, hnd⟩ := hW
  have hA : DataW.TrodAll enc Tryz.prog W 0 (fun _ => true) true Tryz.f4.params.toList args.toList ds p := hA0
  rw [Tryz.params4] at hA hval
  obtain ⟨v0, vs0, d0, ds0, p0, q0, hargs, rfl, rfl, h0, r0⟩ := trodAll_cons hA
  obtain ⟨v1, vs1, d1, ds1, p1, q1, hargs1, rfl, rfl, h1, r1⟩ := trodAll_cons r0
  obtain ⟨rfl, rfl, rfl⟩ := trodAll_nil r1
  obtain rfl : args = #[v0, v1] := by cases args; simp_all
  obtain ⟨rfl, rfl⟩ := trodVars_none hV
  obtain ⟨a0, len0, cap0, rfl⟩ := okWide_slice Tryz.underlying22 (hval 0 22 v0 rfl rfl)
  obtain ⟨a1, len1, cap1, rfl⟩ := okWide_slice Tryz.underlying22 (hval 1 22 v1 rfl rfl)
  have k0 := h0
  have k1 := h1
  have lt0 : ∀ x ∈ p0, x.block < W.heap.size := by obtain ⟨m, hm⟩ := k0; exact DataW.trod_lt m _ _ _ hm
  have lt1 : ∀ x ∈ p1, x.block < W.heap.size := by obtain ⟨m, hm⟩ := k1; exact DataW.trod_lt m _ _ _ hm
  have hk : Rows.uptoBulk d0 ≤ 1048576 ∧ Rows.uptoBulk d1 ≤ 1048576 := by
    have h := of_decide_eq_true hk0
    simp only [List.append_nil, Rows.uptoBulkAll] at h
    omega
  obtain ⟨fuel, hf⟩ := h0
  obtain ⟨fuel1, hf1⟩ := h1
  obtain ⟨l, hl, hlies, hfit, hlen, hnone⟩ := open_entriesB hf hk.1
  obtain ⟨l1, hl1, hlies1, hfit1, hlen1, hnone1⟩ := open_entriesB hf1 hk.2
  subst hl hl1
  clear hA0 hval0 hk0 hcond hL hsh
  refine (clashes_law glob_stays progClash l l1 a0 a1 cap0 cap1 W hG (by omega) (by omega) hlies hlies1 hnone hnone1 hfit hfit1).mono fun e W' ⟨he, bel⟩ => ?_
  subst he
  exact ⟨_, rfl, _, _, _, [], _, [], hW', trodAll_mk1 (shut_bool Tryz.underlying4 _), (trodAll_cons_mk (Below.trod laidOut (by kernel_rfl) (of_decide_eq_true (by kernel_rfl)) k0 bel lt0) (trodAll_cons_mk (Below.trod laidOut (by kernel_rfl) (of_decide_eq_true (by kernel_rfl)) k1 bel lt1) trodAll_mk0)), rfl, bel.frame _, fun h => by cases h⟩
theorem said : Rows.ClashesUptoSaid :=
  OpenClaim.holds_of_cond 4 Tryz.f4 rfl rfl rfl rfl rfl rfl rfl ⟨rfl, rfl, rfl, rfl, rfl⟩ rfl rfl rfl rfl rfl (by kernel_rfl) Tryz.func4 (by kernel_rfl)
    (of_decide_eq_true (by kernel_rfl)) (by unfold Func.isWrapper; first | (rw [if_pos (by decide +kernel)]; kernel_rfl) | (rw [if_neg (by decide +kernel)]; exact ⟨rfl, rfl⟩))
    (fun os started H enc _ F => by rw [OpenClaim.pre_eq_preRow]; exact lifted os started H enc F)
theorem plain (f : FuncId) (fn : Func) (hf : Tryz.pinned.checked.prog.funcNamed "cellar/cellarlaw.Clashes" = some f) (hfn : Tryz.pinned.checked.prog.funcs[f]? = some fn) :
    false = Tryz.pinned.checked.prog.looks [] ∧ ∀ (j : Nat) t, fn.params[j]? = some t → Tryz.pinned.checked.prog.wantsStandIn t = false := by
  obtain rfl : f = 4 := Option.some.inj ((show Tryz.prog.funcNamed "cellar/cellarlaw.Clashes" = some 4 by kernel_rfl).symm.trans hf) |>.symm
  obtain rfl : fn = Tryz.f4 := (Option.some.inj (Tryz.func4.symm.trans hfn)).symm
  refine ⟨by kernel_rfl, fun j t ht => ?_⟩
  rw [Tryz.params4] at ht
  obtain rfl : t = 22 := by simpa using Array.mem_of_getElem? ht
  exact (show Tryz.prog.wantsStandIn 22 = false by kernel_rfl)
end Go.Proofs.YtjmacegibchplaaGreatDoor.clashes
namespace Go.Proofs.YtjmacegibchplaaGreatDoor
/-- THE CARD -/
theorem clashes_upto_card : Rows.ClashesUptoCardSaid :=
  Claim7.holds_tied_plain_at .later [] _ _ _ _ clashes.said (fun _ h => by cases h) (by kernel_rfl) (fun _ h => by cases h) clashesUpto_row_tie rfl ⟨rfl, rfl⟩ (by kernel_rfl) rfl clashes.plain (by kernel_rfl)
#print axioms clashes_upto_card
end Go.Proofs.YtjmacegibchplaaGreatDoor
