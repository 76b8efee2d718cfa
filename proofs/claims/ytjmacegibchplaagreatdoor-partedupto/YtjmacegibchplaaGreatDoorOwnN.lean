import Derived.Test.YtjmacegibchplaaGreatDoorParP
import Derived.Test.YtjmacegibchplaaGreatDoorClaQ
import Derived.Test.YtjmacegibchplaaGreatDoorKeepE
import Derived.Test.YtjmacegibchplaaGreatDoorUpA
import Derived.Test.YtjmacegibchplaaGreatDoorLnB
import Derived.Test.YtjmacegibchplaaGreatDoorTreeD
/-
  The statement on two trees of one root (Parted): its body.
-/
namespace Go.Proofs.YtjmacegibchplaaGreatDoor
open Go.RowKit Go.Maps Go.WideMaps
set_option linter.unusedVariables false

theorem keepTwo (w : World) : Calls Tryz.prog 32 #[] w fun e w' => e = .returned (.tuple #[.string ⟨#[48, 5]⟩, .string ⟨#[63, 153]⟩]) ∧ w' = w := by
  go_enter Tryz.func32, Tryz.ntmps32
  go_wp2_with fail
  go_ret2
  exact ⟨rfl, rfl⟩
/-- a list of entries appended to an own one -/
theorem app_entries {w : World} {ops : Array Oper} {rest : List Oper} {o : Oper} {a : Act} {Q : Exit → Act → World → Prop} (hgd : o.guard = none) (s x : Operand)
    (ho : o.op = .call { callee := .builtin .append, args := #[s, x], argTypes := #[22, 22] }) (base : Nat) (v : Value) (l : List En) (hs : a.eval s = v) (hown : OwnsE w base v l)
    (ad : Option Addr) (y : List En) (c : Nat) (hx : a.eval x = .slice ad y.length c) (hn : ad = none → y = [] ∧ c = 0) (hy : LiesE w ad y)
    (hlen : l.length + y.length ≤ 1000000) (hbase : base ≤ w.heap.size)
    (h : ∀ v' w', OwnsE w' base v' (l ++ y) → w.grownBy w' v.ownBlock → wpList Tryz.prog ops Q rest (a.put o.dst v') w') : wpList Tryz.prog ops Q (o :: rest) a w := by
  obtain ⟨i0, hi, hz0, hz1, hz2⟩ := info_parts info_ent
  cases ad with
  | none =>
    obtain ⟨rfl, rfl⟩ := hn rfl
    refine wpList_append_own_none hgd s x 22 ho base 32 i0 3 Tryz.underlying22 hi v l.length (rowCells enCells l) hs hown hx ?_
    exact h v w (by rw [List.append_nil]; exact hown) ⟨rfl, rfl, rfl, Nat.le_refl _, fun _ _ _ => rfl⟩
  | some ad =>
    refine wpList_append_own w hgd s x 22 ho base 32 i0 _ 3 40 Tryz.underlying22 hi hz0 hz1 hz2 rfl (by decide) v l.length (rowCells enCells l) hs hown ad y.length c (rowCells enCells y) hx (rowCells_length (n := 3) enCells_len y) hy.src (enCells_one y) (by unfold maxLen; omega) (by omega) hbase ?_
    intro v' w' h2 h3 _
    refine h v' w' ?_ h3
    unfold OwnsE
    rw [show rowCells enCells (l ++ y) = rowCells enCells l ++ rowCells enCells y by simp [rowCells], List.length_append]
    exact h2
theorem lies_take {w : World} {a : Option Addr} {l : List En} (h : LiesE w a l) (k : Nat) : LiesE w a (l.take k) := by
  rcases h with rfl | ⟨b, o, e, h⟩
  · left; simp
  · right
    refine ⟨b, o, e, fun i hi => ?_⟩
    have hi' : i < l.length := by simp at hi; omega
    rw [List.getElem_take]
    exact h i hi'
theorem own_more {w : World} {base e s n : Nat} {v : Value} {xs : List Value} (h : w.ownsRow base e s v n xs) : ∃ a c, v = .slice a n c ∧ n ≤ c ∧ (a = none → n = 0 ∧ c = 0) := by
  rcases h.2 with ⟨rfl, hx⟩ | ⟨g, cap, cur, rfl, hb, hgg, q1, q2, q3, q4⟩
  · obtain rfl : n = 0 := hx
    exact ⟨none, 0, rfl, Nat.le_refl _, fun _ => ⟨rfl, rfl⟩⟩
  · exact ⟨_, _, rfl, by first | exact q1 | exact q2, fun h => by simp at h⟩
theorem one_entry (W : World) (B : Nat) (x : List UInt8) (hB : B ≤ W.heap.size) : OwnsE (W.alloc (.cells #[.string ⟨#[48]⟩, .int .i64 1, .string (bs x)] 32)) B (.slice (some ⟨W.heap.size, 0, none⟩) 1 1) [zeroE x] :=
  ⟨rfl, .inr ⟨W.heap.size, 1, #[.string ⟨#[48]⟩, .int .i64 1, .string (bs x)], rfl, hB, heap_alloc_new W _, Nat.le_refl _, by decide, rfl, rfl⟩⟩
theorem out_facts {l : List En} (ht : Tree l) : (outOf l).length ≤ 41 ∧ ∀ x ∈ outOf l, x.length ≤ 73882 := by
  unfold outOf
  split
  · cases hb : builtP l with
    | none => simp
    | some out =>
      obtain ⟨_, _, h3, h4⟩ := built_facts ht hb
      exact ⟨h3, fun x hx => by have := bytes_mem out x hx; omega⟩
  · simp
theorem any_mem {l : List (List UInt8)} {x : List UInt8} (h : x ∈ l) : l.any (· == x) = true := by
  rw [List.any_eq_true]
  exact ⟨x, h, by simp⟩
set_option maxRecDepth 100000 in
set_option maxHeartbeats 8000000 in
theorem parted_law (hT : KeepTree) (raw : List Int) (texts : List (List UInt8)) (ahead behind : List UInt8) (ar : Option Addr) (cr : Nat) (at' : Option Addr) (ct : Nat) (w : World) (hg : GlobOk w)
    (hrl : raw.length ≤ 1100000) (htl : texts.length ≤ 1100000) (hal : ahead.length ≤ 1100000) (hbl : behind.length ≤ 1100000)
    (hir : IntsAt w ar raw) (hrb : ∀ r ∈ raw, -9223372036854775808 ≤ r ∧ r ≤ 9223372036854775807) (htx : TextsAt w at' texts) (hts : ∀ x ∈ texts, x.length ≤ 1100000) :
    Calls Tryz.prog 9 #[.slice ar raw.length cr, .slice at' texts.length ct, .string (bs ahead), .string (bs behind)] w fun e w' => e = .returned (.bool true) ∧ Below w.heap.size w w' := by
  have Hir := hide (And.intro hir hrb)
  have Htx := hide (And.intro htx hts)
  have HT := hide hT
  clear hT hir hrb htx hts
  have k1 := fun w' => keepCut ahead 20 w' (by omega) (by decide)
  have k2 := fun w' => keepCut behind 20 w' (by omega) (by decide)
  have z1 : (bs (ahead.take 20)).size ≤ 20 := by rw [bs_size]; exact List.length_take_le _ _
  have z2 : (bs (behind.take 20)).size ≤ 20 := by rw [bs_size]; exact List.length_take_le _ _
  have ad1 := add_ok (bs (ahead.take 20)) ⟨#[48, 5]⟩ (by omega) (by decide)
  have ad2 := add_ok (bs (ahead.take 20) ++ ⟨#[48, 5]⟩) (bs (behind.take 20)) (by rw [ByteArray.size_append]; have : (⟨#[48, 5]⟩ : ByteArray).size = 2 := rfl; omega) (by omega)
  have ad3 := add_ok (bs (ahead.take 20)) ⟨#[63, 153]⟩ (by omega) (by decide)
  have ad4 := add_ok (bs (ahead.take 20) ++ ⟨#[63, 153]⟩) (bs (behind.take 20)) (by rw [ByteArray.size_append]; have : (⟨#[63, 153]⟩ : ByteArray).size = 2 := rfl; omega) (by omega)
  have HX := hide (show bs (ahead.take 20) ++ ⟨#[48, 5]⟩ ++ bs (behind.take 20) = bs (twoX ahead behind) by unfold twoX; rw [← bs_add, ← bs_add]; rfl)
  have HY := hide (show bs (ahead.take 20) ++ ⟨#[63, 153]⟩ ++ bs (behind.take 20) = bs (twoY ahead behind) by unfold twoY; rw [← bs_add, ← bs_add]; rfl)
  go_enter Tryz.func9, Tryz.ntmps9
  go_wp2_with fail
  refine (keepTwo w).mono ?_
  rintro e w' ⟨rfl, hw'⟩
  rw [hw']
  clear hw' w'
  go_wp2_with fail
  refine (unhide HT raw texts ar cr at' ct w hrl htl (unhide Hir).1 (unhide Hir).2 (unhide Htx).1 (unhide Htx).2).mono ?_
  rintro e W2 ⟨v2, rfl, ho2, hb2⟩
  obtain ⟨a2, c2, rfl, hc29, hn2⟩ := own_more ho2
  have hl2 : LiesE W2 a2 (treeP raw texts) := by
    obtain ⟨a, c, e, h, -⟩ := OwnsE.lies ho2
    obtain ⟨rfl, -⟩ : a2 = a ∧ c2 = c := by simpa using e
    exact h
  have htk := treeP_ok (raw.take 29) texts
  have htz := treeP_zero (raw.take 29) texts
  have hl30 := (treeP_ok raw texts).2.2
  rw [← treeP_take raw texts 29 (by decide)] at htk htz
  have hl2t := lies_take hl2 29
  have hlt : ((treeP raw texts).take 29).length = min 29 (treeP raw texts).length := List.length_take
  have hn3 : a2 = none → (treeP raw texts).take 29 = [] ∧ c2 = 0 := fun h => by
    obtain ⟨h1, h2⟩ := hn2 h
    exact ⟨List.eq_nil_of_length_eq_zero (by omega), h2⟩
  generalize (treeP raw texts).take 29 = t at *
  generalize treeP raw texts = t0 at *
  obtain ⟨htt, htw, -⟩ := htk
  have H2 := hide (And.intro hl2t hb2)
  have Hp := hide (parted_plain htt htw (show t.length ≤ 29 by omega) htz (show (twoX ahead behind).length ≤ 60 by have := (two_len ahead behind).2; omega) (two_len ahead behind).1 (two_digest ahead behind) (two_ne ahead behind))
  have Hta := hide (tree_zero htt htw (show t.length ≤ 29 by omega) htz (twoX ahead behind) (by have := (two_len ahead behind).2; omega))
  have Htb := hide (tree_zero htt htw (show t.length ≤ 29 by omega) htz (twoY ahead behind) (by have := two_len ahead behind; omega))
  generalize twoX ahead behind = x at *
  generalize twoY ahead behind = y at *
  have Hn3 := hide hn3
  have h29 : t.length ≤ 29 := by omega
  clear ho2 hl2 hl2t hb2 htz htt htw hn2 hn3 Hir Htx HT z1 z2
  go_upto_if 40 with fail
  go_cut [11] (fun s wx => s = .slice a2 t.length c2 ∧ W2 = wx)
  case first =>
    by_cases h : t0.length = 30
    · have g1 : decide ((29 : Int) < (t0.length : Int)) = true := by simp; omega
      have g2 : t.length = 29 := by omega
      go_wp2_with fail
      go_meet
      exact ⟨by rw [g2], rfl⟩
    · have g1 : decide ((29 : Int) < (t0.length : Int)) = false := by simp; omega
      have g2 : t.length = t0.length := by omega
      go_wp2_with fail
      go_meet
      exact ⟨by rw [g2], rfl⟩
  case rest =>
  obtain ⟨h11, hw2⟩ := hcut
  subst h11
  subst hw2
  clear hc29 hlt hl30
  go_wp2_with fail
  refine (k1 W2).mono ?_
  rintro e w' ⟨rfl, hw'⟩
  rw [hw']
  clear hw' w'
  go_wp2_with fail
  refine (k2 W2).mono ?_
  rintro e w' ⟨rfl, hw'⟩
  rw [hw']
  clear hw' w'
  go_wp2_with fail
  refine (k1 W2).mono ?_
  rintro e w' ⟨rfl, hw'⟩
  rw [hw']
  clear hw' w'
  go_wp2_with fail
  refine (k2 W2).mono ?_
  rintro e w' ⟨rfl, hw'⟩
  rw [hw']
  clear hw' w'
  go_upto_region 7 with fail
  rw [unhide HX, unhide HY]
  clear HX HY ad1 ad2 ad3 ad4 k1 k2
  have hbw2 := (unhide H2).2
  have hA := one_entry W2 W2.heap.size x (Nat.le_refl _)
  have hbA : Below W2.heap.size W2 (W2.alloc (.cells #[.string ⟨#[48]⟩, .int .i64 1, .string (bs x)] 32)) := (Below.refl _ _).alloc (Nat.le_refl _) _
  have HA := hide (And.intro hA (And.intro hbA ((unhide H2).1.below hbA (Nat.le_refl _))))
  clear hA hbA
  go_wp2_with (at_builtin; go_loud (refine app_entries rfl (.tmp 59) (.tmp 60) rfl W2.heap.size _ [zeroE x] rfl (unhide HA).1 a2 t c2 rfl (unhide Hn3) (unhide HA).2.2 ?qb ?qc ?_))
  case qb => simp; omega
  case qc => simp
  intro va W3 hoa ga
  have hb3 : Below W2.heap.size W2 W3 := (unhide HA).2.1.grown ga (by simp) (fun k hk => by simp [Value.ownBlock] at hk; omega)
  have hl3 := (unhide H2).1.below hb3 (Nat.le_refl _)
  have hbw3 := hbw2.trans (hb3.mono hbw2.size)
  obtain ⟨A, hAe⟩ : ∃ A, zeroE x :: t = A := ⟨_, rfl⟩
  have hoA : OwnsE W3 W2.heap.size va A := by rw [← hAe]; exact hoa
  have hAl : A.length ≤ 30 := by rw [← hAe]; simp; omega
  rw [hAe] at Hp Hta
  clear hAe hoa
  obtain ⟨aa, ca, rfl, hla, -⟩ := OwnsE.lies hoA
  have hB := one_entry W3 W3.heap.size y (Nat.le_refl _)
  have hbB : Below W3.heap.size W3 (W3.alloc (.cells #[.string ⟨#[48]⟩, .int .i64 1, .string (bs y)] 32)) := (Below.refl _ _).alloc (Nat.le_refl _) _
  have HB := hide (And.intro hB (And.intro hbB (hl3.below hbB (Nat.le_refl _))))
  have Hla := hide (And.intro hla hbw3)
  clear hB hbB hl3 hla hb3 ga hoA HA H2 hbw2 hbw3
  go_wp2_with (at_builtin; refine app_entries rfl (.tmp 64) (.tmp 65) rfl W3.heap.size _ [zeroE y] rfl (unhide HB).1 a2 t c2 rfl (unhide Hn3) (unhide HB).2.2 ?qb ?qc ?_)
  case qb => simp; omega
  case qc => simp
  intro vb W4 hob gb
  have hb4 : Below W3.heap.size W3 W4 := (unhide HB).2.1.grown gb (by simp) (fun k hk => by simp [Value.ownBlock] at hk; omega)
  obtain ⟨Bl, hBe⟩ : ∃ Bl, zeroE y :: t = Bl := ⟨_, rfl⟩
  have hoB : OwnsE W4 W3.heap.size vb Bl := by rw [← hBe]; exact hob
  have hBl : Bl.length ≤ 30 := by rw [← hBe]; simp; omega
  rw [hBe] at Hp Htb
  clear hBe hob
  obtain ⟨ab, cb, rfl, hlb, -⟩ := OwnsE.lies hoB
  have hla4 := (unhide Hla).1.below hb4 (Nat.le_refl _)
  have hbw4 := (unhide Hla).2.trans (hb4.mono (unhide Hla).2.size)
  have Hm := hide (And.intro hla4 (And.intro hlb hbw4))
  have hg4 := hg.below hbw4 (Nat.le_refl _)
  clear hla4 hlb hbw4 hb4 gb hoB HB Hla Hn3
  go_wp2_with fail
  refine (awake_any W4 hg4).mono ?_
  rintro e W5 ⟨rfl, hb5⟩
  have hla5 := (unhide Hm).1.below hb5 (Nat.le_refl _)
  have hlb5 := (unhide Hm).2.1.below hb5 (Nat.le_refl _)
  have hbw5 := (unhide Hm).2.2.trans (hb5.mono (unhide Hm).2.2.size)
  have hfA := tree_fit A (unhide Hta).1
  have hfB := tree_fit Bl (unhide Htb).1
  have hbd := progBuild_uni A aa ca W5 (hg.below hbw5 (Nat.le_refl _)) (by unfold maxLen; omega) hla5 hfA
  have Hbd := hide hbd
  have Hm5 := hide (And.intro hla5 (And.intro hlb5 hbw5))
  have Hfit := hide (And.intro hfA hfB)
  clear hbd hla5 hlb5 hbw5 hb5 Hm hg4 hfA hfB
  obtain ⟨eA, hEA⟩ : ∃ eA, errOf A = eA := ⟨_, rfl⟩
  rw [hEA] at Hbd
  go_wp2_with fail
  refine (unhide Hbd).mono ?_
  rintro e W6 ⟨v6, rfl, ho6, hb6⟩
  obtain ⟨a6, c6, rfl, ht6, -, -⟩ := OwnsS.texts ho6
  have hla6 := (unhide Hm5).1.below hb6 (Nat.le_refl _)
  have hlb6 := (unhide Hm5).2.1.below hb6 (Nat.le_refl _)
  have hbw6 := (unhide Hm5).2.2.trans (hb6.mono (unhide Hm5).2.2.size)
  have htu := turned_any Bl ab cb W6 (by omega) hlb6
  have Htu := hide htu
  have Hm6 := hide (And.intro hla6 (And.intro hlb6 (And.intro hbw6 ht6)))
  clear htu hla6 hlb6 hbw6 hb6 Hm5 Hbd ho6 ht6
  go_wp2_with fail
  refine (unhide Htu).mono ?_
  rintro e W7 ⟨v7, rfl, ho7, hb7⟩
  obtain ⟨a7, c7, rfl, hl7, -⟩ := OwnsE.lies ho7
  have hla7 := (unhide Hm6).1.below hb7 (Nat.le_refl _)
  have hlb7 := (unhide Hm6).2.1.below hb7 (Nat.le_refl _)
  have hbw7 := (unhide Hm6).2.2.1.trans (hb7.mono (unhide Hm6).2.2.1.size)
  have ht7 := (unhide Hm6).2.2.2.below hb7 (Nat.le_refl _)
  have hrv := tree_rev (unhide Htb).1 (unhide Htb).2
  have hbd := progBuild_uni Bl.reverse a7 c7 W7 (hg.below hbw7 (Nat.le_refl _)) (by rw [List.length_reverse]; unfold maxLen; omega) hl7 (tree_fit _ hrv.1)
  obtain ⟨eB, hEB⟩ : ∃ eB, errOf Bl.reverse = eB := ⟨_, rfl⟩
  rw [hEB, List.length_reverse] at hbd
  have Hbd := hide hbd
  have Hm7 := hide (And.intro hla7 (And.intro hlb7 (And.intro hbw7 ht7)))
  clear hbd hla7 hlb7 hbw7 ht7 hb7 hl7 ho7 hrv Hm6 Htu
  go_wp2_with fail
  refine (unhide Hbd).mono ?_
  rintro e W8 ⟨v8, rfl, ho8, hb8⟩
  obtain ⟨a8, c8, rfl, ht8, -, -⟩ := OwnsS.texts ho8
  have hla8 := (unhide Hm7).1.below hb8 (Nat.le_refl _)
  have hlb8 := (unhide Hm7).2.1.below hb8 (Nat.le_refl _)
  have hbw8 := (unhide Hm7).2.2.1.trans (hb8.mono (unhide Hm7).2.2.1.size)
  have ht68 := (unhide Hm7).2.2.2.below hb8 (Nat.le_refl _)
  have hcl := progClash.2 A Bl aa ab ca cb W8 (hg.below hbw8 (Nat.le_refl _)) (by unfold maxLen; omega) (by unfold maxLen; omega) hla8 hlb8 (unhide Hfit).1 (unhide Hfit).2
  have hck := progClash.1 A Bl (unhide Hfit).1 (unhide Hfit).2
  obtain ⟨hE1, hE2⟩ := unhide Hp
  rw [hEA, hEB] at hE1 hE2
  have HE2 := hide hE2
  have Hm8 := hide (And.intro hla8 (And.intro hlb8 (And.intro hbw8 (And.intro ht68 ht8))))
  have Hcl := hide (And.intro hcl hck)
  clear hE2 hla8 hlb8 ht68 ht8 hcl hck hb8 ho8 Hm7 Hbd
  by_cases h00 : eA = 0 ∧ eB = 0
  · obtain ⟨h01, h02⟩ := h00
    obtain ⟨hr, hcA, hcB, hout⟩ := unhide HE2 h01 h02
    obtain ⟨hcl, hck⟩ := unhide Hcl
    obtain ⟨R, hR⟩ : ∃ R, clOf A Bl = R := ⟨_, rfl⟩
    rw [hR] at hcl hck
    obtain ⟨u, v, c⟩ := R
    have h1 := hck.err
    simp only at h1 hcl
    rw [hcA] at h1
    subst h1
    obtain ⟨k1, k2, k3, k4⟩ := hck.some rfl
    simp only at k1 k2 k3 k4
    rw [hr]
    generalize rootOf Bl.reverse = rt at *
    subst h01
    subst h02
    have hbb : ((bs rt).toList == (bs rt).toList) = true := by simp
    have hne : ((bs u).toList == (bs v).toList) = false := by rw [bs_eqb]; simpa using k1
    obtain ⟨oA1, oA2⟩ := out_facts (unhide Hta).1
    obtain ⟨oB1, oB2⟩ := out_facts (unhide Htb).1
    have hul := oA2 u k2
    have hvl := oB2 v k3
    rw [hout] at Hm8 ⊢
    have an1 := any_mem k2
    have an2 := any_mem k3
    have hck2 := (progClash.1 A A.reverse (unhide Hfit).1 (tree_fit _ (tree_rev (unhide Hta).1 (unhide Hta).2).1)).err
    rw [hcB] at hck2
    have Hck2 := hide hck2
    have Hcl1 := hide hcl
    have Ho := hide (And.intro oA1 oB1)
    generalize outOf A = oA at *
    generalize outOf Bl = oB at *
    clear hcl hck Hcl HE2 hE1 hr hcA hcB hout k2 k3 oA2 oB2 hck2 hR hbw8 Hp hEA hEB
    go_wp2_with fail
    refine (unhide Hcl1).mono ?_
    rintro e W9 ⟨rfl, hb9⟩
    obtain ⟨hla8, hlb8, hbw8, ht68, ht8⟩ := unhide Hm8
    have hla9 := hla8.below hb9 (Nat.le_refl _)
    have hbw9 := hbw8.trans (hb9.mono hbw8.size)
    have ht69 := ht68.below hb9 (Nat.le_refl _)
    have ht89 := ht8.below hb9 (Nat.le_refl _)
    have Htu := hide (turned_any A aa ca W9 (by omega) hla9)
    have Hm9 := hide (And.intro hla9 (And.intro hbw9 (And.intro ht69 ht89)))
    clear hla8 hlb8 hbw8 ht68 ht8 Hm8 hla9 hbw9 ht69 ht89 hb9 Hcl1
    go_wp2_with fail
    refine (unhide Htu).mono ?_
    rintro e W10 ⟨v10, rfl, ho10, hb10⟩
    obtain ⟨a10, c10, rfl, hl10, -⟩ := OwnsE.lies ho10
    obtain ⟨hla9, hbw9, ht69, ht89⟩ := unhide Hm9
    have hla10 := hla9.below hb10 (Nat.le_refl _)
    have hbw10 := hbw9.trans (hb10.mono hbw9.size)
    have ht610 := ht69.below hb10 (Nat.le_refl _)
    have ht810 := ht89.below hb10 (Nat.le_refl _)
    have hcl2 := progClash.2 A A.reverse aa a10 ca c10 W10 (hg.below hbw10 (Nat.le_refl _)) (by unfold maxLen; omega) (by rw [List.length_reverse]; unfold maxLen; omega) hla10 hl10 (unhide Hfit).1 (tree_fit _ (tree_rev (unhide Hta).1 (unhide Hta).2).1)
    obtain ⟨R2, hR2⟩ : ∃ R2, clOf A A.reverse = R2 := ⟨_, rfl⟩
    rw [hR2, List.length_reverse] at hcl2
    rw [hR2] at Hck2
    obtain ⟨u2, v2, c2'⟩ := R2
    have h11 : c2' = 11 := unhide Hck2
    subst h11
    simp only at hcl2
    have Hcl2 := hide hcl2
    have Hm10 := hide (And.intro hbw10 (And.intro ht610 ht810))
    clear hla9 hbw9 ht69 ht89 Hm9 hla10 hbw10 ht610 ht810 hb10 hcl2 hR2 Hck2 ho10 hl10 Htu
    go_wp2_with fail
    refine (unhide Hcl2).mono ?_
    rintro e W11 ⟨rfl, hb11⟩
    have hbw11 := (unhide Hm10).1.trans (hb11.mono (unhide Hm10).1.size)
    have ht611 := (unhide Hm10).2.1.below hb11 (Nat.le_refl _)
    have ht811 := (unhide Hm10).2.2.below hb11 (Nat.le_refl _)
    have Hdu := hide (cDigest u W11 (by unfold maxLen; omega))
    have Hm11 := hide (And.intro hbw11 (And.intro ht611 ht811))
    clear hbw11 ht611 ht811 hb11 Hm10 Hcl2
    go_wp2_with fail
    refine (unhide Hdu).mono ?_
    rintro e W12 ⟨rfl, hb12⟩
    have hbw12 := (unhide Hm11).1.trans (hb12.mono (unhide Hm11).1.size)
    have ht612 := (unhide Hm11).2.1.below hb12 (Nat.le_refl _)
    have ht812 := (unhide Hm11).2.2.below hb12 (Nat.le_refl _)
    have Hdv := hide (cDigest v W12 (by unfold maxLen; omega))
    have Hm12 := hide (And.intro hbw12 (And.intro ht612 ht812))
    clear hbw12 ht612 ht812 hb12 Hm11 Hdu
    go_wp2_with fail
    refine (unhide Hdv).mono ?_
    rintro e W13 ⟨rfl, hb13⟩
    have hbw13 := (unhide Hm12).1.trans (hb13.mono (unhide Hm12).1.size)
    have ht613 := (unhide Hm12).2.1.below hb13 (Nat.le_refl _)
    have ht813 := (unhide Hm12).2.2.below hb13 (Nat.le_refl _)
    have hdd : ((bs (P.digest v)).toList == (bs (P.digest v)).toList) = true := by simp
    generalize P.digest v = dv at *
    have o1 := keepOne u oA a6 c6 W13 (by have := (unhide Ho).1; unfold maxLen; omega) ht613
    have o2 := keepOne v oB a8 c8 W13 (by have := (unhide Ho).2; unfold maxLen; omega) ht813
    rw [an1] at o1
    rw [an2] at o2
    have Ho1 := hide o1
    have Ho2 := hide o2
    clear o1 o2 an1 an2 ht613 ht813 hb13 Hm12 Hdv k4
    go_wp2_with fail
    refine (unhide Ho1).mono ?_
    rintro e w' ⟨rfl, hw'⟩
    rw [hw']
    clear hw' w'
    go_wp2_with fail
    refine (unhide Ho2).mono ?_
    rintro e w' ⟨rfl, hw'⟩
    rw [hw']
    clear hw' w'
    go_wp2_with fail
    go_ret
    exact ⟨rfl, hbw13⟩
  · clear Hcl HE2 Hm8
    obtain ⟨rfl | rfl, rfl | rfl⟩ := hE1
    · go_wp2_with fail
      go_ret
      exact ⟨rfl, hbw8⟩
    · go_wp2_with fail
      go_ret
      exact ⟨rfl, hbw8⟩
    · go_wp2_with fail
      go_ret
      exact ⟨rfl, hbw8⟩
    · exact absurd ⟨rfl, rfl⟩ h00
end Go.Proofs.YtjmacegibchplaaGreatDoor

/-
  Numbers owned: appended to, read.
-/
namespace Go.Proofs.YtjmacegibchplaaGreatDoor
open Go.RowKit
set_option linter.unusedVariables false

/-- numbers owned -/
def OwnsN (w : World) (base : Nat) (v : Value) (l : List Int) : Prop := w.ownsRow base 3 1 v l.length (l.map (Value.int .i64))
theorem app_num {w : World} {ops : Array Oper} {rest : List Oper} {o : Oper} {a : Act} {Q : Exit → Act → World → Prop} (hgd : o.guard = none) (s x : Operand)
    (ho : o.op = .call { callee := .builtin .append, args := #[s, x], argTypes := #[55, 55] }) (base : Nat) (v : Value) (l : List Int) (hs : a.eval s = v) (hown : OwnsN w base v l)
    (ad : Addr) (y : Int) (hx : a.eval x = .slice (some ad) 1 1) (hnews : w.cell? (ad.add 0) = some (.int .i64 y))
    (hlen : l.length ≤ 2000000) (hbase : base ≤ w.heap.size)
    (h : ∀ v' w', OwnsN w' base v' (l ++ [y]) → w.grownBy w' v.ownBlock → wpList Tryz.prog ops Q rest (a.put o.dst v') w') : wpList Tryz.prog ops Q (o :: rest) a w := by
  obtain ⟨i0, hi, hz0, hz1, hz2⟩ := info_parts info_int
  refine wpList_append_own w hgd s x 55 ho base 3 i0 _ 1 8 Tryz.underlying55 hi hz0 hz1 hz2 rfl (by decide) v l.length (l.map (Value.int .i64)) hs hown ad 1 1 [.int .i64 y] hx rfl ?_ ?_ (by unfold maxLen; omega) (by omega) hbase ?_
  · intro j u hj
    match j, hj with
    | 0, hj => simp at hj; subst hj; exact hnews
  · intro u hu; simp at hu; subst hu; rfl
  · intro v' w' h2 h3 _
    refine h v' w' ?_ h3
    unfold OwnsN
    rw [List.length_append, List.map_append]
    exact h2
theorem OwnsN.ints {w : World} {base : Nat} {v : Value} {l : List Int} (h : OwnsN w base v l) : ∃ a c, v = .slice a l.length c ∧ IntsAt w a l ∧ (∀ b o q, a = some ⟨b, o, q⟩ → base ≤ b) := by
  rcases h.2 with ⟨hv, hx⟩ | ⟨g, cap, cur, hv, hb, hgg, _⟩
  · have hl : l = [] := by simpa using hx
    subst hl
    exact ⟨none, 0, hv, .inl rfl, fun b o q e => by simp at e⟩
  · refine ⟨some ⟨g, 0, none⟩, cap, hv, ?_, fun b o q e => by simp at e; omega⟩
    rcases Nat.eq_zero_or_pos l.length with h0 | hp
    · exact .inl (List.eq_nil_of_length_eq_zero h0)
    · refine .inr ⟨g, 0, rfl, fun i hi => ?_⟩
      obtain ⟨g', cap', cur', hv', _, hb', hc'⟩ := row_at h i (by simpa using hi)
      have hgg' : g' = g := by rw [hv] at hv'; simp at hv'; exact hv'.1.symm
      subst hgg'
      have := cell_of_block (j := i) hb'
      rw [hc'] at this
      rw [Nat.zero_add]
      simpa using this
theorem bw0 {wr w9 : World} (h : Below wr.drew.heap.size wr.drew w9) : Below wr.heap.size wr w9 := ⟨h.os, h.tape, h.output, h.size, h.block⟩
theorem bw1 {wr w9 : World} {x : Obj} (h : Below ((wr.alloc x).drew).heap.size ((wr.alloc x).drew) w9) : Below wr.heap.size wr w9 := by
  have h1 : Below ((wr.alloc x)).heap.size (wr.alloc x) w9 := ⟨h.os, h.tape, h.output, h.size, h.block⟩
  have h0 : Below wr.heap.size wr (wr.alloc x) := (Below.refl _ _).alloc (Nat.le_refl _) _
  exact h0.trans (h1.mono h0.size)
theorem bw2 {wr w9 : World} {x y : Obj} (h : Below (((wr.alloc x).alloc y).drew).heap.size (((wr.alloc x).alloc y).drew) w9) : Below wr.heap.size wr w9 := by
  have h1 : Below (((wr.alloc x).alloc y)).heap.size ((wr.alloc x).alloc y) w9 := ⟨h.os, h.tape, h.output, h.size, h.block⟩
  have h0 : Below wr.heap.size wr ((wr.alloc x).alloc y) := ((Below.refl _ _).alloc (Nat.le_refl _) _).alloc (by simp) _
  exact h0.trans (h1.mono h0.size)
end Go.Proofs.YtjmacegibchplaaGreatDoor
