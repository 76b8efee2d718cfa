import Derived.Test.YtjmacegibchplaaGreatDoorClaR
import Derived.Test.YtjmacegibchplaaGreatDoorFtA
import Derived.Test.YtjmacegibchplaaGreatDoorParP
import Derived.Test.YtjmacegibchplaaGreatDoorRtA
/-
  The program's Clash answers as the document asks.
-/
namespace Go.Proofs.YtjmacegibchplaaGreatDoor
open Go.RowKit Go.Maps
set_option linter.unusedVariables false
theorem of_err {l : List En} {base : Nat} {e : Ending} {w' : World} (h : OfEnd l base e w') :
    (errOf l ≠ 0 ∧ e = .returned (.tuple #[.agg #[.string ⟨#[]⟩, .map none], .int .i64 (errOf l)])) ∨
    (errOf l = 0 ∧ ∃ um n, n ≤ 5000000000 ∧ e = .returned (.tuple #[.agg #[.string (bs (rootOf l)), .map (some um)], .int .i64 0]) ∧ MapIs w' um n (blobsF (keptAll l))) := by
  rcases h with ⟨hnt, rfl⟩ | ⟨ht, hes, rfl⟩ | ⟨ht, hes, hcl, rfl⟩ | ⟨ht, hes, hcl, um, n, hn, hum, rfl, hm⟩
  · have he : errOf l = 1 := by unfold errOf; rw [wrong_no l hnt]; rfl
    exact .inl ⟨by rw [he]; decide, by rw [he]⟩
  · have he : errOf l = 2 := by unfold errOf; rw [wrong_yes l ht, hes]; rfl
    exact .inl ⟨by rw [he]; decide, by rw [he]⟩
  · have hw : wrongP l = 0 := by rw [wrong_yes l ht, hes]; rfl
    have he : errOf l = 3 := by unfold errOf; rw [if_neg (by simpa using hw), if_pos (built_none l ht hcl)]
    exact .inl ⟨by rw [he]; decide, by rw [he]⟩
  · have hw : wrongP l = 0 := by rw [wrong_yes l ht, hes]; rfl
    have he : errOf l = 0 := by unfold errOf; rw [if_neg (by simpa using hw), if_neg (by rw [built_some l ht hcl]; simp)]
    have hr : rootOf l = P.digest (blobP l 6 []) := by unfold rootOf; rw [if_pos he]
    exact .inr ⟨he, um, n, hn, by rw [hr], hm⟩
set_option maxRecDepth 100000 in
set_option maxHeartbeats 2000000 in
theorem progClash : ProgClash GlobOk clOf := by
  refine ⟨fun x y _ _ => clOf_ok x y, ?_⟩
  intro x y a1 a2 c1 c2 w hg hx hy hi1 hi2 hf1 hf2
  obtain ⟨R, hR⟩ : ∃ R, clOf x y = R := ⟨_, rfl⟩
  have HR := hide hR
  rw [hR]
  clear hR
  go_enter Tryz.func14, Tryz.ntmps14
  go_wp2_with fail
  refine (of_any x a1 c1 w hx hi1 hf1 hg).mono ?_
  rintro e w1 ⟨hb1, h1⟩
  rcases of_err h1 with ⟨he, rfl⟩ | ⟨he, um, n, hn, rfl, hm⟩
  · have g : (errOf x != 0) = true := by simpa using he
    have Hr := hide (show R = ([], [], errOf x) by rw [← unhide HR]; unfold clOf; rw [if_pos he])
    clear he h1
    generalize errOf x = E at *
    go_wp2_with fail
    go_ret3
    exact ⟨by rw [unhide Hr]; rfl, hb1.alloc hb1.size _⟩
  · clear h1
    have hbA : Below w.heap.size w (w1.alloc (.cells #[.string (bs (rootOf x)), .map (some um)] 77)) := hb1.alloc hb1.size _
    have hof := of_any y a2 c2 _ hy (hi2.below hbA (Nat.le_refl _)) hf2 (hg.below hbA (Nat.le_refl _))
    have Hof := hide hof
    have hmA : MapIs (w1.alloc (.cells #[.string (bs (rootOf x)), .map (some um)] 77)) um n (blobsF (keptAll x)) := hm.alloc _
    have hcA : (w1.alloc (.cells #[.string (bs (rootOf x)), .map (some um)] 77)).heap[w1.heap.size]? = some (.cells #[.string (bs (rootOf x)), .map (some um)] 77 (0, 0)) := heap_alloc_new w1 _
    have HA := hide (And.intro hbA (And.intro hmA hcA))
    have hkl := kept_len x (err_zero x he).1
    have Hr := hide (show R = if errOf y ≠ 0 then ([], [], errOf y) else clash1 (rootOf x) (rootOf y) (keptAll x) (keptAll y) by rw [← unhide HR]; unfold clOf; rw [if_neg (by simpa using he)])
    generalize rootOf x = rx at *
    clear hof he hm hbA hmA hcA
    go_wp2_with fail
    refine (unhide Hof).mono ?_
    rintro e w2 ⟨hb2, h2⟩
    have hbw : Below w.heap.size w w2 := (unhide HA).1.trans (hb2.mono (unhide HA).1.size)
    have hs2 := (hb2.block w1.heap.size (by simp)).trans (unhide HA).2.2
    have hm2 : MapIs w2 um n (blobsF (keptAll x)) := (unhide HA).2.1.same (hb2.block um (unhide HA).2.1.lt)
    rcases of_err h2 with ⟨he2, rfl⟩ | ⟨he2, um2, n2, hn2, rfl, hm3⟩
    · have g : (errOf y != 0) = true := by simpa using he2
      have Hr2 := hide (show R = ([], [], errOf y) by rw [unhide Hr, if_pos he2])
      clear he2 h2 Hof hb2 HA hs2 hm2
      generalize errOf y = E at *
      go_wp2_with fail
      go_ret3
      exact ⟨by rw [unhide Hr2]; rfl, hbw.alloc hbw.size _⟩
    · have Hr2 := hide (show R = clash1 rx (rootOf y) (keptAll x) (keptAll y) by rw [unhide Hr, if_neg (by simpa using he2)])
      generalize rootOf y = ry at *
      have c0 := cell_of_block (j := 0) hs2
      have c1' := cell_of_block (j := 1) hs2
      simp only [List.getElem?_toArray, List.getElem?_cons_zero, List.getElem?_cons_succ] at c0 c1'
      have hl2 : w1.heap.size < w2.heap.size := (Array.getElem?_eq_some_iff.1 hs2).1
      have hcl := clash_any rx ry um um2 n n2 (keptAll x) (keptAll y) (w2.alloc (.cells #[.string (bs ry), .map (some um2)] 77)) (hm2.alloc _) (hm3.alloc _) hn (by omega)
      rw [← unhide Hr2] at hcl
      unfold setV at hcl
      have Hcl := hide hcl
      have HbA := hide (show Below w.heap.size w (w2.alloc (.cells #[.string (bs ry), .map (some um2)] 77)) from hbw.alloc hbw.size _)
      clear he2 h2 Hof hb2 HA hs2 hm2 hm3 hcl
      go_wp2_with fail
      refine (unhide Hcl).mono ?_
      rintro e w4 ⟨rfl, hb4⟩
      have hbw4 : Below w.heap.size w w4 := (unhide HbA).trans (hb4.mono (unhide HbA).size)
      clear Hcl hb4
      go_wp2_with fail
      go_ret3
      exact ⟨rfl, hbw4⟩
end Go.Proofs.YtjmacegibchplaaGreatDoor

/-
  Small functions of the statements without the document's answer: one, digits.
-/
namespace Go.Proofs.YtjmacegibchplaaGreatDoor
open Go.RowKit
set_option linter.unusedVariables false
set_option maxHeartbeats 1000000 in
theorem keepOne (s : List UInt8) (l : List (List UInt8)) (a : Option Addr) (c : Nat) (w : World) (hl : l.length ≤ maxLen) (h : TextsAt w a l) :
    Calls Tryz.prog 35 #[.string (bs s), .slice a l.length c] w fun e w' => e = .returned (.bool (l.any (· == s))) ∧ w' = w := by
  unfold maxLen at hl
  go_enter Tryz.func35, Tryz.ntmps35
  go_wp2_with fail
  go_loop [5] (fun i => ∃ k : Nat, k ≤ l.length ∧ i = .int .i64 k ∧ (l.take k).any (· == s) = false) (fun i => l.length - (intOf i).toNat)
  case atStart => exact ⟨0, by omega, rfl, rfl⟩
  case round =>
    obtain ⟨k, hk, rfl, hany⟩ := hrel
    have Hany := hide hany
    clear hany
    by_cases hlt : k < l.length
    · obtain ⟨b, o, rfl, hct⟩ : ∃ b o, a = some ⟨b, o, none⟩ ∧ ∀ i (h : i < l.length), w.cell? ⟨b, o + i, none⟩ = some (strVal l[i]) := by
        rcases h with h | h
        · subst h; simp at hlt
        · exact h
      have ck := hct k hlt
      unfold strVal at ck
      have Hs := hide (any_take_succ (· == s) l k hlt)
      have Ha := hide (any_at (· == s) l k hlt)
      clear hct h
      generalize l[k] = x at *
      have hE := str_eq2 x s
      generalize (x == s) = E at *
      have q1 : (k : Int) < (l.length : Int) := by omega
      cases E with
      | true =>
        have Hr := hide (unhide Ha rfl)
        clear Hs Ha
        go_wp2_with fail
        go_ret
        exact ⟨ret_bool (unhide Hr).symm, rfl⟩
      | false =>
        have Hr := hide (show (l.take (k + 1)).any (· == s) = false by rw [unhide Hs, unhide Hany]; rfl)
        clear Hs Ha
        go_wp2_with fail
        go_round
        case rel => exact ⟨k + 1, by omega, by go_num, unhide Hr⟩
        case measure => simp [intOf]; omega
    · obtain rfl : k = l.length := by omega
      have Hr := hide (show l.any (· == s) = false by have := unhide Hany; rwa [List.take_length] at this)
      go_wp2_with fail
      go_ret
      exact ⟨ret_bool (unhide Hr).symm, rfl⟩
def digM (a b : Value) : Nat := match a, b with
  | .int _ m, .string s => 2 * m.toNat + (if s.size = 0 then 1 else 0)
  | _, _ => 0
theorem dig_num : ∀ r : Fin 10, strOfNums [48 + (r.val : Int)] = bs [UInt8.ofNat (48 + r.val)] := by decide
theorem dig_small (n : Nat) (h : n < 10) : digP n = [UInt8.ofNat (48 + n % 10)] := by unfold digP; rw [if_pos h, Nat.mod_eq_of_lt h]
theorem dig_great (n : Nat) (h : ¬ n < 10) (h2 : n < 30) : digP n = UInt8.ofNat (48 + n / 10 % 10) :: [UInt8.ofNat (48 + n % 10)] := by unfold digP; rw [if_neg h, Nat.mod_eq_of_lt (show n / 10 < 10 by omega)]
theorem bs_add (a b : List UInt8) : bs a ++ bs b = bs (a ++ b) := by
  apply ByteArray.ext
  simp [bs]
def DigSt (n m : Nat) (s : List UInt8) : Prop := (s = [] ∧ m = n) ∨ (s ≠ [] ∧ m = 0 ∧ s = digP n) ∨ (s ≠ [] ∧ 10 ≤ n ∧ m = n / 10 ∧ s = [UInt8.ofNat (48 + n % 10)])
theorem dig_round (n m : Nat) (s : List UInt8) (hn : n < 30) (hm : m < 30) (h : DigSt n m s) (hend : ¬ (s ≠ [] ∧ m = 0)) :
    (∃ m1 s1, Value.int .i64 ((m : Int) / 10) = Value.int .i64 (m1 : Nat) ∧ Value.string (strOfNums [48 + (m : Int) % 10] ++ bs s) = Value.string (bs s1) ∧ m1 < 30 ∧ DigSt n m1 s1) ∧
    digM (Value.int .i64 ((m : Int) / 10)) (Value.string (strOfNums [48 + (m : Int) % 10] ++ bs s)) < digM (Value.int .i64 (m : Nat)) (Value.string (bs s)) := by
  have hd := dig_num ⟨m % 10, by omega⟩
  simp only at hd
  rw [show ((m % 10 : Nat) : Int) = (m : Int) % 10 by omega] at hd
  rw [hd, bs_add, show (m : Int) / 10 = ((m / 10 : Nat) : Int) by omega]
  refine ⟨⟨m / 10, [UInt8.ofNat (48 + m % 10)] ++ s, rfl, rfl, by omega, ?_⟩, ?_⟩
  · rcases h with ⟨rfl, rfl⟩ | ⟨h1, h2, _⟩ | ⟨h1, h2, rfl, rfl⟩
    · by_cases h10 : m < 10
      · exact .inr (.inl ⟨by simp, by omega, (dig_small m h10).symm⟩)
      · exact .inr (.inr ⟨by simp, by omega, rfl, rfl⟩)
    · exact absurd ⟨h1, h2⟩ hend
    · exact .inr (.inl ⟨by simp, by omega, (dig_great n (by omega) hn).symm⟩)
  · have e1 : (bs ([UInt8.ofNat (48 + m % 10)] ++ s)).size = s.length + 1 := by rw [bs_size]; rfl
    have e2 := bs_size s
    simp only [digM, e1, e2, Int.toNat_natCast]
    rw [if_neg (by omega)]
    by_cases hs : s = []
    · subst hs
      simp
      try omega
    · have : ¬ m = 0 := fun e => hend ⟨hs, e⟩
      have hl : ¬ s.length = 0 := fun e => hs (List.eq_nil_of_length_eq_zero e)
      rw [if_neg hl]
      omega
set_option maxHeartbeats 1000000 in
theorem keepDigits (n : Nat) (w : World) (hn : n < 30) :
    Calls Tryz.prog 58 #[.int .i64 n] w fun e w' => e = .returned (.string (bs (digP n))) ∧ Below w.heap.size w w' := by
  have hcv := conv_one
  go_enter Tryz.func58, Tryz.ntmps58
  go_wp2_with fail
  go_loopw [0, 3] (fun mv sv wr => Below w.heap.size w wr ∧ ∃ (m : Nat) (s : List UInt8), mv = .int .i64 m ∧ sv = .string (bs s) ∧ m < 30 ∧ DigSt n m s) (fun mv sv _ => digM mv sv)
  case atStart => exact ⟨Below.refl _ _, n, [], rfl, rfl, hn, .inl ⟨rfl, rfl⟩⟩
  case round =>
    obtain ⟨hbel, m, s, rfl, rfl, hm, hst⟩ := hrel
    have Hst := hide hst
    clear hst
    have hsz := bs_size s
    have hz1 : ((bs s).toList == ([] : List UInt8)) = (s == []) := by rw [ByteArray.toList_eq, bs_data]
    have hz2 : ((bs s).toList == (⟨#[]⟩ : ByteArray).toList) = (s == []) := by rw [ByteArray.toList_eq, ByteArray.toList_eq, bs_data]
    by_cases hend : s ≠ [] ∧ m = 0
    · obtain ⟨hs, rfl⟩ := hend
      have he : (s == []) = false := by simpa using hs
      rw [he] at hz1 hz2
      have Hs := hide (show s = digP n by
        rcases unhide Hst with h | h | h
        · exact absurd h.1 hs
        · exact h.2.2
        · omega)
      go_wp2_with fail
      go_ret
      exact ⟨by rw [unhide Hs]; rfl, hbel⟩
    · have Hr := hide (dig_round n m s hn hm (unhide Hst) hend)
      have hal : ∀ x, Below w.heap.size w (wr.alloc x) := fun x => hbel.alloc hbel.size x
      by_cases h0 : m = 0
      · subst h0
        obtain rfl : s = [] := by
          by_cases e : s = []
          · exact e
          · exact absurd ⟨e, rfl⟩ hend
        have e0 : (bs ([] : List UInt8)) = ⟨#[]⟩ := rfl
        obtain rfl : n = 0 := by
          rcases unhide Hst with h | h | h
          · exact h.2.symm
          · exact absurd rfl h.1
          · exact absurd rfl h.1
        clear hend hz1 hz2
        go_wp2_with fail
        exact ⟨⟨hal _, 0, [48], rfl, rfl, by omega, .inr (.inl ⟨by simp, rfl, rfl⟩)⟩, by decide⟩
      · have hp : (0 : Int) < (m : Int) := by omega
        have hsl : s.length ≤ 2 := by
          rcases unhide Hst with h | h | h
          · rw [h.1]; simp
          · have := (dig_name ⟨n, hn⟩).1
            rw [h.2.2]; exact this
          · rw [h.2.2.2]; simp
        have hq : (strOfNums [48 + (m : Int) % 10]).size = 1 := rfl
        clear hend hz1 hz2
        go_wp2_with fail
        exact ⟨⟨hal _, (unhide Hr).1⟩, (unhide Hr).2⟩
end Go.Proofs.YtjmacegibchplaaGreatDoor

/-
  The statement on two trees of one root (Parted): its body.
-/
namespace Go.Proofs.YtjmacegibchplaaGreatDoor
open Go.RowKit Go.Maps Go.WideMaps
set_option linter.unusedVariables false
theorem keepTwo (w : World) : Calls Tryz.prog 32 #[] w fun e w' => e = .returned (.tuple #[.string ⟨#[48, 5]⟩, .string ⟨#[63, 153]⟩]) ∧ w' = w := by
  go_enter Tryz.func32, Tryz.ntmps32
  go_wp2_with fail
  go_ret2
  exact ⟨rfl, rfl⟩
theorem app_entries {w : World} {ops : Array Oper} {rest : List Oper} {o : Oper} {a : Act} {Q : Exit → Act → World → Prop} (hgd : o.guard = none) (s x : Operand)
    (ho : o.op = .call { callee := .builtin .append, args := #[s, x], argTypes := #[22, 22] }) (base : Nat) (v : Value) (l : List En) (hs : a.eval s = v) (hown : OwnsE w base v l)
    (ad : Option Addr) (y : List En) (c : Nat) (hx : a.eval x = .slice ad y.length c) (hn : ad = none → y = [] ∧ c = 0) (hy : LiesE w ad y)
    (hlen : l.length + y.length ≤ 1000000) (hbase : base ≤ w.heap.size)
    (h : ∀ v' w', OwnsE w' base v' (l ++ y) → w.grownBy w' v.ownBlock → wpList Tryz.prog ops Q rest (a.put o.dst v') w') : wpList Tryz.prog ops Q (o :: rest) a w := by
  obtain ⟨i0, hi, hz0, hz1, hz2⟩ := info_parts info_ent
  cases ad with
  | none =>
    obtain ⟨rfl, rfl⟩ := hn rfl
    refine wpList_append_own_none hgd s x 22 ho base 32 i0 3 Tryz.underlying22 hi v l.length (rowCells enCells l) hs hown hx ?_
    exact h v w (by rw [List.append_nil]; exact hown) ⟨rfl, rfl, rfl, Nat.le_refl _, fun _ _ _ => rfl⟩
  | some ad =>
    refine wpList_append_own w hgd s x 22 ho base 32 i0 _ 3 40 Tryz.underlying22 hi hz0 hz1 hz2 rfl (by decide) v l.length (rowCells enCells l) hs hown ad y.length c (rowCells enCells y) hx (rowCells_length (n := 3) enCells_len y) hy.src (enCells_one y) (by unfold maxLen; omega) (by omega) hbase ?_
    intro v' w' h2 h3 _
    refine h v' w' ?_ h3
    unfold OwnsE
    rw [show rowCells enCells (l ++ y) = rowCells enCells l ++ rowCells enCells y by simp [rowCells], List.length_append]
    exact h2
theorem lies_take {w : World} {a : Option Addr} {l : List En} (h : LiesE w a l) (k : Nat) : LiesE w a (l.take k) := by
  rcases h with rfl | ⟨b, o, e, h⟩
  · left; simp
  · right
    refine ⟨b, o, e, fun i hi => ?_⟩
    have hi' : i < l.length := by simp at hi; omega
    rw [List.getElem_take]
    exact h i hi'
theorem own_more {w : World} {base e s n : Nat} {v : Value} {xs : List Value} (h : w.ownsRow base e s v n xs) : ∃ a c, v = .slice a n c ∧ n ≤ c ∧ (a = none → n = 0 ∧ c = 0) := by
  rcases h.2 with ⟨rfl, hx⟩ | ⟨g, cap, cur, rfl, hb, hgg, q1, q2, q3, q4⟩
  · obtain rfl : n = 0 := hx
    exact ⟨none, 0, rfl, Nat.le_refl _, fun _ => ⟨rfl, rfl⟩⟩
  · exact ⟨_, _, rfl, by first | exact q1 | exact q2, fun h => by simp at h⟩
theorem one_entry (W : World) (B : Nat) (x : List UInt8) (hB : B ≤ W.heap.size) : OwnsE (W.alloc (.cells #[.string ⟨#[48]⟩, .int .i64 1, .string (bs x)] 32)) B (.slice (some ⟨W.heap.size, 0, none⟩) 1 1) [zeroE x] :=
  ⟨rfl, .inr ⟨W.heap.size, 1, #[.string ⟨#[48]⟩, .int .i64 1, .string (bs x)], rfl, hB, heap_alloc_new W _, Nat.le_refl _, by decide, rfl, rfl⟩⟩
theorem out_facts {l : List En} (ht : Tree l) : (outOf l).length ≤ 41 ∧ ∀ x ∈ outOf l, x.length ≤ 73882 := by
  unfold outOf
  split
  · cases hb : builtP l with
    | none => simp
    | some out =>
      obtain ⟨_, _, h3, h4⟩ := built_facts ht hb
      exact ⟨h3, fun x hx => by have := bytes_mem out x hx; omega⟩
  · simp
theorem any_mem {l : List (List UInt8)} {x : List UInt8} (h : x ∈ l) : l.any (· == x) = true := by
  rw [List.any_eq_true]
  exact ⟨x, h, by simp⟩
end Go.Proofs.YtjmacegibchplaaGreatDoor
