import Derived.Test.YtjmacegibchplaaGreatDoorLawC
import Derived.Test.YtjmacegibchplaaGreatDoorFtB
import Derived.Test.YtjmacegibchplaaGreatDoorLbC
import Derived.Test.YtjmacegibchplaaGreatDoorTreeH
/-
  What is missing, asked of a store and of the document's (cellarlaw.pair's missing).
-/
namespace Go.Proofs.YtjmacegibchplaaGreatDoor
open Go.RowKit Go.Maps Go.WideMaps
set_option linter.unusedVariables false
set_option maxHeartbeats 2000000 in
theorem pairMissing_nil (pp sb pb um n rb : Nat) (v1 v2 : Value) (base : Nat) (room : Int) (st : List (List UInt8 × List UInt8)) (w : World) (h : Pair w pp sb pb um n rb v1 v2 base room st) (hst : st.length ≤ maxLen) :
    Calls Tryz.prog 120 #[.pointer (some ⟨pp, 0, none⟩), .slice none 0 0] w fun e w' => ∃ v, e = .returned (.tuple #[v, .bool true]) ∧ OwnsS w' w.heap.size v [] ∧ Below w.heap.size w w' := by
  have k0 := cell_of_block (j := 0) h.p
  have k1 := cell_of_block (j := 1) h.p
  simp at k0 k1
  have Hh := hide h
  have hpl := h.lt pp (.inl rfl)
  clear h
  go_enter Tryz.func120, Tryz.ntmps120
  go_wp2_with fail
  refine (textsOf_nil w).mono ?_
  rintro e w' ⟨rfl, hw'⟩
  rw [hw']
  clear hw' w'
  go_wp2_with fail
  refine (cMissing_any st sb pb um n room [] none 0 w (unhide Hh).c (by decide) (.inl rfl) (by simp)).mono ?_
  rintro e W2 ⟨v, rfl, ho2, hb2⟩
  have hm : missTo st [] ([] : List (List UInt8)).length = [] := rfl
  rw [hm] at ho2
  obtain ⟨a2, c2, rfl, ht2, -, -⟩ := OwnsS.texts ho2
  have Hy := hide (And.intro ho2 (And.intro ht2 hb2))
  clear ho2 ht2 hb2 hm
  go_wp2_with fail
  refine (stillTexts_nil W2).mono ?_
  rintro e W3 ⟨rfl, n3, hW3⟩
  obtain ⟨ho2, ht2, hb2⟩ := unhide Hy
  have hb3 : Below W2.heap.size W2 W3 := by rw [hW3]; exact below_drewN (Below.refl _ _) n3
  have hbw3 := hb2.trans (hb3.mono hb2.size)
  have k1' : W3.cell? ⟨pp, 1, none⟩ = some (.pointer (some ⟨rb, 0, none⟩)) := (hbw3.cell (p := ⟨pp, 1, none⟩) hpl).trans k1
  have ho3 := OwnsS.below ho2 hb3
  have ht3 := ht2.below hb3 (Nat.le_refl _)
  have hr3 := ((unhide Hh).d.r).below hbw3 (Nat.le_refl _)
  have Hz := hide (And.intro ho3 (And.intro ht3 hbw3))
  have Hr := hide (refMissing_any st rb room [] none 0 W3 hst hr3 (by decide) (.inl rfl))
  clear ho2 ht2 hb2 hb3 hbw3 ho3 ht3 hr3 hW3 Hy k0 k1
  go_wp2_with fail
  go_loopw [9] (fun i wr => i = .int .i64 0 ∧ W3 = wr) (fun _ _ => 0)
  case atStart => exact ⟨rfl, rfl⟩
  case round =>
    obtain ⟨rfl, rfl⟩ := hrel
    go_wp2_with fail
    refine (unhide Hr).mono ?_
    rintro e W4 ⟨v4, rfl, ho4, hb4⟩
    have hm : missTo st [] ([] : List (List UInt8)).length = [] := rfl
    rw [hm] at ho4
    obtain ⟨a4, c4, rfl, ht4, -, -⟩ := OwnsS.texts ho4
    obtain ⟨ho3, ht3, hbw3⟩ := unhide Hz
    have hbw4 := hbw3.trans (hb4.mono hbw3.size)
    have ho3' := OwnsS.below ho3 hb4
    have Hs := hide (sameTexts_same [] a2 a4 c2 c4 W4 (by decide) (.inl rfl) (.inl rfl))
    have Hq := hide (And.intro ho3' hbw4)
    clear ho4 ht4 ho3 ht3 hbw3 hb4 hbw4 ho3' hm Hr
    go_wp2_with fail
    refine (unhide Hs).mono ?_
    rintro e W5 ⟨rfl, n5, hW5⟩
    have hb5 : Below W4.heap.size W4 W5 := by rw [hW5]; exact below_drewN (Below.refl _ _) n5
    have ho5 := OwnsS.below (unhide Hq).1 hb5
    have hbw5 := (unhide Hq).2.trans (hb5.mono (unhide Hq).2.size)
    clear hW5 hb5 Hq Hs Hz
    go_wp2_with fail
    go_ret2
    exact ⟨_, rfl, ho5, hbw5⟩
set_option maxRecDepth 100000 in
set_option maxHeartbeats 2000000 in
theorem pairMissing_some (l : List (List UInt8)) (ad : Addr) (c : Nat) (pp sb pb um n rb : Nat) (v1 v2 : Value) (base : Nat) (room : Int) (st : List (List UInt8 × List UInt8)) (w : World) (h : Pair w pp sb pb um n rb v1 v2 base room st) (hst : st.length ≤ maxLen)
    (hl : l.length ≤ 1100000) (hi : TextsAt w (some ad) l) (hx : ∀ x ∈ l, x.length ≤ 10000000) :
    Calls Tryz.prog 120 #[.pointer (some ⟨pp, 0, none⟩), .slice (some ad) l.length c] w fun e w' => ∃ v, e = .returned (.tuple #[v, .bool true]) ∧ OwnsS w' w.heap.size v (missTo st l l.length) ∧ Below w.heap.size w w' := by
  have k0 := cell_of_block (j := 0) h.p
  have k1 := cell_of_block (j := 1) h.p
  simp at k0 k1
  have hpl := h.lt pp (.inl rfl)
  have Hh := hide (And.intro h (And.intro hi hx))
  have Hto := hide (textsOf_some l ad c w (by omega) hi)
  clear h hi hx
  go_enter Tryz.func120, Tryz.ntmps120
  go_wp2_with fail
  refine (unhide Hto).mono ?_
  rintro e W1 ⟨rfl, htx, hb1, hfz⟩
  have htl : TxAt W1 w.heap.size 0 l := fun i hi => by
    have := htx i (by rw [tmarked_len l 8 (by omega)]; omega)
    rw [tmarked_lo l i hi] at this
    exact this
  have k0' : W1.cell? ⟨pp, 0, none⟩ = some (.pointer (some ⟨sb, 0, none⟩)) := (hb1.cell (p := ⟨pp, 0, none⟩) hpl).trans k0
  have Hmi := hide (cMissing_any st sb pb um n room l (some ⟨w.heap.size, 0, none⟩) (l.length + 8) W1 ((unhide Hh).1.c.below hb1 (Nat.le_refl _)) hl (.inr ⟨_, _, rfl, htl⟩) (unhide Hh).2.2)
  have hg1 : w.heap.size < W1.heap.size := by
    have := htx 0 (by rw [tmarked_len l 8 (by omega)]; omega)
    exact block_lt this
  have Hw1 := hide (And.intro htx (And.intro hb1 (And.intro hfz htl)))
  clear htx hb1 hfz htl k0 Hto
  go_wp2_with fail
  refine (unhide Hmi).mono ?_
  rintro e W2 ⟨v, rfl, ho2, hb2⟩
  obtain ⟨htx, hb1, hfz, htl⟩ := unhide Hw1
  have hbw2 := hb1.trans (hb2.mono hb1.size)
  have htx2 : TxAt W2 w.heap.size 0 (tmarked l 8) := fun i hi => (hb2.cell (p := ⟨w.heap.size, 0 + i, none⟩) hg1).trans (htx i hi)
  have hfz2 : ∀ j, W2.frozen? ⟨w.heap.size, j, none⟩ = false := fun j => ((bcell hb2).2 w.heap.size j hg1).trans (hfz j)
  have hi2 := (unhide Hh).2.1.below hbw2 (Nat.le_refl _)
  have Hst := hide (stillTexts_some l w.heap.size (some ad) c W2 (by omega) htx2 hi2)
  have hL := missTo_len st l l.length
  obtain ⟨a2, c2, rfl, ht2, -, -⟩ := OwnsS.texts ho2
  generalize hLg : missTo st l l.length = L at *
  have Hw2 := hide (And.intro ho2 (And.intro htx2 (And.intro hfz2 (And.intro hbw2 hb2.size))))
  clear ho2 htx2 hfz2 hbw2 hb2 htx hb1 hfz htl hi2 ht2 Hmi k0'
  go_wp2_with fail
  refine (unhide Hst).mono ?_
  rintro e W3 ⟨rfl, n3, hW3⟩
  obtain ⟨ho2, htx2, hfz2, hbw2, hsz2⟩ := unhide Hw2
  have hb3 : Below W2.heap.size W2 W3 := by rw [hW3]; exact below_drewN (Below.refl _ _) n3
  have hbw3 := hbw2.trans (hb3.mono hbw2.size)
  have ho3 := OwnsS.below ho2 hb3
  have hg2 : w.heap.size < W2.heap.size := by omega
  have hcl3 : ∀ j, j < l.length → ∃ s, W3.cell? ⟨w.heap.size, j, none⟩ = some (.string s) := fun j hj => by
    have := htx2 j (by rw [tmarked_len l 8 (by omega)]; omega)
    rw [Nat.zero_add] at this
    exact ⟨_, (hb3.cell (p := ⟨w.heap.size, j, none⟩) hg2).trans this⟩
  have hfz3 : ∀ j, W3.frozen? ⟨w.heap.size, j, none⟩ = false := fun j => ((bcell hb3).2 w.heap.size j hg2).trans (hfz2 j)
  have Hs3 := hide (And.intro hbw3 (And.intro ho3 (And.intro hcl3 hfz3)))
  clear hb3 hbw3 ho3 hcl3 hfz3 ho2 htx2 hfz2 hbw2 hW3 Hw2 Hw1 Hst
  go_wp2_with fail
  go_loopw [9] (fun i wr => ∃ k : Nat, k ≤ l.length ∧ i = .int .i64 k ∧ Below w.heap.size w wr ∧ OwnsS wr W1.heap.size (.slice a2 L.length c2) L ∧ (∀ j, j < l.length → ∃ s, wr.cell? ⟨w.heap.size, j, none⟩ = some (.string s)) ∧ (∀ j, wr.frozen? ⟨w.heap.size, j, none⟩ = false)) (fun i _ => l.length - (intOf i).toNat)
  case atStart => exact ⟨0, by omega, rfl, (unhide Hs3).1, (unhide Hs3).2.1, (unhide Hs3).2.2.1, (unhide Hs3).2.2.2⟩
  case round =>
    obtain ⟨k, hk, rfl, hbel, hoL, hcl, hfz⟩ := hrel
    clear Hs3
    by_cases hlt : k < l.length
    · have q1 : (k : Int) < (l.length : Int) := by omega
      obtain ⟨s, hcs⟩ := hcl k hlt
      have hf := hfz k
      have hbl := block_lt hcs
      have Hz := hide (And.intro hbel (And.intro hoL (And.intro hcl hfz)))
      clear hbel hoL hcl hfz
      go_wp2_with fail
      obtain ⟨hbel, hoL, hcl, hfz⟩ := unhide Hz
      refine ⟨⟨k + 1, by omega, by go_num, hbel.setCell (by first | exact Nat.le_refl _ | simp) _, ?_, ?_, fun j => (World.frozen?_setCell _ _ _ _).trans (hfz j)⟩, by simp [intOf]; omega⟩
      · refine ownsRow_same hoL (fun g e => (grown_setCell wr w.heap.size k _).block g (own_lt hoL e) (fun e2 => ?_))
        have h1 := (World.ownsRow.lt hoL g e).1
        have h2 : g = w.heap.size := by simpa using e2
        omega
      · intro j hj
        by_cases hjk : j = k
        · subst hjk
          exact ⟨_, World.cell?_setCell_same _ _ _ hcs⟩
        · obtain ⟨s', hs'⟩ := hcl j hj
          exact ⟨s', (World.cell?_setCell_other wr ⟨w.heap.size, k, none⟩ ⟨w.heap.size, j, none⟩ _ (by simp)).trans hs'⟩
    · obtain rfl : k = l.length := by omega
      have k1' : wr.cell? ⟨pp, 1, none⟩ = some (.pointer (some ⟨rb, 0, none⟩)) := (hbel.cell (p := ⟨pp, 1, none⟩) hpl).trans k1
      have Hr := hide (refMissing_any st rb room l (some ad) c wr hst (((unhide Hh).1.d.r).below hbel (Nat.le_refl _)) hl ((unhide Hh).2.1.below hbel (Nat.le_refl _)))
      rw [hLg] at Hr
      have Hz := hide (And.intro hbel hoL)
      clear hbel hoL hcl hfz k1
      go_wp2_with fail
      refine (unhide Hr).mono ?_
      rintro e W4 ⟨v4, rfl, ho4, hb4⟩
      obtain ⟨a4, c4, rfl, ht4, -, -⟩ := OwnsS.texts ho4
      obtain ⟨hbel, hoL⟩ := unhide Hz
      have hbw4 := hbel.trans (hb4.mono hbel.size)
      have ho4' := OwnsS.below hoL hb4
      obtain ⟨a2', c2', e2', ht2', -, -⟩ := OwnsS.texts ho4'
      obtain ⟨rfl, rfl⟩ : a2 = a2' ∧ c2 = c2' := by simpa using e2'
      have Hs := hide (sameTexts_same L a2 a4 c2 c4 W4 (by unfold maxLen; omega) ht2' ht4)
      have Hq := hide (And.intro ho4' hbw4)
      clear ho4 ht4 hbel hoL hb4 hbw4 ho4' ht2' Hr Hz e2'
      go_wp2_with fail
      refine (unhide Hs).mono ?_
      rintro e W5 ⟨rfl, n5, hW5⟩
      have hb5 : Below W4.heap.size W4 W5 := by rw [hW5]; exact below_drewN (Below.refl _ _) n5
      have ho5 := OwnsS.weak (OwnsS.below (unhide Hq).1 hb5) (Nat.le_of_lt hg1)
      have hbw5 := (unhide Hq).2.trans (hb5.mono (unhide Hq).2.size)
      clear hW5 hb5 Hq Hs
      go_wp2_with fail
      go_ret2
      refine ⟨_, rfl, ?_, hbw5⟩
      rw [hLg]
      exact ho5
end Go.Proofs.YtjmacegibchplaaGreatDoor

/-
  A script's world with its stores.
-/
namespace Go.Proofs.YtjmacegibchplaaGreatDoor
open Go.RowKit Go.Maps Go.WideMaps
set_option linter.unusedVariables false
structure PR where
  pp : Nat
  sb : Nat
  pb : Nat
  um : Nat
  n : Nat
  rb : Nat
  v1 : Value
  v2 : Value
  room : Int
  st : List (List UInt8 × List UInt8)
def PR.set (p : PR) (x : Nat) : Prop := PSet p.pp p.sb p.pb p.um p.rb p.v1 p.v2 x
def PR.ptr (p : PR) : Value := .pointer (some ⟨p.pp, 0, none⟩)
structure PR.Ok (w : World) (base K : Nat) (p : PR) : Prop where
  pair : Pair w p.pp p.sb p.pb p.um p.n p.rb p.v1 p.v2 base p.room p.st
  r0 : 0 ≤ p.room
  r1 : p.room ≤ 100000
  len : p.st.length ≤ 1000 * K
  cnt : p.n ≤ 100000 * K
  sum : sumP p.st ≤ 1100000 * K
  big : ∀ d b, atP p.st d = some b → b.length ≤ 1100000
theorem PR.Ok.mono {w : World} {base K K' : Nat} {p : PR} (h : p.Ok w base K) (hk : K ≤ K') : p.Ok w base K' := ⟨h.pair, h.r0, h.r1, Nat.le_trans h.len (by omega), Nat.le_trans h.cnt (by omega), Nat.le_trans h.sum (by omega), h.big⟩
theorem PR.Ok.fr {S : Nat → Prop} {w w' : World} {base K : Nat} {p : PR} (h : p.Ok w base K) (hf : Fr S w w') (hn : ∀ x, p.set x → ¬ S x) : p.Ok w' base K := ⟨h.pair.fr hf hn, h.r0, h.r1, h.len, h.cnt, h.sum, h.big⟩
theorem PR.Ok.lt {w : World} {base K : Nat} {p : PR} (h : p.Ok w base K) (x : Nat) (hx : p.set x) : x < w.heap.size := h.pair.lt x hx
structure Sd (w : World) (wb base : Nat) (ps : Value) (B : Nat → Prop) (N K : Nat) (L : List PR) : Prop where
  kp : Kp w wb base ps B N
  row : w.ownsRow base 114 1 ps L.length (L.map PR.ptr)
  off : ∀ x, ps.ownBlock = some x → ¬ B x
  ok : ∀ i (hi : i < L.length), (L[i]).Ok w base K
  apart : ∀ i j (hi : i < L.length) (hj : j < L.length), i ≠ j → ∀ x, (L[i]).set x → ¬ (L[j]).set x
  away : ∀ i (hi : i < L.length), ∀ x, (L[i]).set x → ¬ B x ∧ ps.ownBlock ≠ some x
  low : (∀ x, B x → base ≤ x) ∧ ∀ i (hi : i < L.length), ∀ x, (L[i]).set x → base ≤ x
section
variable {w w' : World} {wb base N K : Nat} {ps : Value} {B : Nat → Prop} {L : List PR}
theorem Sd.fr {S : Nat → Prop} (h : Sd w wb base ps B N K L) (hf : Fr S w w') (h1 : ∀ x, B x → ¬ S x) (h2 : ∀ x, ps.ownBlock = some x → ¬ S x) (h3 : ∀ i (hi : i < L.length), ∀ x, (L[i]).set x → ¬ S x) : Sd w' wb base ps B N K L :=
  ⟨h.kp.fr hf h1, ownsRow_same h.row (fun g e => hf.block g (own_lt h.row e) (h2 g e)), h.off, fun i hi => (h.ok i hi).fr hf (h3 i hi), h.apart, h.away, h.low⟩
theorem Sd.below (h : Sd w wb base ps B N K L) (hb : Below w.heap.size w w') : Sd w' wb base ps B N K L := h.fr (S := fun _ => False) (Fr.below hb) (fun _ _ h => h) (fun _ _ h => h) (fun _ _ _ _ h => h)
theorem Sd.mono {N' K' : Nat} (h : Sd w wb base ps B N K L) (hN : N ≤ N') (hK : K ≤ K') : Sd w wb base ps B N' K' L := ⟨h.kp.mono hN, h.row, h.off, fun i hi => (h.ok i hi).mono hK, h.apart, h.away, h.low⟩
theorem Sd.base_le (h : Sd w wb base ps B N K L) : base ≤ w.heap.size := by
  have h1 := h.low.1 wb h.kp.wa.1
  have h2 := h.kp.setLt wb h.kp.wa.1
  omega
theorem Sd.put {K' : Nat} (h : Sd w wb base ps B N K L) (i : Nat) (hi : i < L.length) (q : PR) (hq : q.Ok w' base K') (hK : K ≤ K') (hp : q.ptr = (L[i]).ptr) (hf : Fr (L[i]).set w w') (hs : ∀ x, q.set x → (L[i]).set x ∨ w.heap.size ≤ x) : Sd w' wb base ps B N K' (L.set i q) := by
  have hl : (L.set i q).length = L.length := by simp
  have hm : (L.set i q).map PR.ptr = L.map PR.ptr := by
    apply List.ext_getElem (by simp)
    intro k h1 h2
    simp only [List.getElem_map, List.getElem_set]
    split
    · rename_i e; subst e; exact hp
    · rfl
  refine ⟨h.kp.fr hf (fun x hx hs => (h.away i hi x hs).1 hx), ?_, h.off, fun j hj => ?_, fun j k hj hk hne x hx hx2 => ?_, fun j hj x hx => ?_, h.low.1, fun j hj x hx => ?_⟩
  · rw [hl, hm]
    exact ownsRow_same h.row (fun g e => hf.block g (own_lt h.row e) (fun hs => (h.away i hi g hs).2 e))
  · rw [List.getElem_set]
    split
    · exact hq
    · rename_i hne
      exact ((h.ok j (by omega)).fr hf (fun x hx hs => h.apart i j hi (by omega) hne x hs hx)).mono hK
  · rw [List.getElem_set] at hx hx2
    split at hx
    · rename_i e
      split at hx2
      · rename_i e2; omega
      · rename_i hne2
        rcases hs x hx with h1 | h1
        · exact h.apart i k hi (by omega) hne2 x h1 hx2
        · have := (h.ok k (by omega)).lt x hx2
          omega
    · rename_i hne1
      split at hx2
      · rcases hs x hx2 with h1 | h1
        · exact h.apart i j hi (by omega) hne1 x h1 hx
        · have := (h.ok j (by omega)).lt x hx
          omega
      · exact h.apart j k (by omega) (by omega) hne x hx hx2
  · rw [List.getElem_set] at hx
    split at hx
    · rcases hs x hx with h1 | h1
      · exact h.away i hi x h1
      · refine ⟨fun e => ?_, fun e => ?_⟩
        · have := h.kp.setLt x e; omega
        · have := own_lt h.row e; omega
    · exact h.away j (by omega) x hx
  · rw [List.getElem_set] at hx
    split at hx
    · rcases hs x hx with h1 | h1
      · exact h.low.2 i hi x h1
      · have := h.base_le; omega
    · exact h.low.2 j (by omega) x hx
theorem Sd.took {v : Value} {M : Nat} (h : Sd w wb base ps B N K L) (hk : Kp w' wb base ps (fun x => (B x ∨ v.ownBlock = some x ∨ w.heap.size ≤ x) ∧ x < w'.heap.size) M) (hf : Fr (fun x => B x ∨ v.ownBlock = some x) w w') (h2 : ∀ x, v.ownBlock = some x → ps.ownBlock ≠ some x) (h3 : ∀ i (hi : i < L.length), ∀ x, (L[i]).set x → v.ownBlock ≠ some x) (h4 : ∀ x, v.ownBlock = some x → base ≤ x) :
    Sd w' wb base ps (fun x => (B x ∨ v.ownBlock = some x ∨ w.heap.size ≤ x) ∧ x < w'.heap.size) M K L := by
  refine ⟨hk, ownsRow_same h.row (fun g e => hf.block g (own_lt h.row e) (fun hs => ?_)), fun x hx hs => ?_, fun i hi => (h.ok i hi).fr hf (fun x hx hs => ?_), h.apart, fun i hi x hx => ⟨fun hs => ?_, (h.away i hi x hx).2⟩, fun x hx => ?_, h.low.2⟩
  · rcases hs with hs | hs
    · exact h.off g e hs
    · exact h2 g hs e
  · rcases hs.1 with hs | hs | hs
    · exact h.off x hx hs
    · exact h2 x hs hx
    · have := own_lt h.row hx; omega
  · rcases hs with hs | hs
    · exact (h.away i hi x hx).1 hs
    · exact h3 i hi x hx hs
  · rcases hs.1 with hs | hs | hs
    · exact (h.away i hi x hx).1 hs
    · exact h3 i hi x hx hs
    · have := (h.ok i hi).lt x hx; omega
  · rcases hx.1 with hx | hx | hx
    · exact h.low.1 x hx
    · exact h4 x hx
    · have := h.base_le; omega
theorem Sd.push {w1 w2 : World} {ps' : Value} {q : PR} (h : Sd w wb base ps B N K L) (hb : Below w.heap.size w w1) (hq : q.Ok w1 base K) (hqs : ∀ x, q.set x → w.heap.size ≤ x)
    (ho : w2.ownsRow base 114 1 ps' (L.length + 1) (L.map PR.ptr ++ [q.ptr])) (hg : Fr (fun x => ps.ownBlock = some x) w1 w2) (hp : ∀ x, ps'.ownBlock = some x → ps.ownBlock = some x ∨ w1.heap.size ≤ x) : Sd (w2.setCell ⟨wb, 8, none⟩ ps') wb base ps' B N K (L ++ [q]) := by
  have h1 := h.below hb
  have hs1 := hb.size
  have hwb := h.kp.wa.1
  have hwbl := h.kp.setLt wb hwb
  have k2 := h1.kp.fr hg (fun x hx e => h.off x e hx)
  have hqp : ∀ x, q.set x → ps.ownBlock ≠ some x := fun x hx e => by
    have h1 := hqs x hx
    have h2 := own_lt h.row e
    omega
  have hf : Fr (fun x => x = wb) w2 (w2.setCell ⟨wb, 8, none⟩ ps') := Fr.set w2 wb 8 ps' rfl
  have hpw : ps'.ownBlock ≠ some wb := fun e => by
    rcases hp wb e with e | e
    · exact h.off wb e hwb
    · omega
  refine ⟨k2.put8 ps', ?_, fun x hx hs => ?_, fun i hi => ?_, fun i j hi hj hne x hx hx2 => ?_, fun i hi x hx => ?_, h.low.1, fun i hi x hx => ?_⟩
  · rw [List.length_append, List.map_append]
    exact ownsRow_same ho (fun g e => hf.block g (own_lt ho e) (fun e2 => hpw (by rw [e, e2])))
  · rcases hp x hx with e | e
    · exact h.off x e hs
    · have := h.kp.setLt x hs; omega
  · rw [List.getElem_append]
    split
    · rename_i hlt
      exact ((h1.ok i hlt).fr hg (fun x hx e => (h.away i hlt x hx).2 e)).fr hf (fun x hx e => (h.away i hlt x hx).1 (by rw [e]; exact hwb))
    · simp only [List.getElem_singleton]
      exact (hq.fr hg (fun x hx e => hqp x hx e)).fr hf (fun x hx e => by have := hqs x hx; omega)
  · rw [List.getElem_append] at hx hx2
    split at hx
    · rename_i hi'
      split at hx2
      · rename_i hj'
        exact h.apart i j hi' hj' hne x hx hx2
      · simp only [List.getElem_singleton] at hx2
        have h1 := hqs x hx2
        have h2 := (h.ok i hi').lt x hx
        omega
    · simp only [List.getElem_singleton] at hx
      split at hx2
      · rename_i hj'
        have h1 := hqs x hx
        have h2 := (h.ok j hj').lt x hx2
        omega
      · simp at hi hj; omega
  · rw [List.getElem_append] at hx
    split at hx
    · rename_i hi'
      refine ⟨(h.away i hi' x hx).1, fun e => ?_⟩
      rcases hp x e with e | e
      · exact (h.away i hi' x hx).2 e
      · have := (h.ok i hi').lt x hx; omega
    · simp only [List.getElem_singleton] at hx
      have h1 := hqs x hx
      refine ⟨fun e => ?_, fun e => ?_⟩
      · have := h.kp.setLt x e; omega
      · rcases hp x e with e | e
        · exact hqp x hx e
        · have := hq.lt x hx; omega
  · rw [List.getElem_append] at hx
    split at hx
    · rename_i hi'
      exact h.low.2 i hi' x hx
    · simp only [List.getElem_singleton] at hx
      have h1 := hqs x hx
      have h2 := h.base_le
      omega
end
theorem put_len (room : Int) (st : List (List UInt8 × List UInt8)) (b : List UInt8) : (putP room st b).2.length ≤ st.length + 1 := by
  unfold putP
  split
  · simp
  · split <;> simp
theorem plant_len (st : List (List UInt8 × List UInt8)) (d b : List UInt8) : (plantP st d b).length ≤ st.length + 1 := by
  unfold plantP
  have := List.length_filter_le (fun p : List UInt8 × List UInt8 => !(p.1 == d)) st
  rw [List.length_append]
  split
  · simp; omega
  · simp; omega
theorem app_big {M : Nat} {st : List (List UInt8 × List UInt8)} {k b : List UInt8} (hb : b.length ≤ M) (h : ∀ d c, atP st d = some c → c.length ≤ M) (d c : List UInt8) (hc : atP (st ++ [(k, b)]) d = some c) : c.length ≤ M := by
  rw [atP_app] at hc
  split at hc
  · exact h d c hc
  · split at hc
    · obtain rfl := Option.some.inj hc
      exact hb
    · simp at hc
theorem put_big {M : Nat} {room : Int} {st : List (List UInt8 × List UInt8)} {b : List UInt8} (hb : b.length ≤ M) (h : ∀ d c, atP st d = some c → c.length ≤ M) (d c : List UInt8) (hc : atP (putP room st b).2 d = some c) : c.length ≤ M := by
  unfold putP at hc
  split at hc
  · exact h d c hc
  · split at hc
    · exact h d c hc
    · exact app_big hb h d c hc
theorem plant_big {M : Nat} {st : List (List UInt8 × List UInt8)} {k b : List UInt8} (hb : b.length ≤ M) (h : ∀ d c, atP st d = some c → c.length ≤ M) (d c : List UInt8) (hc : atP (plantP st k b) d = some c) : c.length ≤ M := by
  have hf : ∀ d c, atP (st.filter (fun p => !(p.1 == k))) d = some c → c.length ≤ M := fun d c hc => by
    rw [at_filter] at hc
    split at hc
    · simp at hc
    · exact h d c hc
  unfold plantP at hc
  split at hc
  · rw [List.append_nil] at hc
    exact hf d c hc
  · exact app_big hb hf d c hc
theorem PR.Ok.put {w w' : World} {base K : Nat} {p : PR} (h : p.Ok w base K) {b : List UInt8} (hb : b.length ≤ 1100000) {v1' v2' : Value} (hp : Pair w' p.pp p.sb p.pb p.um (p.n + 1) p.rb v1' v2' base p.room (putP p.room p.st b).2) :
    PR.Ok w' base (K + 1) ⟨p.pp, p.sb, p.pb, p.um, p.n + 1, p.rb, v1', v2', p.room, (putP p.room p.st b).2⟩ := by
  have h1 := put_len p.room p.st b
  have h2 := sum_put_le p.room p.st b
  have h3 := h.len
  have h4 := h.cnt
  have h5 := h.sum
  exact ⟨hp, h.r0, h.r1, by simp only; omega, by simp only; omega, by simp only; omega, fun d c hc => put_big hb h.big d c hc⟩
theorem PR.Ok.plant {w w' : World} {base K : Nat} {p : PR} (h : p.Ok w base K) {d b : List UInt8} (hb : b.length ≤ 1100000) {v1' v2' : Value} (hp : Pair w' p.pp p.sb p.pb p.um (p.n + 1) p.rb v1' v2' base p.room (plantP p.st d b)) :
    PR.Ok w' base (K + 1) ⟨p.pp, p.sb, p.pb, p.um, p.n + 1, p.rb, v1', v2', p.room, plantP p.st d b⟩ := by
  have h1 := plant_len p.st d b
  have h2 := sum_plant_le p.st d b
  have h3 := h.len
  have h4 := h.cnt
  have h5 := h.sum
  exact ⟨hp, h.r0, h.r1, by simp only; omega, by simp only; omega, by simp only; omega, fun d' c hc => plant_big hb h.big d' c hc⟩
end Go.Proofs.YtjmacegibchplaaGreatDoor
