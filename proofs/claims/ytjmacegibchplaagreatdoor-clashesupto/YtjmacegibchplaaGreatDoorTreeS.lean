/-
  The blobs of a tree by rising digests: plain lists. No walk.
-/
import Derived.Test.YtjmacegibchplaaGreatDoorTreeR
namespace Go.Proofs.YtjmacegibchplaaGreatDoor
set_option linter.unusedVariables false

/-- what an entry brings -/
def partP (l : List En) (e : En) : List (List UInt8) :=
  if e.kind = 0 then [blobP l 6 (e.path.data.toList ++ [47])] else if e.kind = 1 ∨ e.kind = 2 then [e.data.data.toList] else []
def allTo (l : List En) (k : Nat) : List (List UInt8) := blobP l 6 [] :: (l.take k).flatMap (partP l)
def allP (l : List En) : List (List UInt8) := allTo l l.length
theorem allTo_succ (l : List En) (k : Nat) (h : k < l.length) : allTo l (k + 1) = allTo l k ++ partP l l[k] := by
  unfold allTo; rw [List.take_succ_eq_append_getElem h, List.flatMap_append]; simp
theorem partP_len (l : List En) (e : En) : (partP l e).length ≤ 1 := by 
  unfold partP
  split
  · simp
  · split <;> simp
theorem allTo_len (l : List En) : ∀ k, k ≤ l.length → (allTo l k).length ≤ k + 1
  | 0, _ => by simp [allTo]
  | k + 1, h => by
    have := allTo_len l k (by omega)
    have := partP_len l l[k]
    rw [allTo_succ l k (by omega), List.length_append]; omega
/-- the best so far -/
def stepD (all : List (List UInt8)) (last : List UInt8) (best : Int) (i : Nat) : Int :=
  if less last (P.digest (all.getD i [])) && (decide (best < 0) || less (P.digest (all.getD i [])) (P.digest (all.getD best.toNat []))) then (i : Int) else best
def nxtTo (all : List (List UInt8)) (last : List UInt8) : Nat → Int
  | 0 => -1
  | k + 1 => stepD all last (nxtTo all last k) k
def nxtD (all : List (List UInt8)) (last : List UInt8) : Int := nxtTo all last all.length
theorem nxtTo_spec (all : List (List UInt8)) (last : List UInt8) : ∀ k,
    (nxtTo all last k = -1 ∧ ∀ i, i < k → less last (P.digest (all.getD i [])) = false) ∨
    (∃ b : Nat, b < k ∧ nxtTo all last k = b ∧ less last (P.digest (all.getD b [])) = true ∧ ∀ i, i < k → less last (P.digest (all.getD i [])) = true → less (P.digest (all.getD i [])) (P.digest (all.getD b [])) = false)
  | 0 => .inl ⟨rfl, fun i h => absurd h (by omega)⟩
  | k + 1 => by
    simp only [nxtTo, stepD]
    rcases nxtTo_spec all last k with ⟨h0, h1⟩ | ⟨b, hb, h0, h1, h2⟩
    · rw [h0]
      cases hl : less last (P.digest (all.getD k [])) with
      | false =>
        left
        refine ⟨by simp, fun i hi => ?_⟩
        rcases Nat.lt_or_ge i k with h | h
        · exact h1 i h
        · obtain rfl : i = k := by omega
          exact hl
      | true =>
        right
        refine ⟨k, by omega, by simp, hl, fun i hi hli => ?_⟩
        rcases Nat.lt_or_ge i k with h | h
        · rw [h1 i h] at hli; simp at hli
        · obtain rfl : i = k := by omega
          exact less_irr _
    · rw [h0]
      cases hl : (less last (P.digest (all.getD k [])) && (decide ((b : Int) < 0) || less (P.digest (all.getD k [])) (P.digest (all.getD (b : Int).toNat [])))) with
      | false =>
        right
        refine ⟨b, by omega, by simp, h1, fun i hi hli => ?_⟩
        rcases Nat.lt_or_ge i k with h | h
        · exact h2 i h hli
        · obtain rfl : i = k := by omega
          rw [hli] at hl
          simp only [Bool.true_and, Bool.or_eq_false_iff, Int.toNat_natCast] at hl
          exact hl.2
      | true =>
        simp only [Bool.and_eq_true, Bool.or_eq_true, decide_eq_true_eq, Int.toNat_natCast] at hl
        have hlt : less (P.digest (all.getD k [])) (P.digest (all.getD b [])) = true := by
          rcases hl.2 with h | h
          · omega
          · exact h
        right
        refine ⟨k, by omega, by simp, hl.1, fun i hi hli => ?_⟩
        rcases Nat.lt_or_ge i k with h | h
        · cases hx : less (P.digest (all.getD i [])) (P.digest (all.getD k [])) with
          | false => rfl
          | true => have := less_trans _ _ _ hx hlt; rw [h2 i h hli] at this; simp at this
        · obtain rfl : i = k := by omega
          exact less_irr _
theorem nxtTo_bd (all : List (List UInt8)) (last : List UInt8) (k : Nat) : -1 ≤ nxtTo all last k ∧ nxtTo all last k < k := by
  rcases nxtTo_spec all last k with ⟨h0, _⟩ | ⟨b, hb, h0, _⟩ <;> omega
/-- how many digests stand behind 'last' -/
def beyond (all : List (List UInt8)) (last : List UInt8) : Nat := (all.filter fun y => less last (P.digest y)).length
theorem beyond_le (all : List (List UInt8)) (last : List UInt8) : beyond all last ≤ all.length := List.length_filter_le _ _
theorem beyond_lt (all : List (List UInt8)) (last : List UInt8) (b : Nat) (h : b < all.length) (hl : less last (P.digest (all.getD b [])) = true) : beyond all (P.digest (all.getD b [])) < beyond all last := by
  have e : all.getD b [] = all[b] := by rw [List.getD_eq_getElem?_getD, List.getElem?_eq_getElem h]; rfl
  exact filter_lt _ _ (fun x hx => less_trans _ _ _ hl hx) all ⟨all[b], List.getElem_mem h, by rw [← e]; exact hl, by rw [← e]; exact less_irr _⟩
/-- another blob of the same digest -/
def clashP (all : List (List UInt8)) (x : List UInt8) : Bool := all.any fun y => P.digest y == P.digest x && !(y == x)
def outG (all : List (List UInt8)) : Nat → List UInt8 → Option (List (List UInt8))
  | 0, _ => some []
  | f + 1, last => if nxtD all last < 0 then some [] else
      if clashP all (all.getD (nxtD all last).toNat []) then none else (outG all f (P.digest (all.getD (nxtD all last).toNat []))).map (all.getD (nxtD all last).toNat [] :: ·)
def outsP (all : List (List UInt8)) : Option (List (List UInt8)) := outG all (all.length + 1) []
/-- how a Build ends -/
def builtP (l : List En) : Option (List (List UInt8)) := outsP (allP l)
end Go.Proofs.YtjmacegibchplaaGreatDoor
