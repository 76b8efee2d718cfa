/-
  What stands in a directory, by rising names: plain lists. No walk.
-/
import Derived.Test.YtjmacegibchplaaGreatDoorTreeP
namespace Go.Proofs.YtjmacegibchplaaGreatDoor
set_option linter.unusedVariables false

/-- the order of texts -/
def less (a b : List UInt8) : Bool := Op.bytesLess a b
theorem less_nil (a : List UInt8) : less a [] = false := by cases a <;> simp [less, Op.bytesLess]
theorem less_cons (a b : UInt8) (x y : List UInt8) : less (a :: x) (b :: y) = (decide (a < b) || (a == b && less x y)) := by simp [less, Op.bytesLess]
theorem less_irr : ∀ a, less a a = false
  | [] => less_nil _
  | c :: a => by rw [less_cons, less_irr a]; simp
theorem less_trans : ∀ a b c, less a b = true → less b c = true → less a c = true
  | [], [], c, h, _ => by simp [less_nil] at h
  | [], b :: y, [], _, h => by simp [less_nil] at h
  | [], b :: y, c :: z, _, _ => by simp [less, Op.bytesLess]
  | a :: x, [], c, h, _ => by simp [less_nil] at h
  | a :: x, b :: y, [], _, h => by simp [less_nil] at h
  | a :: x, b :: y, c :: z, h1, h2 => by
    rw [less_cons] at *
    simp only [Bool.or_eq_true, Bool.and_eq_true, decide_eq_true_eq, beq_iff_eq] at *
    rcases h1 with h1 | ⟨rfl, h1⟩ <;> rcases h2 with h2 | ⟨rfl, h2⟩
    · left; exact UInt8.lt_trans h1 h2
    · left; exact h1
    · left; exact h2
    · right; exact ⟨rfl, less_trans x y z h1 h2⟩
theorem less_tri : ∀ a b, less a b = false → less b a = false → a = b
  | [], [], _, _ => rfl
  | [], b :: y, h, _ => by simp [less, Op.bytesLess] at h
  | a :: x, [], _, h => by simp [less, Op.bytesLess] at h
  | a :: x, b :: y, h1, h2 => by
    rw [less_cons] at *
    simp only [Bool.or_eq_false_iff, Bool.and_eq_false_iff, decide_eq_false_iff_not, beq_eq_false_iff_ne] at *
    have hab : a = b := by
      have q1 := h1.1
      have q2 := h2.1
      rw [UInt8.lt_iff_toNat_lt] at q1 q2
      exact UInt8.toNat_inj.1 (by omega)
    subst hab
    rw [less_tri x y (by simpa using h1.2) (by simpa using h2.2)]
theorem less_asym (a b : List UInt8) (h : less a b = true) : less b a = false := by
  cases h2 : less b a with
  | false => rfl
  | true => have := less_trans _ _ _ h h2; rw [less_irr] at this; simp at this
theorem gt_eq (n la : List UInt8) : (!(less n la || n == la)) = less la n := by
  cases h : less la n with
  | true =>
    have h1 := less_asym _ _ h
    have h2 : n ≠ la := fun e => by subst e; rw [less_irr] at h; simp at h
    simp [h1, h2]
  | false =>
    cases h1 : less n la with
    | true => rfl
    | false => simp [less_tri _ _ h1 h]
/-- the name of what stands in a directory -/
def kid (path p : List UInt8) : Option (List UInt8) := if path.length < p.length ∧ p.take path.length = path ∧ P.has (p.drop path.length) 47 = false then some (p.drop path.length) else none
theorem kid_some {path p n : List UInt8} (h : kid path p = some n) : p = path ++ n ∧ n ≠ [] ∧ P.has n 47 = false := by
  unfold kid at h
  split at h
  · rename_i hc
    simp at h
    subst h
    refine ⟨?_, ?_, hc.2.2⟩
    · conv => lhs; rw [← List.take_append_drop path.length p, hc.2.1]
    · intro h0
      have := congrArg List.length h0
      simp at this; omega
  · simp at h
/-- one entry more is looked at -/
def stepK (last : List UInt8) (st : Int × List UInt8) (i : Nat) : Option (List UInt8) → Int × List UInt8
  | none => st
  | some n => if less last n && (decide (st.1 < 0) || less n st.2) then ((i : Int), n) else st
def stepB (path last : List UInt8) (st : Int × List UInt8) (i : Nat) (e : En) : Int × List UInt8 := stepK last st i (kid path e.path.data.toList)
def bst (path last : List UInt8) : List En → Nat → Int × List UInt8 → Int × List UInt8
  | [], _, st => st
  | e :: r, i, st => bst path last r (i + 1) (stepB path last st i e)
/-- what it is that is found -/
def Best (path last : List UInt8) (l : List En) (st : Int × List UInt8) : Prop :=
  (st.1 < 0 ∧ ∀ e ∈ l, ∀ m, kid path e.path.data.toList = some m → less last m = false) ∨
  (∃ i : Nat, ∃ h : i < l.length, st.1 = i ∧ kid path l[i].path.data.toList = some st.2 ∧ less last st.2 = true ∧ ∀ e ∈ l, ∀ m, kid path e.path.data.toList = some m → less last m = true → less m st.2 = false)
theorem stepB_best (path last : List UInt8) (l : List En) (st : Int × List UInt8) (e : En) (h : Best path last l st) : Best path last (l ++ [e]) (stepB path last st l.length e) := by
  unfold stepB
  cases hk : kid path e.path.data.toList with
  | none =>
    simp only [stepK]
    rcases h with ⟨h0, h⟩ | ⟨i, hi, h0, h1, h2, h3⟩
    · left
      refine ⟨h0, fun x hx m hm => ?_⟩
      rcases List.mem_append.1 hx with hx | hx
      · exact h x hx m hm
      · simp at hx; subst hx; rw [hk] at hm; simp at hm
    · right
      refine ⟨i, by simp; omega, h0, by rw [List.getElem_append_left hi]; exact h1, h2, fun x hx m hm hl => ?_⟩
      rcases List.mem_append.1 hx with hx | hx
      · exact h3 x hx m hm hl
      · simp at hx; subst hx; rw [hk] at hm; simp at hm
  | some n =>
    simp only [stepK]
    cases hb : (less last n && (decide (st.1 < 0) || less n st.2)) with
    | true =>
      simp only [if_true]
      simp only [Bool.and_eq_true, Bool.or_eq_true, decide_eq_true_eq] at hb
      right
      refine ⟨l.length, by simp, rfl, by simpa using hk, hb.1, fun x hx m hm hl => ?_⟩
      rcases List.mem_append.1 hx with hx | hx
      · rcases h with ⟨h0, h⟩ | ⟨i, hi, h0, h1, h2, h3⟩
        · rw [h x hx m hm] at hl; simp at hl
        · have hn : less n st.2 = true := by
            rcases hb.2 with h4 | h4
            · omega
            · exact h4
          cases hmn : less m n with
          | false => rfl
          | true => have := less_trans _ _ _ hmn hn; rw [h3 x hx m hm hl] at this; simp at this
      · simp at hx; subst hx; rw [hk] at hm; simp at hm; subst hm; exact less_irr _
    | false =>
      simp only [Bool.false_eq_true, if_false]
      rcases h with ⟨h0, h⟩ | ⟨i, hi, h0, h1, h2, h3⟩
      · left
        refine ⟨h0, fun x hx m hm => ?_⟩
        rcases List.mem_append.1 hx with hx | hx
        · exact h x hx m hm
        · simp at hx; subst hx; rw [hk] at hm; simp at hm; subst hm
          simpa [h0] using hb
      · right
        refine ⟨i, by simp; omega, h0, by rw [List.getElem_append_left hi]; exact h1, h2, fun x hx m hm hl => ?_⟩
        rcases List.mem_append.1 hx with hx | hx
        · exact h3 x hx m hm hl
        · simp at hx; subst hx; rw [hk] at hm; simp at hm; subst hm
          rw [hl] at hb
          simp only [Bool.true_and, Bool.or_eq_false_iff] at hb
          exact hb.2
theorem bst_best (path last : List UInt8) : ∀ (r l : List En) (st : Int × List UInt8), Best path last l st → Best path last (l ++ r) (bst path last r l.length st)
  | [], l, st, h => by simpa [bst] using h
  | e :: r, l, st, h => by
    have h1 := stepB_best path last l st e h
    have h2 := bst_best path last r (l ++ [e]) _ h1
    simp only [bst]
    simpa using h2
/-- the next by name behind 'last': its place (none: below 0) and its name -/
def nxt (l : List En) (path last : List UInt8) : Int × List UInt8 := bst path last l 0 (-1, [])
theorem nxt_best (l : List En) (path last : List UInt8) : Best path last l (nxt l path last) := by
  have := bst_best path last l [] (-1, []) (.inl ⟨by decide, fun e he => absurd he (by simp)⟩)
  simpa [nxt] using this
/-- how many stand behind 'last' -/
def behind (l : List En) (path last : List UInt8) : Nat := (l.filter fun e => match kid path e.path.data.toList with | none => false | some n => less last n).length
theorem behind_le (l : List En) (path last : List UInt8) : behind l path last ≤ l.length := List.length_filter_le _ _
theorem filter_lt {α : Type} (p q : α → Bool) (hpq : ∀ x, p x = true → q x = true) : ∀ (l : List α), (∃ x ∈ l, q x = true ∧ p x = false) → (l.filter p).length < (l.filter q).length
  | [], h => by obtain ⟨x, hx, _⟩ := h; simp at hx
  | y :: l, h => by
    have hle : (l.filter p).length ≤ (l.filter q).length := by
      clear h
      induction l with
      | nil => simp
      | cons z l ih =>
        simp only [List.filter_cons]
        cases hp : p z with
        | true => simp [hpq z hp]; exact ih
        | false => cases q z <;> simp <;> omega
    obtain ⟨x, hx, hq, hp⟩ := h
    simp only [List.filter_cons]
    rcases List.mem_cons.1 hx with rfl | hx
    · simp [hq, hp]; omega
    · have ih := filter_lt p q hpq l ⟨x, hx, hq, hp⟩
      cases hp2 : p y with
      | true => simp [hpq y hp2]; exact ih
      | false => cases q y <;> simp <;> omega
theorem behind_lt (l : List En) (path last : List UInt8) (h : ¬ (nxt l path last).1 < 0) : behind l path (nxt l path last).2 < behind l path last := by
  rcases nxt_best l path last with ⟨h0, _⟩ | ⟨i, hi, h0, h1, h2, h3⟩
  · exact absurd h0 h
  · refine filter_lt _ _ (fun e he => ?_) l ⟨l[i], List.getElem_mem hi, ?_, ?_⟩
    · cases hk : kid path e.path.data.toList with
      | none => rw [hk] at he; simp at he
      | some n => rw [hk] at he; simp only at he ⊢; exact less_trans _ _ _ h2 he
    · rw [h1]; exact h2
    · rw [h1]; exact less_irr _
/-- the places of what is in a directory, behind 'last', by rising names -/
def insG (l : List En) (path : List UInt8) : Nat → List UInt8 → List Nat
  | 0, _ => []
  | f + 1, last => if (nxt l path last).1 < 0 then [] else (nxt l path last).1.toNat :: insG l path f (nxt l path last).2
def insP (l : List En) (path : List UInt8) : List Nat := insG l path (l.length + 1) []
end Go.Proofs.YtjmacegibchplaaGreatDoor
