import Derived.Test.YtjmacegibchplaaGreatDoorDecP
namespace Go.Proofs.YtjmacegibchplaaGreatDoor
set_option linter.unusedVariables false
structure En where
 path : ByteArray
 kind : Int
 data : ByteArray
def en0 : En := ⟨⟨#[]⟩, 0, ⟨#[]⟩⟩
def sp : List UInt8 → List (List UInt8)
 | [] => [[]]
 | c :: r => if c = 47 then [] :: sp r else match sp r with
  | [] => [[c]]
  | h :: t => (c :: h) :: t
theorem sp_end : ∀ (a : List UInt8), P.has a 47 = false → sp a = [a]
 | [], _ => rfl
 | c :: a, h => by
  simp only [P.has] at h
  by_cases e : c == 47
  ·simp [e] at h
  ·simp only [e, Bool.false_eq_true, if_false] at h
   have hc : ¬ c = 47 := by simpa using e
   simp only [sp, if_neg hc, sp_end a h]
theorem sp_slash : ∀ (a r : List UInt8), P.has a 47 = false → sp (a ++ 47 :: r) = a :: sp r
 | [], r, _ => by simp [sp]
 | c :: a, r, h => by
  simp only [P.has] at h
  by_cases e : c == 47
  ·simp [e] at h
  ·simp only [e, Bool.false_eq_true, if_false] at h
   have hc : ¬ c = 47 := by simpa using e
   simp only [List.cons_append, sp, if_neg hc, sp_slash a r h]
theorem sp_ne : ∀ (a : List UInt8), sp a ≠ []
 | [] => by simp [sp]
 | c :: a => by
  simp only [sp]
  split
  ·simp
  ·split <;> simp
theorem sp_len : ∀ (a : List UInt8), (sp a).length ≤ a.length + 1
 | [] => by simp [sp]
 | c :: a => by
  have ih := sp_len a
  simp only [sp]
  split
  ·simp; omega
  ·split
   ·simp
   ·rename_i h t e; rw [e] at ih; simp at ih ⊢; omega
theorem sp_part : ∀ (a x : List UInt8), x ∈ sp a → x.length ≤ a.length
 | [], x, h => by simp [sp] at h; subst h; simp
 | c :: a, x, h => by
  simp only [sp] at h
  split at h
  ·simp at h
   rcases h with rfl | h
   ·simp
   ·have := sp_part a x h; simp; omega
  ·split at h
   ·simp at h; subst h; simp
   ·rename_i hh t e
    simp at h
    rcases h with rfl | h
    ·have := sp_part a hh (by rw [e]; simp); simp; omega
    ·have := sp_part a x (by rw [e]; simp [h]); simp; omega
def outGo : Int → List (List UInt8) → Bool
 | _, [] => false
 | d, x :: r =>
  let d' := if x = [46, 46] then d - 1 else if x = [] ∨ x = [46] then d else d + 1
  if d' < 0 then true else outGo d' r
def outP (d : Int) (t : List UInt8) : Bool := if t.head? = some 47 then true else outGo d (sp t)
def findP (l : List En) (path : List UInt8) : Int :=
 match l.findIdx? (fun e => e.path.data.toList == path) with
 | some i => (i : Int)
 | none => -1
def kindBad (e : En) : Bool :=
 decide (e.kind < 0) || decide (3 < e.kind) || (e.kind == 0 && !e.data.toList.isEmpty) || ((e.kind == 1 || e.kind == 2) && decide ((60 : Int) < (e.data.size : Int))) || (e.kind == 3 && !P.isTarget e.data.data.toList)
def upPath (path : List UInt8) : List UInt8 := path.take (path.length - ((sp path).getLastD []).length - 1)
def upBad (l : List En) (path : List UInt8) : Bool :=
 if (sp path).length ≤ 1 then false else
  if findP l (upPath path) < 0 then true else (l.getD (findP l (upPath path)).toNat en0).kind != 0
def fineP (l : List En) (i : Nat) : Bool :=
 let e := l.getD i en0
 decide ((sp e.path.data.toList).length ≤ 5) && (sp e.path.data.toList).all P.isName && !kindBad e && !upBad l e.path.data.toList && (findP l e.path.data.toList == (i : Int))
def wrongP (l : List En) : Int :=
 if 40 < l.length then 1 else if (List.range l.length).all (fineP l) = false then 1
  else if (l.any fun e => e.kind == 3 && outP ((sp e.path.data.toList).length - 1) e.data.data.toList) then 2 else 0
def less (a b : List UInt8) : Bool := Op.bytesLess a b
theorem less_nil (a : List UInt8) : less a [] = false := by cases a <;> simp [less, Op.bytesLess]
theorem less_cons (a b : UInt8) (x y : List UInt8) : less (a :: x) (b :: y) = (decide (a < b) || (a == b && less x y)) := by simp [less, Op.bytesLess]
theorem less_irr : ∀ a, less a a = false
 | [] => less_nil _
 | c :: a => by rw [less_cons, less_irr a]; simp
theorem less_trans : ∀ a b c, less a b = true → less b c = true → less a c = true
 | [], [], c, h, _ => by simp [less_nil] at h
 | [], b :: y, [], _, h => by simp [less_nil] at h
 | [], b :: y, c :: z, _, _ => by simp [less, Op.bytesLess]
 | a :: x, [], c, h, _ => by simp [less_nil] at h
 | a :: x, b :: y, [], _, h => by simp [less_nil] at h
 | a :: x, b :: y, c :: z, h1, h2 => by
  rw [less_cons] at *
  simp only [Bool.or_eq_true, Bool.and_eq_true, decide_eq_true_eq, beq_iff_eq] at *
  rcases h1 with h1 | ⟨rfl, h1⟩ <;> rcases h2 with h2 | ⟨rfl, h2⟩
  ·left; exact UInt8.lt_trans h1 h2
  ·left; exact h1
  ·left; exact h2
  ·right; exact ⟨rfl, less_trans x y z h1 h2⟩
theorem less_tri : ∀ a b, less a b = false → less b a = false → a = b
 | [], [], _, _ => rfl
 | [], b :: y, h, _ => by simp [less, Op.bytesLess] at h
 | a :: x, [], _, h => by simp [less, Op.bytesLess] at h
 | a :: x, b :: y, h1, h2 => by
  rw [less_cons] at *
  simp only [Bool.or_eq_false_iff, Bool.and_eq_false_iff, decide_eq_false_iff_not, beq_eq_false_iff_ne] at *
  have hab : a = b := by
   have q1 := h1.1
   have q2 := h2.1
   rw [UInt8.lt_iff_toNat_lt] at q1 q2
   exact UInt8.toNat_inj.1 (by omega)
  subst hab
  rw [less_tri x y (by simpa using h1.2) (by simpa using h2.2)]
theorem less_asym (a b : List UInt8) (h : less a b = true) : less b a = false := by
 cases h2 : less b a with
 | false => rfl
 | true => have := less_trans _ _ _ h h2; rw [less_irr] at this; simp at this
theorem gt_eq (n la : List UInt8) : (!(less n la || n == la)) = less la n := by
 cases h : less la n with
 | true =>
  have h1 := less_asym _ _ h
  have h2 : n ≠ la := fun e => by subst e; rw [less_irr] at h; simp at h
  simp [h1, h2]
 | false =>
  cases h1 : less n la with
  | true => rfl
  | false => simp [less_tri _ _ h1 h]
def kid (path p : List UInt8) : Option (List UInt8) := if path.length < p.length ∧ p.take path.length = path ∧ P.has (p.drop path.length) 47 = false then some (p.drop path.length) else none
theorem kid_some {path p n : List UInt8} (h : kid path p = some n) : p = path ++ n ∧ n ≠ [] ∧ P.has n 47 = false := by
 unfold kid at h
 split at h
 ·rename_i hc
  simp at h
  subst h
  refine ⟨?_, ?_, hc.2.2⟩
  ·conv => lhs; rw [← List.take_append_drop path.length p, hc.2.1]
  ·intro h0
   have := congrArg List.length h0
   simp at this; omega
 ·simp at h
def stepK (last : List UInt8) (st : Int × List UInt8) (i : Nat) : Option (List UInt8) → Int × List UInt8
 | none => st
 | some n => if less last n && (decide (st.1 < 0) || less n st.2) then ((i : Int), n) else st
def stepB (path last : List UInt8) (st : Int × List UInt8) (i : Nat) (e : En) : Int × List UInt8 := stepK last st i (kid path e.path.data.toList)
def bst (path last : List UInt8) : List En → Nat → Int × List UInt8 → Int × List UInt8
 | [], _, st => st
 | e :: r, i, st => bst path last r (i + 1) (stepB path last st i e)
def Best (path last : List UInt8) (l : List En) (st : Int × List UInt8) : Prop :=
 (st.1 < 0 ∧ ∀ e ∈ l, ∀ m, kid path e.path.data.toList = some m → less last m = false) ∨
 (∃ i : Nat, ∃ h : i < l.length, st.1 = i ∧ kid path l[i].path.data.toList = some st.2 ∧ less last st.2 = true ∧ ∀ e ∈ l, ∀ m, kid path e.path.data.toList = some m → less last m = true → less m st.2 = false)
theorem stepB_best (path last : List UInt8) (l : List En) (st : Int × List UInt8) (e : En) (h : Best path last l st) : Best path last (l ++ [e]) (stepB path last st l.length e) := by
 unfold stepB
 cases hk : kid path e.path.data.toList with
 | none =>
  simp only [stepK]
  rcases h with ⟨h0, h⟩ | ⟨i, hi, h0, h1, h2, h3⟩
  ·left
   refine ⟨h0, fun x hx m hm => ?_⟩
   rcases List.mem_append.1 hx with hx | hx
   ·exact h x hx m hm
   ·simp at hx; subst hx; rw [hk] at hm; simp at hm
  ·right
   refine ⟨i, by simp; omega, h0, by rw [List.getElem_append_left hi]; exact h1, h2, fun x hx m hm hl => ?_⟩
   rcases List.mem_append.1 hx with hx | hx
   ·exact h3 x hx m hm hl
   ·simp at hx; subst hx; rw [hk] at hm; simp at hm
 | some n =>
  simp only [stepK]
  cases hb : (less last n && (decide (st.1 < 0) || less n st.2)) with
  | true =>
   simp only [if_true]
   simp only [Bool.and_eq_true, Bool.or_eq_true, decide_eq_true_eq] at hb
   right
   refine ⟨l.length, by simp, rfl, by simpa using hk, hb.1, fun x hx m hm hl => ?_⟩
   rcases List.mem_append.1 hx with hx | hx
   ·rcases h with ⟨h0, h⟩ | ⟨i, hi, h0, h1, h2, h3⟩
    ·rw [h x hx m hm] at hl; simp at hl
    ·have hn : less n st.2 = true := by
      rcases hb.2 with h4 | h4
      ·omega
      ·exact h4
     cases hmn : less m n with
     | false => rfl
     | true => have := less_trans _ _ _ hmn hn; rw [h3 x hx m hm hl] at this; simp at this
   ·simp at hx; subst hx; rw [hk] at hm; simp at hm; subst hm; exact less_irr _
  | false =>
   simp only [Bool.false_eq_true, if_false]
   rcases h with ⟨h0, h⟩ | ⟨i, hi, h0, h1, h2, h3⟩
   ·left
    refine ⟨h0, fun x hx m hm => ?_⟩
    rcases List.mem_append.1 hx with hx | hx
    ·exact h x hx m hm
    ·simp at hx; subst hx; rw [hk] at hm; simp at hm; subst hm
     simpa [h0] using hb
   ·right
    refine ⟨i, by simp; omega, h0, by rw [List.getElem_append_left hi]; exact h1, h2, fun x hx m hm hl => ?_⟩
    rcases List.mem_append.1 hx with hx | hx
    ·exact h3 x hx m hm hl
    ·simp at hx; subst hx; rw [hk] at hm; simp at hm; subst hm
     rw [hl] at hb
     simp only [Bool.true_and, Bool.or_eq_false_iff] at hb
     exact hb.2
theorem bst_best (path last : List UInt8) : ∀ (r l : List En) (st : Int × List UInt8), Best path last l st → Best path last (l ++ r) (bst path last r l.length st)
 | [], l, st, h => by simpa [bst] using h
 | e :: r, l, st, h => by
  have h1 := stepB_best path last l st e h
  have h2 := bst_best path last r (l ++ [e]) _ h1
  simp only [bst]
  simpa using h2
def nxt (l : List En) (path last : List UInt8) : Int × List UInt8 := bst path last l 0 (-1, [])
theorem nxt_best (l : List En) (path last : List UInt8) : Best path last l (nxt l path last) := by
 have := bst_best path last l [] (-1, []) (.inl ⟨by decide, fun e he => absurd he (by simp)⟩)
 simpa [nxt] using this
def behind (l : List En) (path last : List UInt8) : Nat := (l.filter fun e => match kid path e.path.data.toList with | none => false | some n => less last n).length
theorem behind_le (l : List En) (path last : List UInt8) : behind l path last ≤ l.length := List.length_filter_le _ _
theorem filter_lt {α : Type} (p q : α → Bool) (hpq : ∀ x, p x = true → q x = true) : ∀ (l : List α), (∃ x ∈ l, q x = true ∧ p x = false) → (l.filter p).length < (l.filter q).length
 | [], h => by obtain ⟨x, hx, _⟩ := h; simp at hx
 | y :: l, h => by
  have hle : (l.filter p).length ≤ (l.filter q).length := by
   clear h
   induction l with
   | nil => simp
   | cons z l ih =>
    simp only [List.filter_cons]
    cases hp : p z with
    | true => simp [hpq z hp]; exact ih
    | false => cases q z <;> simp <;> omega
  obtain ⟨x, hx, hq, hp⟩ := h
  simp only [List.filter_cons]
  rcases List.mem_cons.1 hx with rfl | hx
  ·simp [hq, hp]; omega
  ·have ih := filter_lt p q hpq l ⟨x, hx, hq, hp⟩
   cases hp2 : p y with
   | true => simp [hpq y hp2]; exact ih
   | false => cases q y <;> simp <;> omega
theorem behind_lt (l : List En) (path last : List UInt8) (h : ¬ (nxt l path last).1 < 0) : behind l path (nxt l path last).2 < behind l path last := by
 rcases nxt_best l path last with ⟨h0, _⟩ | ⟨i, hi, h0, h1, h2, h3⟩
 ·exact absurd h0 h
 ·refine filter_lt _ _ (fun e he => ?_) l ⟨l[i], List.getElem_mem hi, ?_, ?_⟩
  ·cases hk : kid path e.path.data.toList with
   | none => rw [hk] at he; simp at he
   | some n => rw [hk] at he; simp only at he ⊢; exact less_trans _ _ _ h2 he
  ·rw [h1]; exact h2
  ·rw [h1]; exact less_irr _
def insG (l : List En) (path : List UInt8) : Nat → List UInt8 → List Nat
 | 0, _ => []
 | f + 1, last => if (nxt l path last).1 < 0 then [] else (nxt l path last).1.toNat :: insG l path f (nxt l path last).2
def insP (l : List En) (path : List UInt8) : List Nat := insG l path (l.length + 1) []
theorem sp_app (a r : List UInt8) : sp (a ++ 47 :: r) = sp a ++ sp r := by
 induction a with
 | nil => simp [sp]
 | cons c a ih =>
  simp only [List.cons_append, sp]
  by_cases hc : c = 47
  ·simp only [if_pos hc, ih]; rfl
  ·simp only [if_neg hc, ih]
   cases ha : sp a with
   | nil => exact absurd ha (sp_ne a)
   | cons h t => rfl
theorem sp_more : ∀ (a n : List UInt8), P.has n 47 = false → (sp (a ++ n)).length = (sp a).length
 | [], n, h => by rw [List.nil_append, sp_end n h]; rfl
 | c :: a, n, h => by
  have ih := sp_more a n h
  simp only [List.cons_append, sp]
  by_cases hc : c = 47
  ·simp only [if_pos hc]; simp [ih]
  ·simp only [if_neg hc]
   cases h1 : sp (a ++ n) with
   | nil => exact absurd h1 (sp_ne _)
   | cons x t => cases h2 : sp a with
    | nil => exact absurd h2 (sp_ne _)
    | cons y u => rw [h1, h2] at ih; simpa using ih
def DirPath (path : List UInt8) : Prop := path = [] ∨ ∃ q, path = q ++ [47]
theorem kid_name {path p n : List UInt8} (hd : DirPath path) (h : kid path p = some n) : n ∈ sp p := by
 obtain ⟨rfl, _, hn⟩ := kid_some h
 rcases hd with rfl | ⟨q, rfl⟩
 ·rw [List.nil_append, sp_end n hn]; simp
 ·rw [List.append_assoc]
  show n ∈ sp (q ++ 47 :: n)
  rw [sp_app, sp_end n hn]; simp
structure Tree (l : List En) : Prop where
 len : l.length ≤ 40
 fine : ∀ i, i < l.length → fineP l i = true
def nm (l : List En) (path : List UInt8) (i : Nat) : List UInt8 := (l.getD i en0).path.data.toList.drop path.length
theorem en_getD (l : List En) (i : Nat) (h : i < l.length) : l.getD i en0 = l[i] := by rw [List.getD_eq_getElem?_getD, List.getElem?_eq_getElem h]; rfl
theorem nm_kid (l : List En) (path n : List UInt8) (i : Nat) (h : i < l.length) (hk : kid path l[i].path.data.toList = some n) : nm l path i = n := by
 obtain ⟨e, _⟩ := kid_some hk
 rw [nm, en_getD l i h, e, List.drop_left]
theorem insG_mem (l : List En) (path : List UInt8) : ∀ f last i, i ∈ insG l path f last → i < l.length ∧ kid path (l.getD i en0).path.data.toList = some (nm l path i) ∧ less last (nm l path i) = true
 | 0, _, _, h => by simp [insG] at h
 | f + 1, last, i, h => by
  simp only [insG] at h
  split at h
  ·simp at h
  ·rename_i hneg
   rcases nxt_best l path last with ⟨h0, _⟩ | ⟨j, hj, h0, h1, h2, h3⟩
   ·exact absurd h0 hneg
   ·have hn := nm_kid l path _ j hj h1
    rcases List.mem_cons.1 h with rfl | h
    ·rw [h0, Int.toNat_natCast]
     exact ⟨hj, by rw [en_getD l j hj, hn]; exact h1, by rw [hn]; exact h2⟩
    ·obtain ⟨q1, q2, q3⟩ := insG_mem l path f _ i h
     exact ⟨q1, q2, less_trans _ _ _ h2 q3⟩
theorem insG_sorted (l : List En) (path : List UInt8) : ∀ f last, (insG l path f last).Pairwise (fun i j => less (nm l path i) (nm l path j) = true)
 | 0, _ => by simp [insG]
 | f + 1, last => by
  simp only [insG]
  split
  ·simp
  ·rename_i hneg
   rcases nxt_best l path last with ⟨h0, _⟩ | ⟨j, hj, h0, h1, h2, h3⟩
   ·exact absurd h0 hneg
   ·have hn := nm_kid l path _ j hj h1
    rw [List.pairwise_cons]
    refine ⟨fun i hi => ?_, insG_sorted l path f _⟩
    rw [h0, Int.toNat_natCast, hn]
    exact (insG_mem l path f _ i hi).2.2
theorem insG_len (l : List En) (path : List UInt8) : ∀ f last, (insG l path f last).length ≤ behind l path last
 | 0, _ => by simp [insG]
 | f + 1, last => by
  simp only [insG]
  split
  ·simp
  ·rename_i hneg
   have h1 := behind_lt l path last hneg
   have h2 := insG_len l path f (nxt l path last).2
   simp; omega
theorem insG_all (l : List En) (path : List UInt8) : ∀ f last, behind l path last < f → ∀ j (h : j < l.length) m, kid path l[j].path.data.toList = some m → less last m = true → ∃ i ∈ insG l path f last, nm l path i = m
 | 0, _, h, _, _, _, _, _ => absurd h (by omega)
 | f + 1, last, hf, j, hj, m, hm, hl => by
  simp only [insG]
  rcases nxt_best l path last with ⟨h0, h⟩ | ⟨i, hi, h0, h1, h2, h3⟩
  ·rw [h _ (List.getElem_mem hj) m hm] at hl; simp at hl
  ·have hneg : ¬ (nxt l path last).1 < 0 := by omega
   rw [if_neg hneg]
   have hb := behind_lt l path last hneg
   have hn := nm_kid l path _ i hi h1
   have hle := h3 _ (List.getElem_mem hj) m hm hl
   by_cases he : m = (nxt l path last).2
   ·exact ⟨i, by rw [h0]; simp, by rw [hn, he]⟩
   ·have hlt : less (nxt l path last).2 m = true := by
     cases hx : less (nxt l path last).2 m with
     | true => rfl
     | false => exact absurd (less_tri _ _ hle hx) he
    obtain ⟨i', hi', e'⟩ := insG_all l path f _ (by omega) j hj m hm hlt
    exact ⟨i', List.mem_cons_of_mem _ hi', e'⟩
theorem insP_len (l : List En) (path : List UInt8) : (insP l path).length ≤ l.length := Nat.le_trans (insG_len l path _ _) (behind_le l path [])
theorem insP_mem {l : List En} {path : List UInt8} {i : Nat} (h : i ∈ insP l path) : i < l.length ∧ kid path (l.getD i en0).path.data.toList = some (nm l path i) := ⟨(insG_mem l path _ _ i h).1, (insG_mem l path _ _ i h).2.1⟩
theorem insP_all {l : List En} {path : List UInt8} {j : Nat} (h : j < l.length) {m : List UInt8} (hm : kid path l[j].path.data.toList = some m) : ∃ i ∈ insP l path, nm l path i = m := by
 refine insG_all l path _ _ (by have := behind_le l path []; omega) j h m hm ?_
 obtain ⟨_, hne, _⟩ := kid_some hm
 cases m with
 | nil => exact absurd rfl hne
 | cons c r => simp [less, Op.bytesLess]
def itemP (l : List En) (path : List UInt8) (bl : List UInt8 → List UInt8) (i : Nat) : P.It :=
 let e := l.getD i en0
 if e.kind = 3 then ⟨bs (nm l path i), 3, ⟨#[]⟩, 0, e.data⟩
 else
  let b := if e.kind = 0 then bl (e.path.data.toList ++ [47]) else e.data.data.toList
  ⟨bs (nm l path i), e.kind, bs (P.digest b), b.length, ⟨#[]⟩⟩
def itemsP (l : List En) (path : List UInt8) (bl : List UInt8 → List UInt8) : List P.It := (insP l path).map (itemP l path bl)
def blobP (l : List En) : Nat → List UInt8 → List UInt8
 | 0, _ => []
 | f + 1, path => dirBytes (itemsP l path (blobP l f))
theorem hex_has : ∀ i : Fin 16, P.has P.hexd (P.hexd.getD i.val 0) = true := by decide
theorem hex_ok (n : Int) (h0 : 0 ≤ n) (h1 : n ≤ 15) : P.has P.hexd (P.hex n) = true := hex_has ⟨n.toNat, by omega⟩
theorem digest_ok (b : List UInt8) : P.isDigest (P.digest b) = true := by
 have hb := P.dnum_bd b
 simp only [P.isDigest, P.digest, P.three, List.length_cons, List.length_nil, List.all_cons, List.all_nil]
 rw [hex_ok _ (by omega) (by omega), hex_ok _ (by omega) (by omega), hex_ok _ (by omega) (by omega)]
 rfl
theorem fineP_name (l : List En) (i : Nat) (h : i < l.length) (hf : fineP l i = true) : ∀ n ∈ sp l[i].path.data.toList, P.isName n = true := by
 simp only [fineP, en_getD l i h, Bool.and_eq_true] at hf
 exact List.all_eq_true.1 hf.1.1.1.2
theorem fineP_kind (l : List En) (i : Nat) (h : i < l.length) (hf : fineP l i = true) : kindBad l[i] = false := by
 simp only [fineP, en_getD l i h, Bool.and_eq_true] at hf
 simpa using hf.1.1.2
theorem itemP_ok (l : List En) (path : List UInt8) (bl : List UInt8 → List UInt8) (ht : Tree l) (hd : DirPath path) (i : Nat) (hi : i ∈ insP l path) (hbl : (bl ((l.getD i en0).path.data.toList ++ [47])).length ≤ 2000) : P.itemOk (itemP l path bl i) = true := by
 obtain ⟨hil, hk⟩ := insP_mem hi
 have hname := fineP_name l i hil (ht.fine i hil)
 have hkind := fineP_kind l i hil (ht.fine i hil)
 have hn : P.isName (nm l path i) = true := by
  refine hname _ ?_
  have := kid_name hd hk
  rwa [en_getD l i hil] at this
 unfold itemP
 rw [en_getD l i hil] at *
 simp only [kindBad, Bool.or_eq_false_iff, decide_eq_false_iff_not] at hkind
 obtain ⟨⟨⟨⟨k1, k2⟩, k3⟩, k4⟩, k5⟩ := hkind
 by_cases h3 : l[i].kind = 3
 ·rw [h3] at k5
  simp only [if_pos h3, P.itemOk, bs_data, hn, P.shape, P.linkOk]
  simp at k5
  rw [k5]
  simp [ByteArray.toList_eq]
 ·simp only [if_neg h3, P.itemOk, bs_data, hn, P.plainOk, digest_ok]
  have hs : P.shape l[i].kind = 1 := by
   unfold P.shape
   split
   ·rfl
   ·split
    ·rfl
    ·split
     ·rfl
     ·omega
  rw [if_pos hs]
  have hlen : (if l[i].kind = 0 then bl (l[i].path.data.toList ++ [47]) else l[i].data.data.toList).length ≤ 2000 := by
   split
   ·exact hbl
   ·rename_i h0
    have h12 : l[i].kind = 1 ∨ l[i].kind = 2 := by omega
    have : (l[i].kind == 1 || l[i].kind == 2) = true := by rcases h12 with h | h <;> simp [h]
    rw [this] at k4
    simp at k4
    simp
    omega
  have hw : P.within ((if l[i].kind = 0 then bl (l[i].path.data.toList ++ [47]) else l[i].data.data.toList).length : Int) 0 2000 = true := by
   unfold P.within; simp only [decide_eq_true_eq]; omega
  rw [hw]; simp [ByteArray.toList_eq]
theorem itemBytes_45 (x : P.It) (h : P.itemOk x = true) : (itemBytes x).length ≤ 45 := by
 have hn : x.name.size ≤ 12 := by
  simp only [P.itemOk, P.isName, Bool.and_eq_true, decide_eq_true_eq] at h
  have := h.1.1.1.1.1.2
  simpa using this
 by_cases h3 : x.kind = 3
 ·have ht : x.tgt.size ≤ 30 := by
   simp only [P.itemOk, h3, P.shape, P.linkOk, P.isTarget, Bool.and_eq_true] at h
   simp at h
   omega
  rw [itemBytes_link x h3]
  simp; omega
 ·obtain ⟨_, hd⟩ := ok_plain x h h3
  rw [itemBytes_plain x h3]
  simp; omega
theorem dirBytes_len (l : List P.It) (h40 : l.length ≤ 40) (h : ∀ x ∈ l, P.itemOk x = true) : (dirBytes l).length ≤ 1802 := by
 have : ∀ (l : List P.It), (∀ x ∈ l, P.itemOk x = true) → (itemsBytes l).length ≤ 45 * l.length := by
  intro l
  induction l with
  | nil => intro _; simp [itemsBytes]
  | cons x l ih =>
   intro h
   have h1 := itemBytes_45 x (h x (by simp))
   have h2 := ih (fun y hy => h y (by simp [hy]))
   rw [itemsBytes_cons, List.length_append, List.length_cons]
   omega
 have := this l h
 simp only [dirBytes, List.length_cons]
 omega
theorem dir_next (l : List En) (i : Nat) : DirPath ((l.getD i en0).path.data.toList ++ [47]) := .inr ⟨_, rfl⟩
theorem blob_small (l : List En) (ht : Tree l) : ∀ f path, DirPath path → (blobP l f path).length ≤ 1802
 | 0, _, _ => by simp [blobP]
 | f + 1, path, hd => by
  simp only [blobP]
  refine dirBytes_len _ ?_ ?_
  ·have := insP_len l path; have := ht.len; simp [itemsP]; omega
  ·intro x hx
   simp only [itemsP, List.mem_map] at hx
   obtain ⟨i, hi, rfl⟩ := hx
   exact itemP_ok l path _ ht hd i hi (by have := blob_small l ht f _ (dir_next l i); omega)
theorem okTo_all (l : List P.It) (h1 : ∀ x ∈ l, P.itemOk x = true) (h2 : l.Pairwise (fun x y => Op.bytesLess x.name.toList y.name.toList = true)) : okTo l l.length = true := by
 unfold okTo
 rw [List.all_eq_true]
 intro k hk
 have hk : k < l.length := by simpa using hk
 have hok := h1 l[k] (List.getElem_mem hk)
 cases k with
 | zero => exact okAt_zero l hk hok
 | succ j =>
  rw [okAt_succ l j hk (by omega) hok]
  exact List.pairwise_iff_getElem.1 h2 j (j + 1) (by omega) hk (by omega)
theorem itemP_name (l : List En) (path : List UInt8) (bl : List UInt8 → List UInt8) (i : Nat) : (itemP l path bl i).name = bs (nm l path i) := by
 simp only [itemP]; split <;> rfl
theorem items_dirOk (l : List En) (ht : Tree l) (f : Nat) (path : List UInt8) (hd : DirPath path) : dirOk (itemsP l path (blobP l f)) = true := by
 have hlen : (itemsP l path (blobP l f)).length ≤ 40 := by have := insP_len l path; have := ht.len; simp [itemsP]; omega
 unfold dirOk
 rw [decide_eq_true hlen, Bool.true_and]
 refine okTo_all _ ?_ ?_
 ·intro x hx
  simp only [itemsP, List.mem_map] at hx
  obtain ⟨i, hi, rfl⟩ := hx
  exact itemP_ok l path _ ht hd i hi (by have := blob_small l ht f _ (dir_next l i); omega)
 ·unfold itemsP
  rw [List.pairwise_map]
  refine (insG_sorted l path _ _).imp ?_
  intro i j hij
  rw [itemP_name, itemP_name, ByteArray.toList_eq, ByteArray.toList_eq, bs_data, bs_data]
  exact hij
def dep (path : List UInt8) : Nat := (sp path).length - 1
theorem dep_next (l : List En) (ht : Tree l) (path : List UInt8) (i : Nat) (hi : i ∈ insP l path) : dep ((l.getD i en0).path.data.toList ++ [47]) = dep path + 1 ∧ dep path + 1 ≤ 5 := by
 obtain ⟨hil, hk⟩ := insP_mem hi
 obtain ⟨e, _, hn⟩ := kid_some hk
 have h1 := sp_more path _ hn
 rw [← e] at h1
 have h2 := sp_app (l.getD i en0).path.data.toList []
 have hne := sp_ne path
 have hp : 1 ≤ (sp path).length := by
  cases hs : sp path with
  | nil => exact absurd hs hne
  | cons _ _ => simp
 have h5 : (sp (l.getD i en0).path.data.toList).length ≤ 5 := by
  have hf := ht.fine i hil
  simp only [fineP, Bool.and_eq_true, decide_eq_true_eq] at hf
  exact hf.1.1.1.1
 have h3 : (sp []).length = 1 := rfl
 unfold dep
 rw [h2, List.length_append, h3]
 omega
end Go.Proofs.YtjmacegibchplaaGreatDoor