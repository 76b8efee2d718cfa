import Derived.Test.YtjmacegibchplaaGreatDoorBldLaw
import Derived.Test.YtjmacegibchplaaGreatDoorFetR
import Derived.Test.YtjmacegibchplaaGreatDoorFetQ
/-
  The statement on Clash: its body, over any Clash that answers as the document asks.
-/
namespace Go.Proofs.YtjmacegibchplaaGreatDoor
open Go.RowKit
set_option linter.unusedVariables false

/-- the error of a Build -/
def errOf (l : List En) : Int := if wrongP l ≠ 0 then wrongP l else if builtP l = none then 3 else 0
def rootOf (l : List En) : List UInt8 := if errOf l = 0 then P.digest (blobP l 6 []) else []
theorem refBuild_uni (l : List En) (a : Option Addr) (c : Nat) (w : World) (hl : l.length ≤ maxLen) (hi : LiesE w a l) (hf : TFit l) :
    Calls Tryz.prog 17 #[.slice a l.length c] w fun e w' => ∃ v, e = .returned (.tuple #[.string (bs (rootOf l)), v, .int .i64 (errOf l)]) ∧ OwnsS w' w.heap.size v (outOf l) ∧ Below w.heap.size w w' := by
  refine (refBuild_any l a c w hl hi hf).mono ?_
  rintro e w' ⟨hb, h⟩
  rcases h with ⟨hw, rfl⟩ | ⟨hw, hbu, rfl⟩ | ⟨out, v, hw, hbu, rfl, ho⟩
  · have he : errOf l = wrongP l := by unfold errOf; rw [if_pos hw]
    have hr : rootOf l = [] := by unfold rootOf; rw [he, if_neg hw]
    have ho : outOf l = [] := by unfold outOf; rw [if_neg hw]
    exact ⟨_, by rw [he, hr]; rfl, by rw [ho]; exact World.ownsRow_nil _ _ _ _, hb⟩
  · have he : errOf l = 3 := by unfold errOf; rw [if_neg (by simpa using hw), if_pos hbu]
    have hr : rootOf l = [] := by unfold rootOf; rw [he]; rfl
    have ho : outOf l = [] := by unfold outOf; rw [if_pos hw, hbu]; rfl
    exact ⟨_, by rw [he, hr]; rfl, by rw [ho]; exact World.ownsRow_nil _ _ _ _, hb⟩
  · have he : errOf l = 0 := by unfold errOf; rw [if_neg (by simpa using hw), if_neg (by rw [hbu]; simp)]
    have hr : rootOf l = P.digest (blobP l 6 []) := by unfold rootOf; rw [he]; rfl
    have ho' : outOf l = out := by unfold outOf; rw [if_pos hw, hbu]; rfl
    exact ⟨v, by rw [he, hr], by rw [ho']; exact ho, hb⟩
theorem outOf_len (l : List En) : (outOf l).length ≤ 100 := by
  unfold outOf
  split
  · rename_i hw
    cases hb : builtP l with
    | none => simp
    | some out => exact builtP_len l (tree_of l hw) out hb
  · simp
theorem outOf_small (l : List En) (s : List UInt8) (h : s ∈ outOf l) : s.length ≤ 2000 := by
  unfold outOf at h
  split at h
  · rename_i hw
    have ht := tree_of l hw
    cases hb : builtP l with
    | none => rw [hb] at h; simp at h
    | some out =>
      rw [hb] at h
      simp at h
      have key : ∀ f last out, outG (allP l) f last = some out → ∀ s ∈ out, s.length ≤ 2000 := by
        intro f
        induction f with
        | zero => intro last out ho s hs; simp [outG] at ho; subst ho; simp at hs
        | succ f ih =>
          intro last out ho s hs
          simp only [outG] at ho
          split at ho
          · simp at ho; subst ho; simp at hs
          · rename_i hneg
            split at ho
            · simp at ho
            · cases hr : outG (allP l) f (P.digest ((allP l).getD (nxtD (allP l) last).toNat [])) with
              | none => rw [hr] at ho; simp at ho
              | some r =>
                rw [hr] at ho
                simp at ho
                subst ho
                rcases List.mem_cons.1 hs with rfl | hs
                · have hbd := nxtTo_bd (allP l) last (allP l).length
                  have hlt : (nxtD (allP l) last).toNat < (allP l).length := by unfold nxtD at hneg ⊢; omega
                  have := allTo_small l ht l.length (Nat.le_refl _) (allP l)[(nxtD (allP l) last).toNat] (List.getElem_mem hlt)
                  simpa [List.getElem?_eq_getElem hlt] using this
                · exact ih _ r hr s hs
      exact key _ _ out hb s h
  · simp at h
/-- the error of a Clash -/
def clashErr (x y : List En) : Int := if errOf x ≠ 0 then errOf x else if errOf y ≠ 0 then errOf y else if sameP x y = true ∨ rootOf x ≠ rootOf y then 11 else 0
structure ClashOk (x y : List En) (r : List UInt8 × List UInt8 × Int) : Prop where
  err : r.2.2 = clashErr x y
  none : r.2.2 ≠ 0 → r.1 = [] ∧ r.2.1 = []
  some : r.2.2 = 0 → r.1 ≠ r.2.1 ∧ r.1 ∈ outOf x ∧ r.2.1 ∈ outOf y ∧ P.digest r.1 = P.digest r.2.1
/-- the program's Clash: one answer for two trees, as the document asks -/
def ProgClash (G : World → Prop) (cl : List En → List En → List UInt8 × List UInt8 × Int) : Prop :=
  (∀ x y, TFit x → TFit y → ClashOk x y (cl x y)) ∧
  ∀ (x y : List En) (a1 a2 : Option Addr) (c1 c2 : Nat) (w : World), G w → x.length ≤ maxLen → y.length ≤ maxLen → LiesE w a1 x → LiesE w a2 y → TFit x → TFit y →
    Calls Tryz.prog 14 #[.slice a1 x.length c1, .slice a2 y.length c2] w fun e w' => e = .returned (.tuple #[.string (bs (cl x y).1), .string (bs (cl x y).2.1), .int .i64 (cl x y).2.2]) ∧ Below w.heap.size w w'
def cla : List En := [⟨⟨#[102]⟩, 1, ⟨#[48, 5]⟩⟩]
def clb : List En := [⟨⟨#[102]⟩, 1, ⟨#[63, 153]⟩⟩]
theorem cl_err : clashErr cla clb = 0 := by kernel_rfl
theorem cl_only : ((outOf cla).all fun s => (outOf clb).all fun t => s == t || !(P.digest s == P.digest t) || (s == [48, 5] && t == [63, 153])) = true := by kernel_rfl
theorem cl_fit (d : ByteArray) (h : d.size = 2) : TFit [⟨⟨#[102]⟩, 1, d⟩] := by
  intro i hi
  match i, hi with
  | 0, _ => exact ⟨show (1 : Nat) ≤ 1100000 by decide, show d.size ≤ maxLen by rw [h]; decide⟩
theorem cl_first {G : World → Prop} {cl : List En → List En → List UInt8 × List UInt8 × Int} (hP : ProgClash G cl) : cl cla clb = ([48, 5], [63, 153], 0) := by
  have h := hP.1 cla clb (cl_fit _ rfl) (cl_fit _ rfl)
  have he : (cl cla clb).2.2 = 0 := h.err.trans cl_err
  obtain ⟨h1, h2, h3, h4⟩ := h.some he
  have hall := cl_only
  rw [List.all_eq_true] at hall
  have := hall _ h2
  rw [List.all_eq_true] at this
  have := this _ h3
  simp [h1, h4] at this
  exact Prod.ext this.1 (Prod.ext this.2 he)
end Go.Proofs.YtjmacegibchplaaGreatDoor

/-
  A tree's entries in another order are the same tree: its blobs are the same. No walk.
-/
namespace Go.Proofs.YtjmacegibchplaaGreatDoor
set_option linter.unusedVariables false

/-- what a tree's entries are, one by one -/
theorem tree_up (l : List En) (ht : Tree l) (e : En) (he : e ∈ l) : upPath (pth e) = [] ∨ ∃ t ∈ l, pth t = upPath (pth e) ∧ t.kind = 0 := by
  obtain ⟨i, hi, rfl⟩ := List.mem_iff_getElem.1 he
  have hf := ht.fine i hi
  simp only [fineP, Bool.and_eq_true, Bool.not_eq_true'] at hf
  have gu := hf.1.2
  rw [en_getD l i hi] at gu
  unfold upBad at gu
  rcases cut_cases (pth l[i]) with ⟨_, _, e2, _⟩ | ⟨a, n, e, _, e1, e2, _⟩
  · exact .inl e2
  · right
    have hlen : ¬ (sp l[i].path.data.toList).length ≤ 1 := by
      have e1' : sp l[i].path.data.toList = sp a ++ [n] := e1
      rw [e1']; simp; exact sp_ne a
    rw [if_neg hlen] at gu
    have e2' : upPath l[i].path.data.toList = a := e2
    rw [e2'] at gu
    rw [e2]
    rcases find_at l a with ⟨j, hj, ej, hp, hs, _⟩ | ⟨hn, _⟩
    · rw [ej, if_neg (by omega), Int.toNat_natCast, en_getD l j hj] at gu
      exact ⟨l[j], List.getElem_mem hj, hp, by simpa using gu⟩
    · rw [hn] at gu
      simp at gu
theorem tree_once (l : List En) (ht : Tree l) : l.Pairwise (fun a b => pth a ≠ pth b) := by
  rw [List.pairwise_iff_getElem]
  intro i j hi hj hij h
  have := tree_inj l ht i j hi hj h
  omega
/-- other lists of the same entries -/
theorem tree_same {l m : List En} (ht : Tree l) (hw : wrongP l = 0) (hm : ∀ e, e ∈ m ↔ e ∈ l) (hlen : m.length ≤ 40) (hon : m.Pairwise (fun a b => pth a ≠ pth b)) : Tree m ∧ wrongP m = 0 := by
  refine treeIs m hlen hon (fun e he => ?_) (fun e he => ?_) (fun e he => ?_) (fun e he => ?_) (fun e he hk => ?_)
  · rcases tree_up l ht e ((hm e).1 he) with h | ⟨t, h1, h2⟩
    · exact .inl h
    · exact .inr ⟨t, (hm t).2 h1, h2⟩
  · obtain ⟨i, hi, rfl⟩ := List.mem_iff_getElem.1 ((hm e).1 he)
    exact fineP_name l i hi (ht.fine i hi)
  · obtain ⟨i, hi, rfl⟩ := List.mem_iff_getElem.1 ((hm e).1 he)
    exact fineP_deep l i hi (ht.fine i hi)
  · obtain ⟨i, hi, rfl⟩ := List.mem_iff_getElem.1 ((hm e).1 he)
    exact fineP_kind l i hi (ht.fine i hi)
  · have hwy := wrong_yes l ht
    rw [hw] at hwy
    have hany : l.any escP = false := by
      cases ha : l.any escP with
      | false => rfl
      | true => rw [ha] at hwy; simp at hwy
    have := List.any_eq_false.1 hany e ((hm e).1 he)
    unfold escP at this
    simp [hk] at this
    exact this
theorem ents_of (l : List En) (ht : Tree l) (p : List UInt8) : ((insP l p).map (fun i => l.getD i en0)).Pairwise (fun a b => less (nmE p a) (nmE p b) = true) ∧ ∀ e, e ∈ (insP l p).map (fun i => l.getD i en0) ↔ e ∈ l ∧ kidB p e = true := by
  constructor
  · rw [List.pairwise_map]
    exact insG_sorted l p _ _
  · intro e
    simp only [List.mem_map]
    constructor
    · rintro ⟨i, hi, rfl⟩
      obtain ⟨hl, n, hn⟩ := (insP_iff l ht p i).1 hi
      rw [en_getD l i hl]
      exact ⟨List.getElem_mem hl, by unfold kidB pth; rw [hn]; rfl⟩
    · rintro ⟨hm, hk⟩
      obtain ⟨i, hi, rfl⟩ := List.mem_iff_getElem.1 hm
      unfold kidB pth at hk
      obtain ⟨n, hn⟩ := Option.isSome_iff_exists.1 hk
      exact ⟨i, (insP_iff l ht p i).2 ⟨hi, n, hn⟩, en_getD l i hi⟩
theorem blob_turn {l m : List En} (hl : Tree l) (hm : Tree m) (h : ∀ e, e ∈ m ↔ e ∈ l) : ∀ f p, blobP m f p = blobP l f p
  | 0, p => rfl
  | f + 1, p => by
    have ih : blobP m f = blobP l f := funext (blob_turn hl hm h f)
    simp only [blobP, items_itF, ih]
    have e : (insP m p).map (fun i => m.getD i en0) = (insP l p).map (fun i => l.getD i en0) := by
      obtain ⟨s1, m1⟩ := ents_of m hm p
      obtain ⟨s2, m2⟩ := ents_of l hl p
      exact order_one (fun a b => less (nmE p a) (nmE p b)) (fun _ => less_irr _) (fun _ _ _ => less_trans _ _ _) _ _ s1 s2 (fun e => by rw [m1, m2, h])
    rw [e]
theorem all_mem (l : List En) (x : List UInt8) : x ∈ allP l ↔ x = blobP l 6 [] ∨ ∃ e ∈ l, x ∈ partP l e := by
  unfold allP allTo
  rw [List.take_length]
  simp
theorem all_same {l m : List En} (hl : Tree l) (hm : Tree m) (h : ∀ e, e ∈ m ↔ e ∈ l) (x : List UInt8) : x ∈ allP m ↔ x ∈ allP l := by
  rw [all_mem, all_mem]
  have hb := blob_turn hl hm h
  have hp : ∀ e, partP m e = partP l e := fun e => by unfold partP; rw [hb]
  rw [hb]
  constructor
  · rintro (e | ⟨e, he, hx⟩)
    · exact .inl e
    · exact .inr ⟨e, (h e).1 he, by rw [← hp]; exact hx⟩
  · rintro (e | ⟨e, he, hx⟩)
    · exact .inl e
    · exact .inr ⟨e, (h e).2 he, by rw [hp]; exact hx⟩
theorem outs_same {A B : List (List UInt8)} (h : ∀ x, x ∈ A ↔ x ∈ B) : outsP A = outsP B := by
  rcases outs_spec B with ⟨hn, x, hx, y, hy, e, hne⟩ | ⟨out, ho, hs, hmm, hu⟩
  · rw [hn]
    exact outs_none A x y ((h x).2 hx) ((h y).2 hy) e hne
  · rw [ho]
    exact outs_of A out hs (fun x => by rw [hmm, h]) (fun x hx y hy => hu x ((h x).1 hx) y ((h y).1 hy))
theorem built_same {l m : List En} (hl : Tree l) (hm : Tree m) (h : ∀ e, e ∈ m ↔ e ∈ l) : builtP m = builtP l := outs_same (all_same hl hm h)
/-- a tree from its other end -/
theorem tree_rev {l : List En} (ht : Tree l) (hw : wrongP l = 0) : Tree l.reverse ∧ wrongP l.reverse = 0 ∧ builtP l.reverse = builtP l ∧ blobP l.reverse 6 [] = blobP l 6 [] := by
  have hm : ∀ e, e ∈ l.reverse ↔ e ∈ l := fun e => List.mem_reverse
  obtain ⟨h1, h2⟩ := tree_same ht hw hm (by rw [List.length_reverse]; exact ht.len) (by rw [List.pairwise_reverse]; exact (tree_once l ht).imp (fun h e => h e.symm))
  exact ⟨h1, h2, built_same ht h1 hm, blob_turn ht h1 hm 6 []⟩
end Go.Proofs.YtjmacegibchplaaGreatDoor

/-
  Trees made of raw numbers and texts: each is one, and none of its links leads out. Plain lists, no walk.
-/
namespace Go.Proofs.YtjmacegibchplaaGreatDoor
set_option linter.unusedVariables false

def pickP (c n : Int) : Int := (if c < 0 then -(c + 1) else c) % n
def digP (n : Nat) : List UInt8 := if n < 10 then [UInt8.ofNat (48 + n)] else [UInt8.ofNat (48 + n / 10), UInt8.ofNat (48 + n % 10)]
def lnkP (m : Nat) : List UInt8 := if m = 0 then [120] else if m = 1 then [46, 47, 97, 47, 46, 46] else if m = 2 then [98, 47, 47, 99, 47] else [46]
def inT (dirs : List (List UInt8 × Nat)) (v : Int) : List UInt8 × Nat := dirs.getD (v / 8 % dirs.length).toNat ([], 0)
def nameT (i : Nat) (v : Int) : List UInt8 := UInt8.ofNat (97 + (v / 800 % 26).toNat) :: digP i
def entT (dirs : List (List UInt8 × Nat)) (texts : List (List UInt8)) (i : Nat) (v : Int) : En :=
  if v % 8 ≤ 1 then ⟨bs ((inT dirs v).1 ++ nameT i v), 0, ⟨#[]⟩⟩
  else if v % 8 = 2 then ⟨bs ((inT dirs v).1 ++ nameT i v), 3, bs ((if (inT dirs v).2 = 0 then [] else [46, 46, 47]) ++ lnkP (v / 80 % 4).toNat)⟩
  else ⟨bs ((inT dirs v).1 ++ nameT i v), if v % 8 = 3 then 2 else 1, bs (if texts = [] then [] else (texts.getD (v / 80 % texts.length).toNat []).take 60)⟩
def dirT (dirs : List (List UInt8 × Nat)) (i : Nat) (v : Int) : List (List UInt8 × Nat) :=
  if v % 8 ≤ 1 ∧ (inT dirs v).2 < 4 then dirs ++ [((inT dirs v).1 ++ nameT i v ++ [47], (inT dirs v).2 + 1)] else dirs
def treeG (texts : List (List UInt8)) : List Int → Nat → List (List UInt8 × Nat) → List En
  | [], _, _ => []
  | v :: r, i, dirs => entT dirs texts i v :: treeG texts r (i + 1) (dirT dirs i v)
def treeP (raw : List Int) (texts : List (List UInt8)) : List En := treeG texts ((raw.take 30).map (fun c => pickP c 1099511627776)) 0 [([], 0)]
theorem treeG_len (texts : List (List UInt8)) : ∀ r i dirs, (treeG texts r i dirs).length = r.length
  | [], _, _ => rfl
  | v :: r, i, dirs => by simp [treeG, treeG_len texts r]
theorem dig_name : ∀ i : Fin 30, (digP i.val).length ≤ 2 ∧ ¬ (47 : UInt8) ∈ digP i.val ∧ ¬ (0 : UInt8) ∈ digP i.val ∧ 1 ≤ (digP i.val).length := by decide
theorem dig_inj : ∀ i j : Fin 30, digP i.val = digP j.val → i = j := by decide
theorem let_name : ∀ m : Fin 26, UInt8.ofNat (97 + m.val) ≠ 47 ∧ UInt8.ofNat (97 + m.val) ≠ 0 ∧ UInt8.ofNat (97 + m.val) ≠ 46 := by decide
theorem nameT_ok (i : Nat) (hi : i < 30) (v : Int) : P.isName (nameT i v) = true := by
  obtain ⟨h1, h2, h3, h4⟩ := dig_name ⟨i, hi⟩
  obtain ⟨l1, l2, l3⟩ := let_name ⟨(v / 800 % 26).toNat, by omega⟩
  simp only at h1 h2 h3 h4 l1 l2 l3
  unfold P.isName nameT
  simp only [Bool.and_eq_true, Bool.not_eq_true', decide_eq_true_eq, beq_eq_false_iff_ne, List.length_cons]
  refine ⟨⟨⟨⟨by omega, has_false.2 (fun hm => (List.mem_cons.1 hm).elim (fun e => l1 e.symm) h2)⟩, has_false.2 (fun hm => (List.mem_cons.1 hm).elim (fun e => l2 e.symm) h3)⟩, ?_⟩, ?_⟩
  · intro e
    exact l3 (List.cons.inj e).1
  · intro e
    exact l3 (List.cons.inj e).1
theorem outGo_more : ∀ (L : List (List UInt8)) (a b : Int), a ≤ b → outGo a L = false → outGo b L = false
  | [], _, _, _, _ => rfl
  | x :: r, a, b, hab, h => by
    have hle : (if x = [46, 46] then a - 1 else if x = [] ∨ x = [46] then a else a + 1) ≤ (if x = [46, 46] then b - 1 else if x = [] ∨ x = [46] then b else b + 1) := by
      split
      · omega
      · split <;> omega
    simp only [outGo] at h ⊢
    generalize (if x = [46, 46] then a - 1 else if x = [] ∨ x = [46] then a else a + 1) = da at *
    generalize (if x = [46, 46] then b - 1 else if x = [] ∨ x = [46] then b else b + 1) = db at *
    by_cases hn : da < 0
    · rw [if_pos hn] at h; simp at h
    · rw [if_neg hn] at h
      rw [if_neg (by omega)]
      exact outGo_more r _ _ hle h
theorem out_more {a b : Int} {t : List UInt8} (hab : a ≤ b) (h : outP a t = false) : outP b t = false := by
  unfold outP at h ⊢
  split at h
  · simp at h
  · rename_i hn
    rw [if_neg hn]
    exact outGo_more _ _ _ hab h
theorem lnk_top : ∀ m : Fin 4, outP 0 (lnkP m.val) = false ∧ P.isTarget (lnkP m.val) = true ∧ outP 1 ([46, 46, 47] ++ lnkP m.val) = false ∧ P.isTarget ([46, 46, 47] ++ lnkP m.val) = true := by decide
/-- the directories that there are -/
def DirsOk (seen : List En) (dirs : List (List UInt8 × Nat)) : Prop := ∀ p ∈ dirs, ∃ q, p.1 = pre q ∧ NamesOk q p.2 ∧ p.2 ≤ 4 ∧ (q = [] ∨ ∃ t ∈ seen, pth t = q ∧ t.kind = 0)
theorem inT_ok {seen : List En} {dirs : List (List UInt8 × Nat)} (h : DirsOk seen dirs) (v : Int) : ∃ q, (inT dirs v).1 = pre q ∧ NamesOk q (inT dirs v).2 ∧ (inT dirs v).2 ≤ 4 ∧ (q = [] ∨ ∃ t ∈ seen, pth t = q ∧ t.kind = 0) := by
  unfold inT
  rcases Nat.lt_or_ge (v / 8 % dirs.length).toNat dirs.length with hl | hl
  · rw [List.getD_eq_getElem?_getD, List.getElem?_eq_getElem hl]
    exact h _ (List.getElem_mem hl)
  · rw [List.getD_eq_getElem?_getD, List.getElem?_eq_none hl]
    exact ⟨[], rfl, .inl ⟨rfl, rfl⟩, by simp, .inl rfl⟩
/-- what is said of an entry -/
structure TFine (seen : List En) (i : Nat) (e : En) : Prop where
  names : ∀ p ∈ sp (pth e), P.isName p = true
  deep : (sp (pth e)).length ≤ 5
  kind : kindBad e = false
  out : e.kind = 3 → outP ((sp (pth e)).length - 1) e.data.data.toList = false
  up : upPath (pth e) = [] ∨ ∃ t ∈ seen, pth t = upPath (pth e) ∧ t.kind = 0
  last : (nameOf (pth e)).drop 1 = digP i
theorem entT_pth (dirs : List (List UInt8 × Nat)) (texts : List (List UInt8)) (i : Nat) (v : Int) : pth (entT dirs texts i v) = (inT dirs v).1 ++ nameT i v := by
  unfold entT
  split
  · exact bs_data _
  · split <;> exact bs_data _
theorem entT_fine {seen : List En} {dirs : List (List UInt8 × Nat)} (h : DirsOk seen dirs) (texts : List (List UInt8)) (i : Nat) (hi : i < 30) (v : Int) : TFine seen i (entT dirs texts i v) ∧ (sp (pth (entT dirs texts i v))).length = (inT dirs v).2 + 1 := by
  obtain ⟨q, h1, h2, h3, h4⟩ := inT_ok h v
  have hn := nameT_ok i hi v
  obtain ⟨n1, n2, n3⟩ := names_sp h2 hn
  have hp := entT_pth dirs texts i v
  rw [h1] at hp
  have hname : nameOf (pre q ++ nameT i v) = nameT i v := by
    rcases h2 with ⟨rfl, _⟩ | ⟨hq, _⟩
    · rw [pre_nil, List.nil_append]; exact (cut_none (isName_no hn)).2.2
    · rw [pre_some hq, List.append_assoc, List.singleton_append]; exact (cut_some q _ (isName_no hn)).2.2
  have hl : (sp (pth (entT dirs texts i v))).length = (inT dirs v).2 + 1 := by rw [hp]; exact n2
  refine ⟨⟨by rw [hp]; exact n1, by omega, ?_, ?_, ?_, by rw [hp, hname]; rfl⟩, hl⟩
  · unfold entT
    split
    · simp [kindBad]
    · split
      · obtain ⟨l1, l2, l3, l4⟩ := lnk_top ⟨(v / 80 % 4).toNat, by omega⟩
        simp only at l1 l2 l3 l4
        have : P.isTarget ((if (inT dirs v).2 = 0 then [] else [46, 46, 47]) ++ lnkP (v / 80 % 4).toNat) = true := by
          split
          · exact l2
          · exact l4
        generalize hd : (if (inT dirs v).2 = 0 then [] else [46, 46, 47]) ++ lnkP (v / 80 % 4).toNat = dd at *
        have : P.isTarget (bs dd).data.toList = true := by rw [bs_data]; exact this
        generalize bs dd = bb at *
        simp [kindBad, this]
      · have hsz : (bs (if texts = [] then [] else (texts.getD (v / 80 % texts.length).toNat []).take 60)).size ≤ 60 := by
          show (bs _).data.toList.length ≤ 60
          rw [bs_data]
          split
          · simp
          · rw [List.length_take]; omega
        have hk : (if v % 8 = 3 then (2 : Int) else 1) = 1 ∨ (if v % 8 = 3 then (2 : Int) else 1) = 2 := by split <;> simp
        generalize (if v % 8 = 3 then (2 : Int) else 1) = k at *
        generalize bs (if texts = [] then [] else (texts.getD (v / 80 % texts.length).toNat []).take 60) = b at *
        rcases hk with rfl | rfl <;> (simp [kindBad]; omega)
  · rw [hl]
    unfold entT
    split
    · intro hc; simp at hc
    · split
      · intro _
        show outP _ (bs _).data.toList = false
        rw [bs_data]
        obtain ⟨l1, l2, l3, l4⟩ := lnk_top ⟨(v / 80 % 4).toNat, by omega⟩
        simp only at l1 l2 l3 l4
        split
        · exact out_more (by omega) l1
        · exact out_more (by omega) l3
      · intro hc
        exfalso
        simp only at hc
        split at hc <;> simp at hc
  · rw [hp, n3]
    rcases h4 with rfl | ⟨t, ht, e, hk⟩
    · exact .inl rfl
    · exact .inr ⟨t, ht, e, hk⟩
theorem dirT_ok {seen : List En} {dirs : List (List UInt8 × Nat)} (h : DirsOk seen dirs) (texts : List (List UInt8)) (i : Nat) (hi : i < 30) (v : Int) : DirsOk (seen ++ [entT dirs texts i v]) (dirT dirs i v) := by
  have hold : DirsOk (seen ++ [entT dirs texts i v]) dirs := by
    intro p hp
    obtain ⟨q, h1, h2, h3, h4⟩ := h p hp
    exact ⟨q, h1, h2, h3, h4.imp id (fun ⟨t, ht, r⟩ => ⟨t, List.mem_append.2 (.inl ht), r⟩)⟩
  unfold dirT
  split
  · rename_i hc
    obtain ⟨q, h1, h2, h3, h4⟩ := inT_ok h v
    have hn := nameT_ok i hi v
    intro p hp
    rcases List.mem_append.1 hp with hp | hp
    · exact hold p hp
    · rw [List.mem_singleton.1 hp]
      refine ⟨pre q ++ nameT i v, ?_, names_next h2 hn, by have := hc.2; show _ + 1 ≤ 4; omega, .inr ⟨entT dirs texts i v, by simp, ?_, ?_⟩⟩
      · show _ ++ [47] = _
        rw [h1, pre_some (pre_name_ne (isName_ne hn))]
      · rw [entT_pth, h1]
      · unfold entT; rw [if_pos hc.1]
  · exact hold
theorem treeG_fine (texts : List (List UInt8)) : ∀ (r : List Int) (i : Nat) (dirs : List (List UInt8 × Nat)) (seen : List En), DirsOk seen dirs → i + r.length ≤ 30 → ∀ k (hk : k < (treeG texts r i dirs).length), TFine (seen ++ treeG texts r i dirs) (i + k) (treeG texts r i dirs)[k]
  | [], i, dirs, seen, _, _, k, hk => by simp [treeG] at hk
  | v :: r, i, dirs, seen, h, hi, k, hk => by
    have hi' : i < 30 := by simp at hi; omega
    have he : seen ++ treeG texts (v :: r) i dirs = (seen ++ [entT dirs texts i v]) ++ treeG texts r (i + 1) (dirT dirs i v) := by simp [treeG]
    cases k with
    | zero =>
      have := (entT_fine h texts i hi' v).1
      refine ⟨this.names, this.deep, this.kind, this.out, this.up.imp id (fun ⟨t, ht, q⟩ => ⟨t, List.mem_append.2 (.inl ht), q⟩), this.last⟩
    | succ k =>
      have := treeG_fine texts r (i + 1) (dirT dirs i v) (seen ++ [entT dirs texts i v]) (dirT_ok h texts i hi' v) (by simp at hi; omega) k (by simpa [treeG] using hk)
      rw [he, show i + (k + 1) = i + 1 + k by omega]
      exact this
/-- A TREE OF RAW NUMBERS IS ONE -/
theorem treeP_ok (raw : List Int) (texts : List (List UInt8)) : Tree (treeP raw texts) ∧ wrongP (treeP raw texts) = 0 ∧ (treeP raw texts).length ≤ 30 := by
  have hlen : (treeP raw texts).length ≤ 30 := by
    unfold treeP
    rw [treeG_len, List.length_map, List.length_take]
    omega
  have hf : ∀ k (hk : k < (treeP raw texts).length), TFine (treeP raw texts) k (treeP raw texts)[k] := by
    intro k hk
    have := treeG_fine texts ((raw.take 30).map (fun c => pickP c 1099511627776)) 0 [([], 0)] [] ?_ (by rw [List.length_map, List.length_take]; omega) k hk
    · rw [List.nil_append, Nat.zero_add] at this
      exact this
    · intro p hp
      rw [List.mem_singleton.1 hp]
      exact ⟨[], rfl, .inl ⟨rfl, rfl⟩, by simp, .inl rfl⟩
  have hm : ∀ e ∈ treeP raw texts, ∃ k, TFine (treeP raw texts) k e := by
    intro e he
    obtain ⟨k, hk, rfl⟩ := List.mem_iff_getElem.1 he
    exact ⟨k, hf k hk⟩
  have hon : (treeP raw texts).Pairwise (fun a b => pth a ≠ pth b) := by
    rw [List.pairwise_iff_getElem]
    intro a b ha hb hab e
    have h1 := (hf a ha).last
    have h2 := (hf b hb).last
    rw [e, h2] at h1
    have := dig_inj ⟨b, by omega⟩ ⟨a, by omega⟩ h1
    simp only [Fin.mk.injEq] at this
    omega
  obtain ⟨t1, t2⟩ := treeIs (treeP raw texts) (by omega) hon (fun e he => let ⟨_, h⟩ := hm e he; h.up) (fun e he => let ⟨_, h⟩ := hm e he; h.names) (fun e he => let ⟨_, h⟩ := hm e he; h.deep) (fun e he => let ⟨_, h⟩ := hm e he; h.kind) (fun e he => let ⟨_, h⟩ := hm e he; h.out)
  exact ⟨t1, t2, hlen⟩
end Go.Proofs.YtjmacegibchplaaGreatDoor

/-
  Two trees that differ in one file, by two files of one digest: their roots are the same. No walk.
-/
namespace Go.Proofs.YtjmacegibchplaaGreatDoor
set_option linter.unusedVariables false

/-- the two files -/
def twoX (a b : List UInt8) : List UInt8 := a.take 20 ++ [48, 5] ++ b.take 20
def twoY (a b : List UInt8) : List UInt8 := a.take 20 ++ [63, 153] ++ b.take 20
theorem two_step (n : Int) : P.step (P.step n 48) 5 = P.step (P.step n 63) 153 := by
  unfold P.step
  have e1 : ((48 : UInt8).toNat : Int) = 48 := rfl
  have e2 : ((5 : UInt8).toNat : Int) = 5 := rfl
  have e3 : ((63 : UInt8).toNat : Int) = 63 := rfl
  have e4 : ((153 : UInt8).toNat : Int) = 153 := rfl
  rw [e1, e2, e3, e4]
  omega
theorem two_digest (a b : List UInt8) : P.digest (twoX a b) = P.digest (twoY a b) := by
  unfold P.digest P.dnum twoX twoY
  simp only [List.foldl_append, List.foldl_cons, List.foldl_nil]
  rw [two_step]
theorem two_len (a b : List UInt8) : (twoX a b).length = (twoY a b).length ∧ (twoX a b).length ≤ 42 := by
  unfold twoX twoY
  have h1 := List.length_take_le 20 a
  have h2 := List.length_take_le 20 b
  simp only [List.length_append, List.length_cons, List.length_nil]
  exact ⟨trivial, by omega⟩
theorem two_ne (a b : List UInt8) : twoX a b ≠ twoY a b := by
  unfold twoX twoY
  intro h
  rw [List.append_assoc, List.append_assoc] at h
  have := List.append_cancel_left h
  simp at this
/-- the head of a tree of raw numbers is one -/
theorem treeG_take (texts : List (List UInt8)) : ∀ (r : List Int) (k i : Nat) (dirs : List (List UInt8 × Nat)), (treeG texts r i dirs).take k = treeG texts (r.take k) i dirs
  | [], k, i, dirs => by simp [treeG]
  | v :: r, 0, i, dirs => by simp [treeG]
  | v :: r, k + 1, i, dirs => by simp only [treeG, List.take_succ_cons, treeG_take texts r k]
theorem treeP_take (raw : List Int) (texts : List (List UInt8)) (k : Nat) (hk : k ≤ 30) : (treeP raw texts).take k = treeP (raw.take k) texts := by
  unfold treeP
  rw [treeG_take, ← List.map_take, List.take_take, List.take_take, Nat.min_comm k 30]
theorem treeP_zero (raw : List Int) (texts : List (List UInt8)) (e : En) (he : e ∈ treeP raw texts) : pth e ≠ [48] := by
  obtain ⟨k, hk, rfl⟩ := List.mem_iff_getElem.1 he
  have hr : ((raw.take 30).map (fun c => pickP c 1099511627776)).length ≤ 30 := by simp; omega
  have hlen := treeG_len texts ((raw.take 30).map (fun c => pickP c 1099511627776)) 0 [([], 0)]
  have hf := treeG_fine texts ((raw.take 30).map (fun c => pickP c 1099511627776)) 0 [([], 0)] [] (by intro p hp; simp at hp; subst hp; exact ⟨[], rfl, .inl ⟨rfl, rfl⟩, by simp, .inl rfl⟩) (by omega) k hk
  have hl := hf.last
  intro h
  have hl2 : (nameOf [48]).drop 1 = digP (0 + k) := by rw [← h]; exact hl
  have hk30 : 0 + k < 30 := by unfold treeP at hk; omega
  have hd := (dig_name ⟨0 + k, hk30⟩).2.2.2
  simp only at hd
  rw [← hl2] at hd
  exact absurd hd (by decide)
def zeroE (x : List UInt8) : En := ⟨⟨#[48]⟩, 1, bs x⟩
theorem zero_pth (x : List UInt8) : pth (zeroE x) = [48] := rfl
theorem tree_zero {t : List En} (ht : Tree t) (hw : wrongP t = 0) (h29 : t.length ≤ 29) (h0 : ∀ e ∈ t, pth e ≠ [48]) (x : List UInt8) (hx : x.length ≤ 60) : Tree (zeroE x :: t) ∧ wrongP (zeroE x :: t) = 0 := by
  refine treeIs (zeroE x :: t) (by simp; omega) ?_ (fun e he => ?_) (fun e he => ?_) (fun e he => ?_) (fun e he => ?_) (fun e he hk => ?_)
  · rw [List.pairwise_cons]
    exact ⟨fun e he h => h0 e he (by rw [← h]; rfl), tree_once t ht⟩
  · rcases List.mem_cons.1 he with rfl | he
    · left; rfl
    · rcases tree_up t ht e he with h | ⟨u, h1, h2⟩
      · exact .inl h
      · exact .inr ⟨u, List.mem_cons_of_mem _ h1, h2⟩
  · rcases List.mem_cons.1 he with rfl | he
    · intro p hp
      rw [zero_pth] at hp
      have : p = [48] := by simpa [sp] using hp
      subst this
      decide
    · obtain ⟨i, hi, rfl⟩ := List.mem_iff_getElem.1 he
      exact fineP_name t i hi (ht.fine i hi)
  · rcases List.mem_cons.1 he with rfl | he
    · rw [zero_pth]; decide
    · obtain ⟨i, hi, rfl⟩ := List.mem_iff_getElem.1 he
      exact fineP_deep t i hi (ht.fine i hi)
  · rcases List.mem_cons.1 he with rfl | he
    · have hz : (bs x).size ≤ 60 := by rw [bs_size]; exact hx
      unfold kindBad zeroE
      simp; omega
    · obtain ⟨i, hi, rfl⟩ := List.mem_iff_getElem.1 he
      exact fineP_kind t i hi (ht.fine i hi)
  · rcases List.mem_cons.1 he with rfl | he
    · simp [zeroE] at hk
    · have hwy := wrong_yes t ht
      rw [hw] at hwy
      have hany : t.any escP = false := by
        cases ha : t.any escP with
        | false => rfl
        | true => rw [ha] at hwy; simp at hwy
      have := List.any_eq_false.1 hany e he
      unfold escP at this
      simp [hk] at this
      exact this
/-- one file for the other -/
def phiE (x y : List UInt8) (e : En) : En := if pth e = [48] then zeroE y else e
theorem blob_two {t : List En} {x y : List UInt8} (hx : Tree (zeroE x :: t)) (hy : Tree (zeroE y :: t)) (h0 : ∀ e ∈ t, pth e ≠ [48]) (hd : P.digest x = P.digest y) (hl : x.length = y.length) : ∀ f p, blobP (zeroE y :: t) f p = blobP (zeroE x :: t) f p
  | 0, p => rfl
  | f + 1, p => by
    have ih : blobP (zeroE y :: t) f = blobP (zeroE x :: t) f := funext (blob_two hx hy h0 hd hl f)
    have hphi : ∀ e ∈ zeroE x :: t, pth (phiE x y e) = pth e ∧ (∀ bl, itF p bl (phiE x y e) = itF p bl e) := by
      intro e he
      rcases List.mem_cons.1 he with rfl | he
      · have : phiE x y (zeroE x) = zeroE y := by unfold phiE; rw [if_pos (zero_pth x)]
        rw [this]
        refine ⟨rfl, fun bl => ?_⟩
        unfold itF zeroE
        simp only [bs_data, pth]
        rw [if_neg (by decide), if_neg (by decide), if_neg (by decide), if_neg (by decide), hd, hl]
      · have : phiE x y e = e := by unfold phiE; rw [if_neg (h0 e he)]
        rw [this]
        exact ⟨rfl, fun _ => rfl⟩
    have e : (insP (zeroE y :: t) p).map (fun i => (zeroE y :: t).getD i en0) = ((insP (zeroE x :: t) p).map (fun i => (zeroE x :: t).getD i en0)).map (phiE x y) := by
      obtain ⟨s1, m1⟩ := ents_of _ hy p
      obtain ⟨s2, m2⟩ := ents_of _ hx p
      refine order_one (fun a b => less (nmE p a) (nmE p b)) (fun _ => less_irr _) (fun _ _ _ => less_trans _ _ _) _ _ s1 ?_ (fun e => ?_)
      · rw [List.pairwise_map]
        refine s2.imp_of_mem (fun {a b} ha hb h => ?_)
        have h1 := (hphi a ((m2 a).1 ha).1).1
        have h2 := (hphi b ((m2 b).1 hb).1).1
        unfold nmE at h ⊢
        rw [h1, h2]
        exact h
      · rw [m1, List.mem_map]
        constructor
        · rintro ⟨he, hk⟩
          rcases List.mem_cons.1 he with rfl | he
          · refine ⟨zeroE x, (m2 _).2 ⟨by simp, hk⟩, ?_⟩
            unfold phiE; rw [if_pos (zero_pth x)]
          · exact ⟨e, (m2 _).2 ⟨List.mem_cons_of_mem _ he, hk⟩, by unfold phiE; rw [if_neg (h0 e he)]⟩
        · rintro ⟨a, ha, rfl⟩
          obtain ⟨h1, h2⟩ := (m2 a).1 ha
          have h3 := (hphi a h1).1
          constructor
          · rcases List.mem_cons.1 h1 with rfl | h1
            · unfold phiE; rw [if_pos (zero_pth x)]; simp
            · unfold phiE; rw [if_neg (h0 a h1)]; exact List.mem_cons_of_mem _ h1
          · unfold kidB at h2 ⊢; rw [h3]; exact h2
    simp only [blobP, items_itF, ih, e]
    rw [List.map_map]
    congr 1
    obtain ⟨_, m2⟩ := ents_of _ hx p
    generalize (insP (zeroE x :: t) p).map (fun i => (zeroE x :: t).getD i en0) = E at *
    refine List.map_congr_left (fun a ha => ?_)
    exact (hphi a ((m2 a).1 ha).1).2 _
theorem built_err {l : List En} (hw : wrongP l = 0) : (builtP l = none ∧ errOf l = 3) ∨ ∃ out, builtP l = some out ∧ errOf l = 0 ∧ rootOf l = P.digest (blobP l 6 []) ∧ outOf l = out := by
  cases hb : builtP l with
  | none => left; exact ⟨rfl, by unfold errOf; rw [if_neg (by simpa using hw), if_pos hb]⟩
  | some out =>
    right
    have he : errOf l = 0 := by unfold errOf; rw [if_neg (by simpa using hw), if_neg (by rw [hb]; simp)]
    exact ⟨out, rfl, he, by unfold rootOf; rw [if_pos he], by unfold outOf; rw [if_pos hw, hb]; rfl⟩
theorem same_of {l m : List En} (hl : Tree l) (hm : Tree m) (h : ∀ e, e ∈ m ↔ e ∈ l) (hlen : l.length = m.length) : sameP l m = true := by
  unfold sameP
  rw [Bool.and_eq_true, List.all_eq_true]
  refine ⟨by simpa using hlen, fun i hi => ?_⟩
  have hi' : i < l.length := by simpa using hi
  obtain ⟨j, hj, ej⟩ := List.mem_iff_getElem.1 ((h l[i]).2 (List.getElem_mem hi'))
  have hf := find_once m (tree_once m hm) j hj
  unfold inP
  rw [en_getD l i hi']
  have hp : findP m l[i].path.data.toList = (j : Int) := by rw [← ej]; exact hf
  rw [hp, Int.toNat_natCast, en_getD m j hj, ej, (enEq_iff _ _).2 rfl]
  simp
theorem same_not {t : List En} {x y : List UInt8} (hy : Tree (zeroE y :: t)) (hne : x ≠ y) : sameP (zeroE x :: t) (zeroE y :: t) = false := by
  cases h : sameP (zeroE x :: t) (zeroE y :: t) with
  | false => rfl
  | true =>
    exfalso
    unfold sameP at h
    rw [Bool.and_eq_true, List.all_eq_true] at h
    have h0 := h.2 0 (by simp)
    unfold inP at h0
    have hf := find_once (zeroE y :: t) (tree_once _ hy) 0 (by simp)
    have hp : findP (zeroE y :: t) ((zeroE x :: t).getD 0 en0).path.data.toList = 0 := hf
    rw [hp] at h0
    rw [Bool.and_eq_true] at h0
    have h1 := (enEq_iff _ _).1 h0.2
    have h2 : bs y = bs x := congrArg En.data h1
    have h3 : (bs y).data.toList = (bs x).data.toList := by rw [h2]
    rw [bs_data, bs_data] at h3
    exact hne h3.symm
/-- what the statement asks of two trees, over plain lists -/
theorem parted_plain {t : List En} (ht : Tree t) (hw : wrongP t = 0) (h29 : t.length ≤ 29) (h0 : ∀ e ∈ t, pth e ≠ [48]) {x y : List UInt8} (hx : x.length ≤ 60) (hl : x.length = y.length) (hd : P.digest x = P.digest y) (hne : x ≠ y) :
    ((errOf (zeroE x :: t) = 3 ∨ errOf (zeroE x :: t) = 0) ∧ (errOf (zeroE y :: t).reverse = 3 ∨ errOf (zeroE y :: t).reverse = 0)) ∧
    (errOf (zeroE x :: t) = 0 → errOf (zeroE y :: t).reverse = 0 → rootOf (zeroE x :: t) = rootOf (zeroE y :: t).reverse ∧ clashErr (zeroE x :: t) (zeroE y :: t) = 0 ∧ clashErr (zeroE x :: t) (zeroE x :: t).reverse = 11 ∧ outOf (zeroE y :: t).reverse = outOf (zeroE y :: t)) := by
  obtain ⟨a1, a2⟩ := tree_zero ht hw h29 h0 x hx
  obtain ⟨b1, b2⟩ := tree_zero ht hw h29 h0 y (by omega)
  obtain ⟨r1, r2, r3, r4⟩ := tree_rev b1 b2
  obtain ⟨s1, s2, s3, s4⟩ := tree_rev a1 a2
  have hblob := blob_two a1 b1 h0 hd hl 6 []
  refine ⟨⟨?_, ?_⟩, fun e1 e2 => ?_⟩
  · rcases built_err a2 with ⟨_, h⟩ | ⟨_, _, h, _⟩
    · exact .inl h
    · exact .inr h
  · rcases built_err r2 with ⟨_, h⟩ | ⟨_, _, h, _⟩
    · exact .inl h
    · exact .inr h
  · rcases built_err a2 with ⟨_, h⟩ | ⟨oa, ha, _, ra, ua⟩
    · omega
    rcases built_err r2 with ⟨_, h⟩ | ⟨ob, hb, _, rb, ub⟩
    · omega
    rcases built_err b2 with ⟨h, _⟩ | ⟨oc, hc, ec, rc, uc⟩
    · rw [r3, h] at hb; simp at hb
    rcases built_err s2 with ⟨h, _⟩ | ⟨od, hd', ed, rd, ud⟩
    · rw [s3, ha] at h; simp at h
    have hobc : ob = oc := by rw [r3, hc] at hb; simpa using hb.symm
    refine ⟨?_, ?_, ?_, ?_⟩
    · rw [ra, rb, r4, hblob]
    · unfold clashErr
      rw [if_neg (by simpa using e1), if_neg (by simpa using ec), if_neg ?_]
      rw [same_not b1 hne, ra, rc, hblob]
      simp
    · unfold clashErr
      rw [if_neg (by simpa using e1), if_neg (by simpa using ed), if_pos ?_]
      left
      exact same_of a1 s1 (fun e => List.mem_reverse) (by simp)
    · rw [ub, uc, hobc]
end Go.Proofs.YtjmacegibchplaaGreatDoor
