import Derived.Test.YtjmacegibchplaaGreatDoorBldLaw
import Derived.Test.YtjmacegibchplaaGreatDoorUpE
import Derived.Test.YtjmacegibchplaaGreatDoorFetQ
/-
  The statement on Build: its body.
-/
namespace Go.Proofs.YtjmacegibchplaaGreatDoor
open Go.RowKit
set_option linter.unusedVariables false

def smallL : List En := [⟨⟨#[100, 47, 102]⟩, 2, ⟨#[98, 121, 116, 101, 115]⟩⟩, ⟨⟨#[100]⟩, 0, ⟨#[]⟩⟩, ⟨⟨#[97]⟩, 3, ⟨#[100, 47, 102]⟩⟩]
theorem small_len : (outOf smallL).length = 3 := by kernel_rfl
set_option maxHeartbeats 1000000 in
theorem small_any (w : World) :
    Calls Tryz.prog 13 #[] w fun e w' => e = .returned (.slice (some ⟨w.heap.size, 0, none⟩) 3 3) ∧ EntsAt w' w.heap.size 0 smallL ∧ Below w.heap.size w w' := by
  go_enter Tryz.func13, Tryz.ntmps13
  go_wp2_with fail
  go_ret
  refine ⟨rfl, ?_, (Below.refl _ _).alloc (Nat.le_refl _) _⟩
  intro i hi
  have hb := heap_alloc_new w (.cells #[.string ⟨#[100, 47, 102]⟩, .int .i64 2, .string ⟨#[98, 121, 116, 101, 115]⟩, .string ⟨#[100]⟩, .int .i64 0, .string ⟨#[]⟩, .string ⟨#[97]⟩, .int .i64 3, .string ⟨#[100, 47, 102]⟩] 32)
  match i, hi with
  | 0, _ => exact ⟨cell_of_block hb, cell_of_block hb, cell_of_block hb⟩
  | 1, _ => exact ⟨cell_of_block hb, cell_of_block hb, cell_of_block hb⟩
  | 2, _ => exact ⟨cell_of_block hb, cell_of_block hb, cell_of_block hb⟩
theorem small_fit : TFit smallL := by
  intro i hi
  match i, hi with
  | 0, _ => show (3 : Nat) ≤ 1100000 ∧ (5 : Nat) ≤ maxLen; decide
  | 1, _ => show (1 : Nat) ≤ 1100000 ∧ (0 : Nat) ≤ maxLen; decide
  | 2, _ => show (1 : Nat) ≤ 1100000 ∧ (3 : Nat) ≤ maxLen; decide
set_option maxHeartbeats 1000000 in
theorem builds_law {G : World → Prop} (hS : Stays G) (hP : ProgBuild G) (l : List En) (a : Option Addr) (c : Nat) (w : World) (hG : G w) (hl : l.length * 40 ≤ 140737488351232) (hi : LiesE w a l) (hn : a = none → l = [] ∧ c = 0) (hf : TFit l) :
    Calls Tryz.prog 3 #[.slice a l.length c] w fun e w' => e = .returned (.bool true) ∧ Below w.heap.size w w' := by
  go_enter Tryz.func3, Tryz.ntmps3
  go_wp2_with fail
  refine (small_any w).mono ?_
  rintro e w1 ⟨rfl, hs1, hb1⟩
  go_wp2_with fail
  have hbl := built_law hS hP smallL (some ⟨w.heap.size, 0, none⟩) 3 w1 (hS _ _ hG hb1) (by decide) (.inr ⟨_, _, rfl, hs1⟩) (fun h => by simp at h) small_fit
  refine hbl.mono ?_
  clear hbl
  rintro e w2 ⟨v, rfl, ho2, hb2⟩
  have hw2 := hb1.trans (hb2.mono hb1.size)
  obtain ⟨a2, c2, rfl, -, -, -⟩ := ho2.texts
  rw [small_len]
  clear ho2
  go_wp2_with fail
  refine (built_law hS hP l a c w2 (hS _ _ hG hw2) hl (hi.below hw2 (Nat.le_refl _)) hn hf).mono ?_
  rintro e w3 ⟨v3, rfl, -, hb3⟩
  have hw3 := hw2.trans (hb3.mono hw2.size)
  go_wp2_with fail
  go_ret
  exact ⟨rfl, hw3⟩
end Go.Proofs.YtjmacegibchplaaGreatDoor

/-
  The statement on Clash: its body, over any Clash that answers as the document asks.
-/
namespace Go.Proofs.YtjmacegibchplaaGreatDoor
open Go.RowKit
set_option linter.unusedVariables false

/-- the error of a Build -/
def errOf (l : List En) : Int := if wrongP l ≠ 0 then wrongP l else if builtP l = none then 3 else 0
def rootOf (l : List En) : List UInt8 := if errOf l = 0 then P.digest (blobP l 6 []) else []
theorem refBuild_uni (l : List En) (a : Option Addr) (c : Nat) (w : World) (hl : l.length ≤ maxLen) (hi : LiesE w a l) (hf : TFit l) :
    Calls Tryz.prog 17 #[.slice a l.length c] w fun e w' => ∃ v, e = .returned (.tuple #[.string (bs (rootOf l)), v, .int .i64 (errOf l)]) ∧ OwnsS w' w.heap.size v (outOf l) ∧ Below w.heap.size w w' := by
  refine (refBuild_any l a c w hl hi hf).mono ?_
  rintro e w' ⟨hb, h⟩
  rcases h with ⟨hw, rfl⟩ | ⟨hw, hbu, rfl⟩ | ⟨out, v, hw, hbu, rfl, ho⟩
  · have he : errOf l = wrongP l := by unfold errOf; rw [if_pos hw]
    have hr : rootOf l = [] := by unfold rootOf; rw [he, if_neg hw]
    have ho : outOf l = [] := by unfold outOf; rw [if_neg hw]
    exact ⟨_, by rw [he, hr]; rfl, by rw [ho]; exact World.ownsRow_nil _ _ _ _, hb⟩
  · have he : errOf l = 3 := by unfold errOf; rw [if_neg (by simpa using hw), if_pos hbu]
    have hr : rootOf l = [] := by unfold rootOf; rw [he]; rfl
    have ho : outOf l = [] := by unfold outOf; rw [if_pos hw, hbu]; rfl
    exact ⟨_, by rw [he, hr]; rfl, by rw [ho]; exact World.ownsRow_nil _ _ _ _, hb⟩
  · have he : errOf l = 0 := by unfold errOf; rw [if_neg (by simpa using hw), if_neg (by rw [hbu]; simp)]
    have hr : rootOf l = P.digest (blobP l 6 []) := by unfold rootOf; rw [he]; rfl
    have ho' : outOf l = out := by unfold outOf; rw [if_pos hw, hbu]; rfl
    exact ⟨v, by rw [he, hr], by rw [ho']; exact ho, hb⟩
theorem outOf_len (l : List En) : (outOf l).length ≤ 100 := by
  unfold outOf
  split
  · rename_i hw
    cases hb : builtP l with
    | none => simp
    | some out => exact builtP_len l (tree_of l hw) out hb
  · simp
theorem outOf_small (l : List En) (s : List UInt8) (h : s ∈ outOf l) : s.length ≤ 2000 := by
  unfold outOf at h
  split at h
  · rename_i hw
    have ht := tree_of l hw
    cases hb : builtP l with
    | none => rw [hb] at h; simp at h
    | some out =>
      rw [hb] at h
      simp at h
      have key : ∀ f last out, outG (allP l) f last = some out → ∀ s ∈ out, s.length ≤ 2000 := by
        intro f
        induction f with
        | zero => intro last out ho s hs; simp [outG] at ho; subst ho; simp at hs
        | succ f ih =>
          intro last out ho s hs
          simp only [outG] at ho
          split at ho
          · simp at ho; subst ho; simp at hs
          · rename_i hneg
            split at ho
            · simp at ho
            · cases hr : outG (allP l) f (P.digest ((allP l).getD (nxtD (allP l) last).toNat [])) with
              | none => rw [hr] at ho; simp at ho
              | some r =>
                rw [hr] at ho
                simp at ho
                subst ho
                rcases List.mem_cons.1 hs with rfl | hs
                · have hbd := nxtTo_bd (allP l) last (allP l).length
                  have hlt : (nxtD (allP l) last).toNat < (allP l).length := by unfold nxtD at hneg ⊢; omega
                  have := allTo_small l ht l.length (Nat.le_refl _) (allP l)[(nxtD (allP l) last).toNat] (List.getElem_mem hlt)
                  simpa [List.getElem?_eq_getElem hlt] using this
                · exact ih _ r hr s hs
      exact key _ _ out hb s h
  · simp at h
/-- the error of a Clash -/
def clashErr (x y : List En) : Int := if errOf x ≠ 0 then errOf x else if errOf y ≠ 0 then errOf y else if sameP x y = true ∨ rootOf x ≠ rootOf y then 11 else 0
structure ClashOk (x y : List En) (r : List UInt8 × List UInt8 × Int) : Prop where
  err : r.2.2 = clashErr x y
  none : r.2.2 ≠ 0 → r.1 = [] ∧ r.2.1 = []
  some : r.2.2 = 0 → r.1 ≠ r.2.1 ∧ r.1 ∈ outOf x ∧ r.2.1 ∈ outOf y ∧ P.digest r.1 = P.digest r.2.1
/-- the program's Clash: one answer for two trees, as the document asks -/
def ProgClash (G : World → Prop) (cl : List En → List En → List UInt8 × List UInt8 × Int) : Prop :=
  (∀ x y, TFit x → TFit y → ClashOk x y (cl x y)) ∧
  ∀ (x y : List En) (a1 a2 : Option Addr) (c1 c2 : Nat) (w : World), G w → x.length ≤ maxLen → y.length ≤ maxLen → LiesE w a1 x → LiesE w a2 y → TFit x → TFit y →
    Calls Tryz.prog 14 #[.slice a1 x.length c1, .slice a2 y.length c2] w fun e w' => e = .returned (.tuple #[.string (bs (cl x y).1), .string (bs (cl x y).2.1), .int .i64 (cl x y).2.2]) ∧ Below w.heap.size w w'
def cla : List En := [⟨⟨#[102]⟩, 1, ⟨#[48, 5]⟩⟩]
def clb : List En := [⟨⟨#[102]⟩, 1, ⟨#[63, 153]⟩⟩]
theorem cl_err : clashErr cla clb = 0 := by kernel_rfl
theorem cl_only : ((outOf cla).all fun s => (outOf clb).all fun t => s == t || !(P.digest s == P.digest t) || (s == [48, 5] && t == [63, 153])) = true := by kernel_rfl
theorem cl_fit (d : ByteArray) (h : d.size = 2) : TFit [⟨⟨#[102]⟩, 1, d⟩] := by
  intro i hi
  match i, hi with
  | 0, _ => exact ⟨show (1 : Nat) ≤ 1100000 by decide, show d.size ≤ maxLen by rw [h]; decide⟩
theorem cl_first {G : World → Prop} {cl : List En → List En → List UInt8 × List UInt8 × Int} (hP : ProgClash G cl) : cl cla clb = ([48, 5], [63, 153], 0) := by
  have h := hP.1 cla clb (cl_fit _ rfl) (cl_fit _ rfl)
  have he : (cl cla clb).2.2 = 0 := h.err.trans cl_err
  obtain ⟨h1, h2, h3, h4⟩ := h.some he
  have hall := cl_only
  rw [List.all_eq_true] at hall
  have := hall _ h2
  rw [List.all_eq_true] at this
  have := this _ h3
  simp [h1, h4] at this
  exact Prod.ext this.1 (Prod.ext this.2 he)
end Go.Proofs.YtjmacegibchplaaGreatDoor

/-
  A small tree that is built, brought and fetched: the plain answers. No walk.
-/
namespace Go.Proofs.YtjmacegibchplaaGreatDoor
set_option linter.unusedVariables false

def awkU := upP 1000 smallL 3 5000 [1, 2, 0, 3] []
theorem awk_err : errOf smallL = 0 := by kernel_rfl
theorem awk_code : awkU.2.2.1 = 0 := by kernel_rfl
theorem awk_tries : awkU.2.1.1 = 4 ∧ awkU.2.1.2.1 = 3 := by constructor <;> kernel_rfl
theorem awk_root : awkU.1 = rootOf smallL := by kernel_rfl
theorem awk_sum : sumP awkU.2.2.2 ≤ 1000 := by decide +kernel
theorem awk_fetch : fetchP (atP awkU.2.2.2) (rootOf smallL) 40 5 = (0, [⟨⟨#[97]⟩, 3, ⟨#[100, 47, 102]⟩⟩, ⟨⟨#[100]⟩, 0, ⟨#[]⟩⟩, ⟨⟨#[100, 47, 102]⟩, 2, ⟨#[98, 121, 116, 101, 115]⟩⟩]) := by kernel_rfl
/-- what stands in a store is not more than all -/
theorem at_sum : ∀ (st : List (List UInt8 × List UInt8)) (d b : List UInt8), atP st d = some b → b.length ≤ sumP st
  | [], d, b, h => by simp [atP] at h
  | (k, x) :: r, d, b, h => by
    simp only [atP] at h
    simp only [sumP]
    split at h
    · obtain rfl := Option.some.inj h; omega
    · have := at_sum r d b h; omega
end Go.Proofs.YtjmacegibchplaaGreatDoor

/-
  Trees made of raw numbers and texts: each is one, and none of its links leads out. Plain lists, no walk.
-/
namespace Go.Proofs.YtjmacegibchplaaGreatDoor
set_option linter.unusedVariables false

def pickP (c n : Int) : Int := (if c < 0 then -(c + 1) else c) % n
def digP (n : Nat) : List UInt8 := if n < 10 then [UInt8.ofNat (48 + n)] else [UInt8.ofNat (48 + n / 10), UInt8.ofNat (48 + n % 10)]
def lnkP (m : Nat) : List UInt8 := if m = 0 then [120] else if m = 1 then [46, 47, 97, 47, 46, 46] else if m = 2 then [98, 47, 47, 99, 47] else [46]
def inT (dirs : List (List UInt8 × Nat)) (v : Int) : List UInt8 × Nat := dirs.getD (v / 8 % dirs.length).toNat ([], 0)
def nameT (i : Nat) (v : Int) : List UInt8 := UInt8.ofNat (97 + (v / 800 % 26).toNat) :: digP i
def entT (dirs : List (List UInt8 × Nat)) (texts : List (List UInt8)) (i : Nat) (v : Int) : En :=
  if v % 8 ≤ 1 then ⟨bs ((inT dirs v).1 ++ nameT i v), 0, ⟨#[]⟩⟩
  else if v % 8 = 2 then ⟨bs ((inT dirs v).1 ++ nameT i v), 3, bs ((if (inT dirs v).2 = 0 then [] else [46, 46, 47]) ++ lnkP (v / 80 % 4).toNat)⟩
  else ⟨bs ((inT dirs v).1 ++ nameT i v), if v % 8 = 3 then 2 else 1, bs (if texts = [] then [] else (texts.getD (v / 80 % texts.length).toNat []).take 60)⟩
def dirT (dirs : List (List UInt8 × Nat)) (i : Nat) (v : Int) : List (List UInt8 × Nat) :=
  if v % 8 ≤ 1 ∧ (inT dirs v).2 < 4 then dirs ++ [((inT dirs v).1 ++ nameT i v ++ [47], (inT dirs v).2 + 1)] else dirs
def treeG (texts : List (List UInt8)) : List Int → Nat → List (List UInt8 × Nat) → List En
  | [], _, _ => []
  | v :: r, i, dirs => entT dirs texts i v :: treeG texts r (i + 1) (dirT dirs i v)
def treeP (raw : List Int) (texts : List (List UInt8)) : List En := treeG texts ((raw.take 30).map (fun c => pickP c 1099511627776)) 0 [([], 0)]
theorem treeG_len (texts : List (List UInt8)) : ∀ r i dirs, (treeG texts r i dirs).length = r.length
  | [], _, _ => rfl
  | v :: r, i, dirs => by simp [treeG, treeG_len texts r]
theorem dig_name : ∀ i : Fin 30, (digP i.val).length ≤ 2 ∧ ¬ (47 : UInt8) ∈ digP i.val ∧ ¬ (0 : UInt8) ∈ digP i.val ∧ 1 ≤ (digP i.val).length := by decide
theorem dig_inj : ∀ i j : Fin 30, digP i.val = digP j.val → i = j := by decide
theorem let_name : ∀ m : Fin 26, UInt8.ofNat (97 + m.val) ≠ 47 ∧ UInt8.ofNat (97 + m.val) ≠ 0 ∧ UInt8.ofNat (97 + m.val) ≠ 46 := by decide
theorem nameT_ok (i : Nat) (hi : i < 30) (v : Int) : P.isName (nameT i v) = true := by
  obtain ⟨h1, h2, h3, h4⟩ := dig_name ⟨i, hi⟩
  obtain ⟨l1, l2, l3⟩ := let_name ⟨(v / 800 % 26).toNat, by omega⟩
  simp only at h1 h2 h3 h4 l1 l2 l3
  unfold P.isName nameT
  simp only [Bool.and_eq_true, Bool.not_eq_true', decide_eq_true_eq, beq_eq_false_iff_ne, List.length_cons]
  refine ⟨⟨⟨⟨by omega, has_false.2 (fun hm => (List.mem_cons.1 hm).elim (fun e => l1 e.symm) h2)⟩, has_false.2 (fun hm => (List.mem_cons.1 hm).elim (fun e => l2 e.symm) h3)⟩, ?_⟩, ?_⟩
  · intro e
    exact l3 (List.cons.inj e).1
  · intro e
    exact l3 (List.cons.inj e).1
theorem outGo_more : ∀ (L : List (List UInt8)) (a b : Int), a ≤ b → outGo a L = false → outGo b L = false
  | [], _, _, _, _ => rfl
  | x :: r, a, b, hab, h => by
    have hle : (if x = [46, 46] then a - 1 else if x = [] ∨ x = [46] then a else a + 1) ≤ (if x = [46, 46] then b - 1 else if x = [] ∨ x = [46] then b else b + 1) := by
      split
      · omega
      · split <;> omega
    simp only [outGo] at h ⊢
    generalize (if x = [46, 46] then a - 1 else if x = [] ∨ x = [46] then a else a + 1) = da at *
    generalize (if x = [46, 46] then b - 1 else if x = [] ∨ x = [46] then b else b + 1) = db at *
    by_cases hn : da < 0
    · rw [if_pos hn] at h; simp at h
    · rw [if_neg hn] at h
      rw [if_neg (by omega)]
      exact outGo_more r _ _ hle h
theorem out_more {a b : Int} {t : List UInt8} (hab : a ≤ b) (h : outP a t = false) : outP b t = false := by
  unfold outP at h ⊢
  split at h
  · simp at h
  · rename_i hn
    rw [if_neg hn]
    exact outGo_more _ _ _ hab h
theorem lnk_top : ∀ m : Fin 4, outP 0 (lnkP m.val) = false ∧ P.isTarget (lnkP m.val) = true ∧ outP 1 ([46, 46, 47] ++ lnkP m.val) = false ∧ P.isTarget ([46, 46, 47] ++ lnkP m.val) = true := by decide
/-- the directories that there are -/
def DirsOk (seen : List En) (dirs : List (List UInt8 × Nat)) : Prop := ∀ p ∈ dirs, ∃ q, p.1 = pre q ∧ NamesOk q p.2 ∧ p.2 ≤ 4 ∧ (q = [] ∨ ∃ t ∈ seen, pth t = q ∧ t.kind = 0)
theorem inT_ok {seen : List En} {dirs : List (List UInt8 × Nat)} (h : DirsOk seen dirs) (v : Int) : ∃ q, (inT dirs v).1 = pre q ∧ NamesOk q (inT dirs v).2 ∧ (inT dirs v).2 ≤ 4 ∧ (q = [] ∨ ∃ t ∈ seen, pth t = q ∧ t.kind = 0) := by
  unfold inT
  rcases Nat.lt_or_ge (v / 8 % dirs.length).toNat dirs.length with hl | hl
  · rw [List.getD_eq_getElem?_getD, List.getElem?_eq_getElem hl]
    exact h _ (List.getElem_mem hl)
  · rw [List.getD_eq_getElem?_getD, List.getElem?_eq_none hl]
    exact ⟨[], rfl, .inl ⟨rfl, rfl⟩, by simp, .inl rfl⟩
/-- what is said of an entry -/
structure TFine (seen : List En) (i : Nat) (e : En) : Prop where
  names : ∀ p ∈ sp (pth e), P.isName p = true
  deep : (sp (pth e)).length ≤ 5
  kind : kindBad e = false
  out : e.kind = 3 → outP ((sp (pth e)).length - 1) e.data.data.toList = false
  up : upPath (pth e) = [] ∨ ∃ t ∈ seen, pth t = upPath (pth e) ∧ t.kind = 0
  last : (nameOf (pth e)).drop 1 = digP i
theorem entT_pth (dirs : List (List UInt8 × Nat)) (texts : List (List UInt8)) (i : Nat) (v : Int) : pth (entT dirs texts i v) = (inT dirs v).1 ++ nameT i v := by
  unfold entT
  split
  · exact bs_data _
  · split <;> exact bs_data _
theorem entT_fine {seen : List En} {dirs : List (List UInt8 × Nat)} (h : DirsOk seen dirs) (texts : List (List UInt8)) (i : Nat) (hi : i < 30) (v : Int) : TFine seen i (entT dirs texts i v) ∧ (sp (pth (entT dirs texts i v))).length = (inT dirs v).2 + 1 := by
  obtain ⟨q, h1, h2, h3, h4⟩ := inT_ok h v
  have hn := nameT_ok i hi v
  obtain ⟨n1, n2, n3⟩ := names_sp h2 hn
  have hp := entT_pth dirs texts i v
  rw [h1] at hp
  have hname : nameOf (pre q ++ nameT i v) = nameT i v := by
    rcases h2 with ⟨rfl, _⟩ | ⟨hq, _⟩
    · rw [pre_nil, List.nil_append]; exact (cut_none (isName_no hn)).2.2
    · rw [pre_some hq, List.append_assoc, List.singleton_append]; exact (cut_some q _ (isName_no hn)).2.2
  have hl : (sp (pth (entT dirs texts i v))).length = (inT dirs v).2 + 1 := by rw [hp]; exact n2
  refine ⟨⟨by rw [hp]; exact n1, by omega, ?_, ?_, ?_, by rw [hp, hname]; rfl⟩, hl⟩
  · unfold entT
    split
    · simp [kindBad]
    · split
      · obtain ⟨l1, l2, l3, l4⟩ := lnk_top ⟨(v / 80 % 4).toNat, by omega⟩
        simp only at l1 l2 l3 l4
        have : P.isTarget ((if (inT dirs v).2 = 0 then [] else [46, 46, 47]) ++ lnkP (v / 80 % 4).toNat) = true := by
          split
          · exact l2
          · exact l4
        generalize hd : (if (inT dirs v).2 = 0 then [] else [46, 46, 47]) ++ lnkP (v / 80 % 4).toNat = dd at *
        have : P.isTarget (bs dd).data.toList = true := by rw [bs_data]; exact this
        generalize bs dd = bb at *
        simp [kindBad, this]
      · have hsz : (bs (if texts = [] then [] else (texts.getD (v / 80 % texts.length).toNat []).take 60)).size ≤ 60 := by
          show (bs _).data.toList.length ≤ 60
          rw [bs_data]
          split
          · simp
          · rw [List.length_take]; omega
        have hk : (if v % 8 = 3 then (2 : Int) else 1) = 1 ∨ (if v % 8 = 3 then (2 : Int) else 1) = 2 := by split <;> simp
        generalize (if v % 8 = 3 then (2 : Int) else 1) = k at *
        generalize bs (if texts = [] then [] else (texts.getD (v / 80 % texts.length).toNat []).take 60) = b at *
        rcases hk with rfl | rfl <;> (simp [kindBad]; omega)
  · rw [hl]
    unfold entT
    split
    · intro hc; simp at hc
    · split
      · intro _
        show outP _ (bs _).data.toList = false
        rw [bs_data]
        obtain ⟨l1, l2, l3, l4⟩ := lnk_top ⟨(v / 80 % 4).toNat, by omega⟩
        simp only at l1 l2 l3 l4
        split
        · exact out_more (by omega) l1
        · exact out_more (by omega) l3
      · intro hc
        exfalso
        simp only at hc
        split at hc <;> simp at hc
  · rw [hp, n3]
    rcases h4 with rfl | ⟨t, ht, e, hk⟩
    · exact .inl rfl
    · exact .inr ⟨t, ht, e, hk⟩
theorem dirT_ok {seen : List En} {dirs : List (List UInt8 × Nat)} (h : DirsOk seen dirs) (texts : List (List UInt8)) (i : Nat) (hi : i < 30) (v : Int) : DirsOk (seen ++ [entT dirs texts i v]) (dirT dirs i v) := by
  have hold : DirsOk (seen ++ [entT dirs texts i v]) dirs := by
    intro p hp
    obtain ⟨q, h1, h2, h3, h4⟩ := h p hp
    exact ⟨q, h1, h2, h3, h4.imp id (fun ⟨t, ht, r⟩ => ⟨t, List.mem_append.2 (.inl ht), r⟩)⟩
  unfold dirT
  split
  · rename_i hc
    obtain ⟨q, h1, h2, h3, h4⟩ := inT_ok h v
    have hn := nameT_ok i hi v
    intro p hp
    rcases List.mem_append.1 hp with hp | hp
    · exact hold p hp
    · rw [List.mem_singleton.1 hp]
      refine ⟨pre q ++ nameT i v, ?_, names_next h2 hn, by have := hc.2; show _ + 1 ≤ 4; omega, .inr ⟨entT dirs texts i v, by simp, ?_, ?_⟩⟩
      · show _ ++ [47] = _
        rw [h1, pre_some (pre_name_ne (isName_ne hn))]
      · rw [entT_pth, h1]
      · unfold entT; rw [if_pos hc.1]
  · exact hold
theorem treeG_fine (texts : List (List UInt8)) : ∀ (r : List Int) (i : Nat) (dirs : List (List UInt8 × Nat)) (seen : List En), DirsOk seen dirs → i + r.length ≤ 30 → ∀ k (hk : k < (treeG texts r i dirs).length), TFine (seen ++ treeG texts r i dirs) (i + k) (treeG texts r i dirs)[k]
  | [], i, dirs, seen, _, _, k, hk => by simp [treeG] at hk
  | v :: r, i, dirs, seen, h, hi, k, hk => by
    have hi' : i < 30 := by simp at hi; omega
    have he : seen ++ treeG texts (v :: r) i dirs = (seen ++ [entT dirs texts i v]) ++ treeG texts r (i + 1) (dirT dirs i v) := by simp [treeG]
    cases k with
    | zero =>
      have := (entT_fine h texts i hi' v).1
      refine ⟨this.names, this.deep, this.kind, this.out, this.up.imp id (fun ⟨t, ht, q⟩ => ⟨t, List.mem_append.2 (.inl ht), q⟩), this.last⟩
    | succ k =>
      have := treeG_fine texts r (i + 1) (dirT dirs i v) (seen ++ [entT dirs texts i v]) (dirT_ok h texts i hi' v) (by simp at hi; omega) k (by simpa [treeG] using hk)
      rw [he, show i + (k + 1) = i + 1 + k by omega]
      exact this
/-- A TREE OF RAW NUMBERS IS ONE -/
theorem treeP_ok (raw : List Int) (texts : List (List UInt8)) : Tree (treeP raw texts) ∧ wrongP (treeP raw texts) = 0 ∧ (treeP raw texts).length ≤ 30 := by
  have hlen : (treeP raw texts).length ≤ 30 := by
    unfold treeP
    rw [treeG_len, List.length_map, List.length_take]
    omega
  have hf : ∀ k (hk : k < (treeP raw texts).length), TFine (treeP raw texts) k (treeP raw texts)[k] := by
    intro k hk
    have := treeG_fine texts ((raw.take 30).map (fun c => pickP c 1099511627776)) 0 [([], 0)] [] ?_ (by rw [List.length_map, List.length_take]; omega) k hk
    · rw [List.nil_append, Nat.zero_add] at this
      exact this
    · intro p hp
      rw [List.mem_singleton.1 hp]
      exact ⟨[], rfl, .inl ⟨rfl, rfl⟩, by simp, .inl rfl⟩
  have hm : ∀ e ∈ treeP raw texts, ∃ k, TFine (treeP raw texts) k e := by
    intro e he
    obtain ⟨k, hk, rfl⟩ := List.mem_iff_getElem.1 he
    exact ⟨k, hf k hk⟩
  have hon : (treeP raw texts).Pairwise (fun a b => pth a ≠ pth b) := by
    rw [List.pairwise_iff_getElem]
    intro a b ha hb hab e
    have h1 := (hf a ha).last
    have h2 := (hf b hb).last
    rw [e, h2] at h1
    have := dig_inj ⟨b, by omega⟩ ⟨a, by omega⟩ h1
    simp only [Fin.mk.injEq] at this
    omega
  obtain ⟨t1, t2⟩ := treeIs (treeP raw texts) (by omega) hon (fun e he => let ⟨_, h⟩ := hm e he; h.up) (fun e he => let ⟨_, h⟩ := hm e he; h.names) (fun e he => let ⟨_, h⟩ := hm e he; h.deep) (fun e he => let ⟨_, h⟩ := hm e he; h.kind) (fun e he => let ⟨_, h⟩ := hm e he; h.out)
  exact ⟨t1, t2, hlen⟩
end Go.Proofs.YtjmacegibchplaaGreatDoor
