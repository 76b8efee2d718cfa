import Derived.Test.YtjmacegibchplaaGreatDoorBldLaw
import Derived.Test.YtjmacegibchplaaGreatDoorUpE
/-
  The statement on Build: its body.
-/
namespace Go.Proofs.YtjmacegibchplaaGreatDoor
open Go.RowKit
set_option linter.unusedVariables false

def smallL : List En := [⟨⟨#[100, 47, 102]⟩, 2, ⟨#[98, 121, 116, 101, 115]⟩⟩, ⟨⟨#[100]⟩, 0, ⟨#[]⟩⟩, ⟨⟨#[97]⟩, 3, ⟨#[100, 47, 102]⟩⟩]
theorem small_len : (outOf smallL).length = 3 := by kernel_rfl
set_option maxHeartbeats 1000000 in
theorem small_any (w : World) :
    Calls Tryz.prog 13 #[] w fun e w' => e = .returned (.slice (some ⟨w.heap.size, 0, none⟩) 3 3) ∧ EntsAt w' w.heap.size 0 smallL ∧ Below w.heap.size w w' := by
  go_enter Tryz.func13, Tryz.ntmps13
  go_wp2_with fail
  go_ret
  refine ⟨rfl, ?_, (Below.refl _ _).alloc (Nat.le_refl _) _⟩
  intro i hi
  have hb := heap_alloc_new w (.cells #[.string ⟨#[100, 47, 102]⟩, .int .i64 2, .string ⟨#[98, 121, 116, 101, 115]⟩, .string ⟨#[100]⟩, .int .i64 0, .string ⟨#[]⟩, .string ⟨#[97]⟩, .int .i64 3, .string ⟨#[100, 47, 102]⟩] 32)
  match i, hi with
  | 0, _ => exact ⟨cell_of_block hb, cell_of_block hb, cell_of_block hb⟩
  | 1, _ => exact ⟨cell_of_block hb, cell_of_block hb, cell_of_block hb⟩
  | 2, _ => exact ⟨cell_of_block hb, cell_of_block hb, cell_of_block hb⟩
theorem small_fit : TFit smallL := by
  intro i hi
  match i, hi with
  | 0, _ => show (3 : Nat) ≤ 1100000 ∧ (5 : Nat) ≤ maxLen; decide
  | 1, _ => show (1 : Nat) ≤ 1100000 ∧ (0 : Nat) ≤ maxLen; decide
  | 2, _ => show (1 : Nat) ≤ 1100000 ∧ (3 : Nat) ≤ maxLen; decide
set_option maxHeartbeats 1000000 in
theorem builds_law {G : World → Prop} (hS : Stays G) (hP : ProgBuild G) (l : List En) (a : Option Addr) (c : Nat) (w : World) (hG : G w) (hl : l.length * 40 ≤ 140737488351232) (hi : LiesE w a l) (hn : a = none → l = [] ∧ c = 0) (hf : TFit l) :
    Calls Tryz.prog 3 #[.slice a l.length c] w fun e w' => e = .returned (.bool true) ∧ Below w.heap.size w w' := by
  go_enter Tryz.func3, Tryz.ntmps3
  go_wp2_with fail
  refine (small_any w).mono ?_
  rintro e w1 ⟨rfl, hs1, hb1⟩
  go_wp2_with fail
  have hbl := built_law hS hP smallL (some ⟨w.heap.size, 0, none⟩) 3 w1 (hS _ _ hG hb1) (by decide) (.inr ⟨_, _, rfl, hs1⟩) (fun h => by simp at h) small_fit
  refine hbl.mono ?_
  clear hbl
  rintro e w2 ⟨v, rfl, ho2, hb2⟩
  have hw2 := hb1.trans (hb2.mono hb1.size)
  obtain ⟨a2, c2, rfl, -, -, -⟩ := ho2.texts
  rw [small_len]
  clear ho2
  go_wp2_with fail
  refine (built_law hS hP l a c w2 (hS _ _ hG hw2) hl (hi.below hw2 (Nat.le_refl _)) hn hf).mono ?_
  rintro e w3 ⟨v3, rfl, -, hb3⟩
  have hw3 := hw2.trans (hb3.mono hw2.size)
  go_wp2_with fail
  go_ret
  exact ⟨rfl, hw3⟩
end Go.Proofs.YtjmacegibchplaaGreatDoor

/-
  The statement on Clash: its body, over any Clash that answers as the document asks.
-/
namespace Go.Proofs.YtjmacegibchplaaGreatDoor
open Go.RowKit
set_option linter.unusedVariables false

/-- the error of a Build -/
def errOf (l : List En) : Int := if wrongP l ≠ 0 then wrongP l else if builtP l = none then 3 else 0
def rootOf (l : List En) : List UInt8 := if errOf l = 0 then P.digest (blobP l 6 []) else []
theorem refBuild_uni (l : List En) (a : Option Addr) (c : Nat) (w : World) (hl : l.length ≤ maxLen) (hi : LiesE w a l) (hf : TFit l) :
    Calls Tryz.prog 17 #[.slice a l.length c] w fun e w' => ∃ v, e = .returned (.tuple #[.string (bs (rootOf l)), v, .int .i64 (errOf l)]) ∧ OwnsS w' w.heap.size v (outOf l) ∧ Below w.heap.size w w' := by
  refine (refBuild_any l a c w hl hi hf).mono ?_
  rintro e w' ⟨hb, h⟩
  rcases h with ⟨hw, rfl⟩ | ⟨hw, hbu, rfl⟩ | ⟨out, v, hw, hbu, rfl, ho⟩
  · have he : errOf l = wrongP l := by unfold errOf; rw [if_pos hw]
    have hr : rootOf l = [] := by unfold rootOf; rw [he, if_neg hw]
    have ho : outOf l = [] := by unfold outOf; rw [if_neg hw]
    exact ⟨_, by rw [he, hr]; rfl, by rw [ho]; exact World.ownsRow_nil _ _ _ _, hb⟩
  · have he : errOf l = 3 := by unfold errOf; rw [if_neg (by simpa using hw), if_pos hbu]
    have hr : rootOf l = [] := by unfold rootOf; rw [he]; rfl
    have ho : outOf l = [] := by unfold outOf; rw [if_pos hw, hbu]; rfl
    exact ⟨_, by rw [he, hr]; rfl, by rw [ho]; exact World.ownsRow_nil _ _ _ _, hb⟩
  · have he : errOf l = 0 := by unfold errOf; rw [if_neg (by simpa using hw), if_neg (by rw [hbu]; simp)]
    have hr : rootOf l = P.digest (blobP l 6 []) := by unfold rootOf; rw [he]; rfl
    have ho' : outOf l = out := by unfold outOf; rw [if_pos hw, hbu]; rfl
    exact ⟨v, by rw [he, hr], by rw [ho']; exact ho, hb⟩
theorem outOf_len (l : List En) : (outOf l).length ≤ 100 := by
  unfold outOf
  split
  · rename_i hw
    cases hb : builtP l with
    | none => simp
    | some out => exact builtP_len l (tree_of l hw) out hb
  · simp
theorem outOf_small (l : List En) (s : List UInt8) (h : s ∈ outOf l) : s.length ≤ 2000 := by
  unfold outOf at h
  split at h
  · rename_i hw
    have ht := tree_of l hw
    cases hb : builtP l with
    | none => rw [hb] at h; simp at h
    | some out =>
      rw [hb] at h
      simp at h
      have key : ∀ f last out, outG (allP l) f last = some out → ∀ s ∈ out, s.length ≤ 2000 := by
        intro f
        induction f with
        | zero => intro last out ho s hs; simp [outG] at ho; subst ho; simp at hs
        | succ f ih =>
          intro last out ho s hs
          simp only [outG] at ho
          split at ho
          · simp at ho; subst ho; simp at hs
          · rename_i hneg
            split at ho
            · simp at ho
            · cases hr : outG (allP l) f (P.digest ((allP l).getD (nxtD (allP l) last).toNat [])) with
              | none => rw [hr] at ho; simp at ho
              | some r =>
                rw [hr] at ho
                simp at ho
                subst ho
                rcases List.mem_cons.1 hs with rfl | hs
                · have hbd := nxtTo_bd (allP l) last (allP l).length
                  have hlt : (nxtD (allP l) last).toNat < (allP l).length := by unfold nxtD at hneg ⊢; omega
                  have := allTo_small l ht l.length (Nat.le_refl _) (allP l)[(nxtD (allP l) last).toNat] (List.getElem_mem hlt)
                  simpa [List.getElem?_eq_getElem hlt] using this
                · exact ih _ r hr s hs
      exact key _ _ out hb s h
  · simp at h
/-- the error of a Clash -/
def clashErr (x y : List En) : Int := if errOf x ≠ 0 then errOf x else if errOf y ≠ 0 then errOf y else if sameP x y = true ∨ rootOf x ≠ rootOf y then 11 else 0
structure ClashOk (x y : List En) (r : List UInt8 × List UInt8 × Int) : Prop where
  err : r.2.2 = clashErr x y
  none : r.2.2 ≠ 0 → r.1 = [] ∧ r.2.1 = []
  some : r.2.2 = 0 → r.1 ≠ r.2.1 ∧ r.1 ∈ outOf x ∧ r.2.1 ∈ outOf y ∧ P.digest r.1 = P.digest r.2.1
/-- the program's Clash: one answer for two trees, as the document asks -/
def ProgClash (G : World → Prop) (cl : List En → List En → List UInt8 × List UInt8 × Int) : Prop :=
  (∀ x y, TFit x → TFit y → ClashOk x y (cl x y)) ∧
  ∀ (x y : List En) (a1 a2 : Option Addr) (c1 c2 : Nat) (w : World), G w → x.length ≤ maxLen → y.length ≤ maxLen → LiesE w a1 x → LiesE w a2 y → TFit x → TFit y →
    Calls Tryz.prog 14 #[.slice a1 x.length c1, .slice a2 y.length c2] w fun e w' => e = .returned (.tuple #[.string (bs (cl x y).1), .string (bs (cl x y).2.1), .int .i64 (cl x y).2.2]) ∧ Below w.heap.size w w'
def cla : List En := [⟨⟨#[102]⟩, 1, ⟨#[48, 5]⟩⟩]
def clb : List En := [⟨⟨#[102]⟩, 1, ⟨#[63, 153]⟩⟩]
theorem cl_err : clashErr cla clb = 0 := by kernel_rfl
theorem cl_only : ((outOf cla).all fun s => (outOf clb).all fun t => s == t || !(P.digest s == P.digest t) || (s == [48, 5] && t == [63, 153])) = true := by kernel_rfl
theorem cl_fit (d : ByteArray) (h : d.size = 2) : TFit [⟨⟨#[102]⟩, 1, d⟩] := by
  intro i hi
  match i, hi with
  | 0, _ => exact ⟨show (1 : Nat) ≤ 1100000 by decide, show d.size ≤ maxLen by rw [h]; decide⟩
theorem cl_first {G : World → Prop} {cl : List En → List En → List UInt8 × List UInt8 × Int} (hP : ProgClash G cl) : cl cla clb = ([48, 5], [63, 153], 0) := by
  have h := hP.1 cla clb (cl_fit _ rfl) (cl_fit _ rfl)
  have he : (cl cla clb).2.2 = 0 := h.err.trans cl_err
  obtain ⟨h1, h2, h3, h4⟩ := h.some he
  have hall := cl_only
  rw [List.all_eq_true] at hall
  have := hall _ h2
  rw [List.all_eq_true] at this
  have := this _ h3
  simp [h1, h4] at this
  exact Prod.ext this.1 (Prod.ext this.2 he)
end Go.Proofs.YtjmacegibchplaaGreatDoor

/-
  A small tree that is built, brought and fetched: the plain answers. No walk.
-/
namespace Go.Proofs.YtjmacegibchplaaGreatDoor
set_option linter.unusedVariables false

def awkU := upP 1000 smallL 3 5000 [1, 2, 0, 3] []
theorem awk_err : errOf smallL = 0 := by kernel_rfl
theorem awk_code : awkU.2.2.1 = 0 := by kernel_rfl
theorem awk_tries : awkU.2.1.1 = 4 ∧ awkU.2.1.2.1 = 3 := by constructor <;> kernel_rfl
theorem awk_root : awkU.1 = rootOf smallL := by kernel_rfl
theorem awk_sum : sumP awkU.2.2.2 ≤ 1000 := by decide +kernel
theorem awk_fetch : fetchP (atP awkU.2.2.2) (rootOf smallL) 40 5 = (0, [⟨⟨#[97]⟩, 3, ⟨#[100, 47, 102]⟩⟩, ⟨⟨#[100]⟩, 0, ⟨#[]⟩⟩, ⟨⟨#[100, 47, 102]⟩, 2, ⟨#[98, 121, 116, 101, 115]⟩⟩]) := by kernel_rfl
/-- what stands in a store is not more than all -/
theorem at_sum : ∀ (st : List (List UInt8 × List UInt8)) (d b : List UInt8), atP st d = some b → b.length ≤ sumP st
  | [], d, b, h => by simp [atP] at h
  | (k, x) :: r, d, b, h => by
    simp only [atP] at h
    simp only [sumP]
    split at h
    · obtain rfl := Option.some.inj h; omega
    · have := at_sum r d b h; omega
end Go.Proofs.YtjmacegibchplaaGreatDoor

/-
  The document's examples: the plain answers. No walk.
-/
namespace Go.Proofs.YtjmacegibchplaaGreatDoor
set_option linter.unusedVariables false

theorem kn_d0 : P.digest [] = [48, 48, 49] := by kernel_rfl
theorem kn_d1 : P.digest [97] = [49, 54, 57] := by kernel_rfl
theorem kn_d2 : P.digest [84, 0] = [53, 99, 55] := by kernel_rfl
theorem kn_e0 : errOf [] = 0 ∧ rootOf [] = [53, 99, 55] ∧ outOf [] = [[84, 0]] := ⟨by kernel_rfl, by kernel_rfl, by kernel_rfl⟩
def knL : List En := [⟨⟨#[97]⟩, 1, ⟨#[120]⟩⟩]
theorem kn_e1 : errOf knL = 0 ∧ (outOf knL).length = 2 := ⟨by kernel_rfl, by kernel_rfl⟩
theorem kn_c0 : decOk [84, 1, 3, 1, 108, 0] = none := by kernel_rfl
theorem kn_c1 : decOk [84, 1, 3, 1, 108, 1, 120] = some [⟨⟨#[108]⟩, 3, ⟨#[]⟩, 0, ⟨#[120]⟩⟩] := by kernel_rfl
def knA : List En := [⟨⟨#[100]⟩, 0, ⟨#[]⟩⟩, ⟨⟨#[100, 47, 108]⟩, 3, ⟨#[46, 46, 47, 120]⟩⟩]
def knB : List En := [⟨⟨#[100]⟩, 0, ⟨#[]⟩⟩, ⟨⟨#[100, 47, 108]⟩, 3, ⟨#[46, 46, 47, 46, 46, 47, 120]⟩⟩]
def knC : List En := [⟨⟨#[108]⟩, 3, ⟨#[120, 47, 46, 46, 47, 46, 46]⟩⟩]
theorem kn_e3 : errOf knA = 0 ∧ errOf knB = 2 ∧ errOf knC = 2 := ⟨by kernel_rfl, by kernel_rfl, by kernel_rfl⟩
def knU := upP 1000 knL 2 5000 [1, 2] []
def knV := upP 1000 knL 3 5000 [1, 2] knU.2.2.2
theorem kn_u : knU.1 = [] ∧ knU.2.1 = (2, 0, 0) ∧ knU.2.2.1 = 10 := ⟨by kernel_rfl, by kernel_rfl, by kernel_rfl⟩
theorem kn_us : sumP knU.2.2.2 ≤ 1000 := by decide +kernel
theorem kn_vs : sumP knV.2.2.2 ≤ 1000 := by decide +kernel
def knO : List (List UInt8) := outOf knL
theorem kn_v : knV.2.2.1 = 0 ∧ knV.2.1.1 = 4 ∧ knV.2.1.2.1 = 2 ∧ knV.2.1.2.2 = (knO.getD 0 []).length + (knO.getD 1 []).length := ⟨by kernel_rfl, by kernel_rfl, by kernel_rfl, by kernel_rfl⟩
theorem kn_o : outOf knL = [knO.getD 0 [], knO.getD 1 []] ∧ (knO.getD 0 []).length ≤ 2000 ∧ (knO.getD 1 []).length ≤ 2000 := ⟨by kernel_rfl, by decide +kernel, by decide +kernel⟩
theorem kn_f : fetchP (atP knV.2.2.2) (rootOf knL) 1 1 = (0, knL) := by kernel_rfl
end Go.Proofs.YtjmacegibchplaaGreatDoor
