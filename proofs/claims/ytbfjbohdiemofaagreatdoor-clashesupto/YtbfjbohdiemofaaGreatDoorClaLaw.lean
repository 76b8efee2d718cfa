/-
  The statement on Clash: its body, over any Clash that answers as the document asks.
-/
import Derived.Test.YtbfjbohdiemofaaGreatDoorBldLaw
namespace Go.Proofs.YtbfjbohdiemofaaGreatDoor
open Go.RowKit
set_option linter.unusedVariables false

/-- the error of a Build -/
def errOf (l : List En) : Int := if wrongP l ≠ 0 then wrongP l else if builtP l = none then 3 else 0
def rootOf (l : List En) : List UInt8 := if errOf l = 0 then P.digest (blobP l 6 []) else []
theorem refBuild_uni (l : List En) (a : Option Addr) (c : Nat) (w : World) (hl : l.length ≤ maxLen) (hi : LiesE w a l) (hf : TFit l) :
    Calls Tryz.prog 10 #[.slice a l.length c] w fun e w' => ∃ v, e = .returned (.tuple #[.string (bs (rootOf l)), v, .int .i64 (errOf l)]) ∧ OwnsS w' w.heap.size v (outOf l) ∧ Below w.heap.size w w' := by
  refine (refBuild_any l a c w hl hi hf).mono ?_
  rintro e w' ⟨hb, h⟩
  rcases h with ⟨hw, rfl⟩ | ⟨hw, hbu, rfl⟩ | ⟨out, v, hw, hbu, rfl, ho⟩
  · have he : errOf l = wrongP l := by unfold errOf; rw [if_pos hw]
    have hr : rootOf l = [] := by unfold rootOf; rw [he, if_neg hw]
    have ho : outOf l = [] := by unfold outOf; rw [if_neg hw]
    exact ⟨_, by rw [he, hr]; rfl, by rw [ho]; exact World.ownsRow_nil _ _ _ _, hb⟩
  · have he : errOf l = 3 := by unfold errOf; rw [if_neg (by simpa using hw), if_pos hbu]
    have hr : rootOf l = [] := by unfold rootOf; rw [he]; rfl
    have ho : outOf l = [] := by unfold outOf; rw [if_pos hw, hbu]; rfl
    exact ⟨_, by rw [he, hr]; rfl, by rw [ho]; exact World.ownsRow_nil _ _ _ _, hb⟩
  · have he : errOf l = 0 := by unfold errOf; rw [if_neg (by simpa using hw), if_neg (by rw [hbu]; simp)]
    have hr : rootOf l = P.digest (blobP l 6 []) := by unfold rootOf; rw [he]; rfl
    have ho' : outOf l = out := by unfold outOf; rw [if_pos hw, hbu]; rfl
    exact ⟨v, by rw [he, hr], by rw [ho']; exact ho, hb⟩
theorem outOf_len (l : List En) : (outOf l).length ≤ 100 := by
  unfold outOf
  split
  · rename_i hw
    cases hb : builtP l with
    | none => simp
    | some out => exact builtP_len l (tree_of l hw) out hb
  · simp
theorem outOf_small (l : List En) (s : List UInt8) (h : s ∈ outOf l) : s.length ≤ 2000 := by
  unfold outOf at h
  split at h
  · rename_i hw
    have ht := tree_of l hw
    cases hb : builtP l with
    | none => rw [hb] at h; simp at h
    | some out =>
      rw [hb] at h
      simp at h
      have key : ∀ f last out, outG (allP l) f last = some out → ∀ s ∈ out, s.length ≤ 2000 := by
        intro f
        induction f with
        | zero => intro last out ho s hs; simp [outG] at ho; subst ho; simp at hs
        | succ f ih =>
          intro last out ho s hs
          simp only [outG] at ho
          split at ho
          · simp at ho; subst ho; simp at hs
          · rename_i hneg
            split at ho
            · simp at ho
            · cases hr : outG (allP l) f (P.digest ((allP l).getD (nxtD (allP l) last).toNat [])) with
              | none => rw [hr] at ho; simp at ho
              | some r =>
                rw [hr] at ho
                simp at ho
                subst ho
                rcases List.mem_cons.1 hs with rfl | hs
                · have hbd := nxtTo_bd (allP l) last (allP l).length
                  have hlt : (nxtD (allP l) last).toNat < (allP l).length := by unfold nxtD at hneg ⊢; omega
                  have := allTo_small l ht l.length (Nat.le_refl _) (allP l)[(nxtD (allP l) last).toNat] (List.getElem_mem hlt)
                  simpa [List.getElem?_eq_getElem hlt] using this
                · exact ih _ r hr s hs
      exact key _ _ out hb s h
  · simp at h
/-- the error of a Clash -/
def clashErr (x y : List En) : Int := if errOf x ≠ 0 then errOf x else if errOf y ≠ 0 then errOf y else if sameP x y = true ∨ rootOf x ≠ rootOf y then 11 else 0
structure ClashOk (x y : List En) (r : List UInt8 × List UInt8 × Int) : Prop where
  err : r.2.2 = clashErr x y
  none : r.2.2 ≠ 0 → r.1 = [] ∧ r.2.1 = []
  some : r.2.2 = 0 → r.1 ≠ r.2.1 ∧ r.1 ∈ outOf x ∧ r.2.1 ∈ outOf y ∧ P.digest r.1 = P.digest r.2.1
/-- the program's Clash: one answer for two trees, as the document asks -/
def ProgClash (G : World → Prop) (cl : List En → List En → List UInt8 × List UInt8 × Int) : Prop :=
  (∀ x y, TFit x → TFit y → ClashOk x y (cl x y)) ∧
  ∀ (x y : List En) (a1 a2 : Option Addr) (c1 c2 : Nat) (w : World), G w → x.length ≤ maxLen → y.length ≤ maxLen → LiesE w a1 x → LiesE w a2 y → TFit x → TFit y →
    Calls Tryz.prog 7 #[.slice a1 x.length c1, .slice a2 y.length c2] w fun e w' => e = .returned (.tuple #[.string (bs (cl x y).1), .string (bs (cl x y).2.1), .int .i64 (cl x y).2.2]) ∧ Below w.heap.size w w'
def cla : List En := [⟨⟨#[102]⟩, 1, ⟨#[48, 5]⟩⟩]
def clb : List En := [⟨⟨#[102]⟩, 1, ⟨#[63, 153]⟩⟩]
theorem cl_err : clashErr cla clb = 0 := by kernel_rfl
theorem cl_only : ((outOf cla).all fun s => (outOf clb).all fun t => s == t || !(P.digest s == P.digest t) || (s == [48, 5] && t == [63, 153])) = true := by kernel_rfl
theorem cl_fit (d : ByteArray) (h : d.size = 2) : TFit [⟨⟨#[102]⟩, 1, d⟩] := by
  intro i hi
  match i, hi with
  | 0, _ => exact ⟨show (1 : Nat) ≤ 1100000 by decide, show d.size ≤ maxLen by rw [h]; decide⟩
theorem cl_first {G : World → Prop} {cl : List En → List En → List UInt8 × List UInt8 × Int} (hP : ProgClash G cl) : cl cla clb = ([48, 5], [63, 153], 0) := by
  have h := hP.1 cla clb (cl_fit _ rfl) (cl_fit _ rfl)
  have he : (cl cla clb).2.2 = 0 := h.err.trans cl_err
  obtain ⟨h1, h2, h3, h4⟩ := h.some he
  have hall := cl_only
  rw [List.all_eq_true] at hall
  have := hall _ h2
  rw [List.all_eq_true] at this
  have := this _ h3
  simp [h1, h4] at this
  exact Prod.ext this.1 (Prod.ext this.2 he)
end Go.Proofs.YtbfjbohdiemofaaGreatDoor
