import Derived.Test.YtjmacegibchplaaGreatDoorBldLaw
import Derived.Test.YtjmacegibchplaaGreatDoorUpE
import Derived.Test.YtjmacegibchplaaGreatDoorAlP
import Derived.Test.YtjmacegibchplaaGreatDoorEntB
import Derived.Deep.RegionHeld3
/-
  The statement on Build: its body.
-/
namespace Go.Proofs.YtjmacegibchplaaGreatDoor
open Go.RowKit
set_option linter.unusedVariables false

def smallL : List En := [⟨⟨#[100, 47, 102]⟩, 2, ⟨#[98, 121, 116, 101, 115]⟩⟩, ⟨⟨#[100]⟩, 0, ⟨#[]⟩⟩, ⟨⟨#[97]⟩, 3, ⟨#[100, 47, 102]⟩⟩]
theorem small_len : (outOf smallL).length = 3 := by kernel_rfl
set_option maxHeartbeats 1000000 in
theorem small_any (w : World) :
    Calls Tryz.prog 13 #[] w fun e w' => e = .returned (.slice (some ⟨w.heap.size, 0, none⟩) 3 3) ∧ EntsAt w' w.heap.size 0 smallL ∧ Below w.heap.size w w' := by
  go_enter Tryz.func13, Tryz.ntmps13
  go_wp2_with fail
  go_ret
  refine ⟨rfl, ?_, (Below.refl _ _).alloc (Nat.le_refl _) _⟩
  intro i hi
  have hb := heap_alloc_new w (.cells #[.string ⟨#[100, 47, 102]⟩, .int .i64 2, .string ⟨#[98, 121, 116, 101, 115]⟩, .string ⟨#[100]⟩, .int .i64 0, .string ⟨#[]⟩, .string ⟨#[97]⟩, .int .i64 3, .string ⟨#[100, 47, 102]⟩] 32)
  match i, hi with
  | 0, _ => exact ⟨cell_of_block hb, cell_of_block hb, cell_of_block hb⟩
  | 1, _ => exact ⟨cell_of_block hb, cell_of_block hb, cell_of_block hb⟩
  | 2, _ => exact ⟨cell_of_block hb, cell_of_block hb, cell_of_block hb⟩
theorem small_fit : TFit smallL := by
  intro i hi
  match i, hi with
  | 0, _ => show (3 : Nat) ≤ 1100000 ∧ (5 : Nat) ≤ maxLen; decide
  | 1, _ => show (1 : Nat) ≤ 1100000 ∧ (0 : Nat) ≤ maxLen; decide
  | 2, _ => show (1 : Nat) ≤ 1100000 ∧ (3 : Nat) ≤ maxLen; decide
set_option maxHeartbeats 1000000 in
theorem builds_law {G : World → Prop} (hS : Stays G) (hP : ProgBuild G) (l : List En) (a : Option Addr) (c : Nat) (w : World) (hG : G w) (hl : l.length * 40 ≤ 140737488351232) (hi : LiesE w a l) (hn : a = none → l = [] ∧ c = 0) (hf : TFit l) :
    Calls Tryz.prog 3 #[.slice a l.length c] w fun e w' => e = .returned (.bool true) ∧ Below w.heap.size w w' := by
  go_enter Tryz.func3, Tryz.ntmps3
  go_wp2_with fail
  refine (small_any w).mono ?_
  rintro e w1 ⟨rfl, hs1, hb1⟩
  go_wp2_with fail
  have hbl := built_law hS hP smallL (some ⟨w.heap.size, 0, none⟩) 3 w1 (hS _ _ hG hb1) (by decide) (.inr ⟨_, _, rfl, hs1⟩) (fun h => by simp at h) small_fit
  refine hbl.mono ?_
  clear hbl
  rintro e w2 ⟨v, rfl, ho2, hb2⟩
  have hw2 := hb1.trans (hb2.mono hb1.size)
  obtain ⟨a2, c2, rfl, -, -, -⟩ := ho2.texts
  rw [small_len]
  clear ho2
  go_wp2_with fail
  refine (built_law hS hP l a c w2 (hS _ _ hG hw2) hl (hi.below hw2 (Nat.le_refl _)) hn hf).mono ?_
  rintro e w3 ⟨v3, rfl, -, hb3⟩
  have hw3 := hw2.trans (hb3.mono hw2.size)
  go_wp2_with fail
  go_ret
  exact ⟨rfl, hw3⟩
end Go.Proofs.YtjmacegibchplaaGreatDoor

/-
  The statement on Clash: its body, over any Clash that answers as the document asks.
-/
namespace Go.Proofs.YtjmacegibchplaaGreatDoor
open Go.RowKit
set_option linter.unusedVariables false

/-- the error of a Build -/
def errOf (l : List En) : Int := if wrongP l ≠ 0 then wrongP l else if builtP l = none then 3 else 0
def rootOf (l : List En) : List UInt8 := if errOf l = 0 then P.digest (blobP l 6 []) else []
theorem refBuild_uni (l : List En) (a : Option Addr) (c : Nat) (w : World) (hl : l.length ≤ maxLen) (hi : LiesE w a l) (hf : TFit l) :
    Calls Tryz.prog 17 #[.slice a l.length c] w fun e w' => ∃ v, e = .returned (.tuple #[.string (bs (rootOf l)), v, .int .i64 (errOf l)]) ∧ OwnsS w' w.heap.size v (outOf l) ∧ Below w.heap.size w w' := by
  refine (refBuild_any l a c w hl hi hf).mono ?_
  rintro e w' ⟨hb, h⟩
  rcases h with ⟨hw, rfl⟩ | ⟨hw, hbu, rfl⟩ | ⟨out, v, hw, hbu, rfl, ho⟩
  · have he : errOf l = wrongP l := by unfold errOf; rw [if_pos hw]
    have hr : rootOf l = [] := by unfold rootOf; rw [he, if_neg hw]
    have ho : outOf l = [] := by unfold outOf; rw [if_neg hw]
    exact ⟨_, by rw [he, hr]; rfl, by rw [ho]; exact World.ownsRow_nil _ _ _ _, hb⟩
  · have he : errOf l = 3 := by unfold errOf; rw [if_neg (by simpa using hw), if_pos hbu]
    have hr : rootOf l = [] := by unfold rootOf; rw [he]; rfl
    have ho : outOf l = [] := by unfold outOf; rw [if_pos hw, hbu]; rfl
    exact ⟨_, by rw [he, hr]; rfl, by rw [ho]; exact World.ownsRow_nil _ _ _ _, hb⟩
  · have he : errOf l = 0 := by unfold errOf; rw [if_neg (by simpa using hw), if_neg (by rw [hbu]; simp)]
    have hr : rootOf l = P.digest (blobP l 6 []) := by unfold rootOf; rw [he]; rfl
    have ho' : outOf l = out := by unfold outOf; rw [if_pos hw, hbu]; rfl
    exact ⟨v, by rw [he, hr], by rw [ho']; exact ho, hb⟩
theorem outOf_len (l : List En) : (outOf l).length ≤ 100 := by
  unfold outOf
  split
  · rename_i hw
    cases hb : builtP l with
    | none => simp
    | some out => exact builtP_len l (tree_of l hw) out hb
  · simp
theorem outOf_small (l : List En) (s : List UInt8) (h : s ∈ outOf l) : s.length ≤ 2000 := by
  unfold outOf at h
  split at h
  · rename_i hw
    have ht := tree_of l hw
    cases hb : builtP l with
    | none => rw [hb] at h; simp at h
    | some out =>
      rw [hb] at h
      simp at h
      have key : ∀ f last out, outG (allP l) f last = some out → ∀ s ∈ out, s.length ≤ 2000 := by
        intro f
        induction f with
        | zero => intro last out ho s hs; simp [outG] at ho; subst ho; simp at hs
        | succ f ih =>
          intro last out ho s hs
          simp only [outG] at ho
          split at ho
          · simp at ho; subst ho; simp at hs
          · rename_i hneg
            split at ho
            · simp at ho
            · cases hr : outG (allP l) f (P.digest ((allP l).getD (nxtD (allP l) last).toNat [])) with
              | none => rw [hr] at ho; simp at ho
              | some r =>
                rw [hr] at ho
                simp at ho
                subst ho
                rcases List.mem_cons.1 hs with rfl | hs
                · have hbd := nxtTo_bd (allP l) last (allP l).length
                  have hlt : (nxtD (allP l) last).toNat < (allP l).length := by unfold nxtD at hneg ⊢; omega
                  have := allTo_small l ht l.length (Nat.le_refl _) (allP l)[(nxtD (allP l) last).toNat] (List.getElem_mem hlt)
                  simpa [List.getElem?_eq_getElem hlt] using this
                · exact ih _ r hr s hs
      exact key _ _ out hb s h
  · simp at h
/-- the error of a Clash -/
def clashErr (x y : List En) : Int := if errOf x ≠ 0 then errOf x else if errOf y ≠ 0 then errOf y else if sameP x y = true ∨ rootOf x ≠ rootOf y then 11 else 0
structure ClashOk (x y : List En) (r : List UInt8 × List UInt8 × Int) : Prop where
  err : r.2.2 = clashErr x y
  none : r.2.2 ≠ 0 → r.1 = [] ∧ r.2.1 = []
  some : r.2.2 = 0 → r.1 ≠ r.2.1 ∧ r.1 ∈ outOf x ∧ r.2.1 ∈ outOf y ∧ P.digest r.1 = P.digest r.2.1
/-- the program's Clash: one answer for two trees, as the document asks -/
def ProgClash (G : World → Prop) (cl : List En → List En → List UInt8 × List UInt8 × Int) : Prop :=
  (∀ x y, TFit x → TFit y → ClashOk x y (cl x y)) ∧
  ∀ (x y : List En) (a1 a2 : Option Addr) (c1 c2 : Nat) (w : World), G w → x.length ≤ maxLen → y.length ≤ maxLen → LiesE w a1 x → LiesE w a2 y → TFit x → TFit y →
    Calls Tryz.prog 14 #[.slice a1 x.length c1, .slice a2 y.length c2] w fun e w' => e = .returned (.tuple #[.string (bs (cl x y).1), .string (bs (cl x y).2.1), .int .i64 (cl x y).2.2]) ∧ Below w.heap.size w w'
def cla : List En := [⟨⟨#[102]⟩, 1, ⟨#[48, 5]⟩⟩]
def clb : List En := [⟨⟨#[102]⟩, 1, ⟨#[63, 153]⟩⟩]
theorem cl_err : clashErr cla clb = 0 := by kernel_rfl
theorem cl_only : ((outOf cla).all fun s => (outOf clb).all fun t => s == t || !(P.digest s == P.digest t) || (s == [48, 5] && t == [63, 153])) = true := by kernel_rfl
theorem cl_fit (d : ByteArray) (h : d.size = 2) : TFit [⟨⟨#[102]⟩, 1, d⟩] := by
  intro i hi
  match i, hi with
  | 0, _ => exact ⟨show (1 : Nat) ≤ 1100000 by decide, show d.size ≤ maxLen by rw [h]; decide⟩
theorem cl_first {G : World → Prop} {cl : List En → List En → List UInt8 × List UInt8 × Int} (hP : ProgClash G cl) : cl cla clb = ([48, 5], [63, 153], 0) := by
  have h := hP.1 cla clb (cl_fit _ rfl) (cl_fit _ rfl)
  have he : (cl cla clb).2.2 = 0 := h.err.trans cl_err
  obtain ⟨h1, h2, h3, h4⟩ := h.some he
  have hall := cl_only
  rw [List.all_eq_true] at hall
  have := hall _ h2
  rw [List.all_eq_true] at this
  have := this _ h3
  simp [h1, h4] at this
  exact Prod.ext this.1 (Prod.ext this.2 he)
end Go.Proofs.YtjmacegibchplaaGreatDoor

/-
  A small tree that is built, brought and fetched: the plain answers. No walk.
-/
namespace Go.Proofs.YtjmacegibchplaaGreatDoor
set_option linter.unusedVariables false

def awkU := upP 1000 smallL 3 5000 [1, 2, 0, 3] []
theorem awk_err : errOf smallL = 0 := by kernel_rfl
theorem awk_code : awkU.2.2.1 = 0 := by kernel_rfl
theorem awk_tries : awkU.2.1.1 = 4 ∧ awkU.2.1.2.1 = 3 := by constructor <;> kernel_rfl
theorem awk_root : awkU.1 = rootOf smallL := by kernel_rfl
theorem awk_sum : sumP awkU.2.2.2 ≤ 1000 := by decide +kernel
theorem awk_fetch : fetchP (atP awkU.2.2.2) (rootOf smallL) 40 5 = (0, [⟨⟨#[97]⟩, 3, ⟨#[100, 47, 102]⟩⟩, ⟨⟨#[100]⟩, 0, ⟨#[]⟩⟩, ⟨⟨#[100, 47, 102]⟩, 2, ⟨#[98, 121, 116, 101, 115]⟩⟩]) := by kernel_rfl
/-- what stands in a store is not more than all -/
theorem at_sum : ∀ (st : List (List UInt8 × List UInt8)) (d b : List UInt8), atP st d = some b → b.length ≤ sumP st
  | [], d, b, h => by simp [atP] at h
  | (k, x) :: r, d, b, h => by
    simp only [atP] at h
    simp only [sumP]
    split at h
    · obtain rfl := Option.some.inj h; omega
    · have := at_sum r d b h; omega
end Go.Proofs.YtjmacegibchplaaGreatDoor

/-
  The document's examples: the plain answers. No walk.
-/
namespace Go.Proofs.YtjmacegibchplaaGreatDoor
set_option linter.unusedVariables false

theorem kn_d0 : P.digest [] = [48, 48, 49] := by kernel_rfl
theorem kn_d1 : P.digest [97] = [49, 54, 57] := by kernel_rfl
theorem kn_d2 : P.digest [84, 0] = [53, 99, 55] := by kernel_rfl
theorem kn_e0 : errOf [] = 0 ∧ rootOf [] = [53, 99, 55] ∧ outOf [] = [[84, 0]] := ⟨by kernel_rfl, by kernel_rfl, by kernel_rfl⟩
def knL : List En := [⟨⟨#[97]⟩, 1, ⟨#[120]⟩⟩]
theorem kn_e1 : errOf knL = 0 ∧ (outOf knL).length = 2 := ⟨by kernel_rfl, by kernel_rfl⟩
theorem kn_c0 : decOk [84, 1, 3, 1, 108, 0] = none := by kernel_rfl
theorem kn_c1 : decOk [84, 1, 3, 1, 108, 1, 120] = some [⟨⟨#[108]⟩, 3, ⟨#[]⟩, 0, ⟨#[120]⟩⟩] := by kernel_rfl
def knA : List En := [⟨⟨#[100]⟩, 0, ⟨#[]⟩⟩, ⟨⟨#[100, 47, 108]⟩, 3, ⟨#[46, 46, 47, 120]⟩⟩]
def knB : List En := [⟨⟨#[100]⟩, 0, ⟨#[]⟩⟩, ⟨⟨#[100, 47, 108]⟩, 3, ⟨#[46, 46, 47, 46, 46, 47, 120]⟩⟩]
def knC : List En := [⟨⟨#[108]⟩, 3, ⟨#[120, 47, 46, 46, 47, 46, 46]⟩⟩]
theorem kn_e3 : errOf knA = 0 ∧ errOf knB = 2 ∧ errOf knC = 2 := ⟨by kernel_rfl, by kernel_rfl, by kernel_rfl⟩
def knU := upP 1000 knL 2 5000 [1, 2] []
def knV := upP 1000 knL 3 5000 [1, 2] knU.2.2.2
theorem kn_u : knU.1 = [] ∧ knU.2.1 = (2, 0, 0) ∧ knU.2.2.1 = 10 := ⟨by kernel_rfl, by kernel_rfl, by kernel_rfl⟩
theorem kn_us : sumP knU.2.2.2 ≤ 1000 := by decide +kernel
theorem kn_vs : sumP knV.2.2.2 ≤ 1000 := by decide +kernel
def knO : List (List UInt8) := outOf knL
theorem kn_v : knV.2.2.1 = 0 ∧ knV.2.1.1 = 4 ∧ knV.2.1.2.1 = 2 ∧ knV.2.1.2.2 = (knO.getD 0 []).length + (knO.getD 1 []).length := ⟨by kernel_rfl, by kernel_rfl, by kernel_rfl, by kernel_rfl⟩
theorem kn_o : outOf knL = [knO.getD 0 [], knO.getD 1 []] ∧ (knO.getD 0 []).length ≤ 2000 ∧ (knO.getD 1 []).length ≤ 2000 := ⟨by kernel_rfl, by decide +kernel, by decide +kernel⟩
theorem kn_f : fetchP (atP knV.2.2.2) (rootOf knL) 1 1 = (0, knL) := by kernel_rfl
end Go.Proofs.YtjmacegibchplaaGreatDoor

/-
  The small functions of the statements without the document's answer: pick, cut, one, up.
-/
namespace Go.Proofs.YtjmacegibchplaaGreatDoor
open Go.RowKit
set_option linter.unusedVariables false

theorem keepPick (c n : Int) (w : World) (c0 : -9223372036854775808 ≤ c) (c1 : c ≤ 9223372036854775807) (n0 : 0 < n) (n1 : n ≤ 9223372036854775807) :
    Calls Tryz.prog 22 #[.int .i64 c, .int .i64 n] w fun e w' => e = .returned (.int .i64 (pickP c n)) ∧ w' = w := by
  have hnz : ¬ n = 0 := by omega
  by_cases hneg : c < 0
  · have e1 : pickP c n = (-(c + 1)).tmod n := by unfold pickP; rw [if_pos hneg, Int.tmod_eq_emod_of_nonneg (by omega)]
    have b1 := Int.tmod_nonneg n (show 0 ≤ -(c + 1) by omega)
    have b2 := Int.tmod_lt_of_pos (-(c + 1)) n0
    rw [e1]
    go_enter Tryz.func22, Tryz.ntmps22
    go_wp2_with fail
    go_ret
    exact ⟨ret_int (Int.neg_tmod _ _).symm, rfl⟩
  · have e1 : pickP c n = c.tmod n := by unfold pickP; rw [if_neg hneg, Int.tmod_eq_emod_of_nonneg (by omega)]
    have b1 := Int.tmod_nonneg n (show 0 ≤ c by omega)
    have b2 := Int.tmod_lt_of_pos c n0
    rw [e1]
    go_enter Tryz.func22, Tryz.ntmps22
    go_wp2_with fail
    go_ret
    exact ⟨ret_int (Int.tmod_eq_emod_of_nonneg (by omega)).symm, rfl⟩
theorem extract_take (s : List UInt8) (n : Nat) : (bs s).extract 0 n = bs (s.take n) := by
  apply ByteArray.ext
  simp [bs]
theorem keepCut (s : List UInt8) (n : Nat) (w : World) (hs : s.length ≤ 140737488351232) (hn : n ≤ 100) :
    Calls Tryz.prog 31 #[.string (bs s), .int .i64 n] w fun e w' => e = .returned (.string (bs (s.take n))) ∧ w' = w := by
  have hz : (bs s).size = s.length := by simp [bs, ByteArray.size]
  by_cases hlt : n < s.length
  · have he := extract_take s n
    have q1 : (n : Int) < (s.length : Int) := by omega
    go_enter Tryz.func31, Tryz.ntmps31
    go_wp2_with fail
    go_ret
    exact ⟨by rw [← he]; rfl, rfl⟩
  · have he : s.take n = s := List.take_of_length_le (by omega)
    have q1 : ¬ (n : Int) < (s.length : Int) := by omega
    rw [he]
    go_enter Tryz.func31, Tryz.ntmps31
    go_wp2_with fail
    go_ret
    exact ⟨rfl, rfl⟩
theorem extract_drop (s : List UInt8) (n : Nat) : (bs s).extract n s.length = bs (s.drop n) := by
  apply ByteArray.ext
  simp [bs, List.take_of_length_le]
theorem cut_at (p : List UInt8) (k : Nat) (hk : k < p.length) (h47 : p[k] = 47) (hno : ∀ j (h : j < p.length), k < j → p[j] ≠ 47) : upPath p = p.take k ∧ nameOf p = p.drop (k + 1) := by
  have e : p = p.take k ++ 47 :: p.drop (k + 1) := by
    conv => lhs; rw [← List.take_append_drop k p, List.drop_eq_getElem_cons hk, h47]
  have hn : P.has (p.drop (k + 1)) 47 = false := by
    rw [has_false]
    intro hm
    obtain ⟨j, hj, he⟩ := List.mem_iff_getElem.1 hm
    rw [List.getElem_drop] at he
    exact hno _ (by rw [List.length_drop] at hj; omega) (by omega) he
  obtain ⟨_, h2, h3⟩ := cut_some (p.take k) (p.drop (k + 1)) hn
  rw [← e] at h2 h3
  exact ⟨h2, h3⟩
set_option maxHeartbeats 1000000 in
theorem keepUp (p : List UInt8) (w : World) (hs : p.length ≤ 140737488351232) :
    Calls Tryz.prog 61 #[.string (bs p)] w fun e w' => e = .returned (.tuple #[.string (bs (upPath p)), .string (bs (nameOf p))]) ∧ ∃ q, w' = w.drewN q := by
  have hz : (bs p).size = p.length := by simp [bs, ByteArray.size]
  go_enter Tryz.func61, Tryz.ntmps61
  go_wp2_with fail
  go_loop [4] (fun i => ∃ k : Nat, k ≤ p.length ∧ i = .int .i64 ((k : Int) - 1) ∧ ∀ j (h : j < p.length), k ≤ j → p[j] ≠ 47) (fun i => (intOf i + 1).toNat)
  case atStart => exact ⟨p.length, Nat.le_refl _, by go_num, fun j h hj => by omega⟩
  case round =>
    obtain ⟨k, hk, rfl, hno⟩ := hrel
    have Hno := hide hno
    clear hno
    by_cases h0 : 1 ≤ k
    · obtain ⟨m, rfl⟩ : ∃ m, k = m + 1 := ⟨k - 1, by omega⟩
      have hm : m < p.length := by omega
      have hpm : (bs p)[m]'(by rw [hz]; exact hm) = p[m] := rfl
      rw [show ((m + 1 : Nat) : Int) - 1 = (m : Int) by omega]
      by_cases h47 : p[m] = 47
      · obtain ⟨e1, e2⟩ := cut_at p m hm h47 (fun j h hj => unhide Hno j h (by omega))
        have x1 := extract_take p m
        have x2 := extract_drop p (m + 1)
        have h47' : ((p[m].toNat : Int)) = 47 := by rw [h47]; rfl
        have m1 : IntKind.i64.wrap ((m : Int) + 1) = (m : Int) + 1 := by rw [IntKind.wrap_i64]; omega
        have m2 : (0 : Int) ≤ (m : Int) := by omega
        have m3 : (m : Int) ≤ (p.length : Int) := by omega
        have m4 : (0 : Int) ≤ (m : Int) + 1 := by omega
        have m5 : (m : Int) + 1 ≤ (p.length : Int) := by omega
        have He := hide (And.intro e1 e2)
        clear e1 e2
        go_wp2_with fail
        go_region
        go_wp2_with fail
        go_ret2
        exact ⟨by rw [(unhide He).1, (unhide He).2]; rfl, 1, rfl⟩
      · have h47' : ¬ ((p[m].toNat : Int)) = 47 := fun e => h47 (UInt8.toNat_inj.1 (by show p[m].toNat = 47; omega))
        go_wp2_with fail
        go_round
        case rel => exact ⟨m, by omega, by go_num, fun j h hj => by
          rcases Nat.eq_or_lt_of_le hj with rfl | hlt
          · exact h47
          · exact unhide Hno j h (by omega)⟩
        case measure => simp [intOf]
    · obtain rfl : k = 0 := by omega
      have hn : P.has p 47 = false := has_false.2 (fun hmem => by
        obtain ⟨j, hj, he⟩ := List.mem_iff_getElem.1 hmem
        exact unhide Hno j hj (Nat.zero_le _) he)
      have He := hide (cut_none hn)
      go_wp2_with fail
      go_ret2
      exact ⟨by rw [(unhide He).2.1, (unhide He).2.2]; rfl, 0, rfl⟩
end Go.Proofs.YtjmacegibchplaaGreatDoor
