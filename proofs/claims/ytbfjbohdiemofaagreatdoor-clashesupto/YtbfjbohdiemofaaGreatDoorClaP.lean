/-
  The program's Clash answers as the document asks: what it answers, and that this is right.
-/
import Derived.Test.YtbfjbohdiemofaaGreatDoorClaQ
namespace Go.Proofs.YtbfjbohdiemofaaGreatDoor
open Go.RowKit Go.Maps
set_option linter.unusedVariables false

def difAt (kx ky : List (List UInt8)) (d : List UInt8) : Bool := match lastR ky d with | some t => !(t == (lastR kx d).getD []) | none => false
def pickC (kx ky : List (List UInt8)) : Option (List UInt8) → List UInt8 × List UInt8 × Int
  | some d => ((lastR kx d).getD [], (lastR ky d).getD [], 0)
  | none => ([], [], 11)
def clash1 (rx ry : List UInt8) (kx ky : List (List UInt8)) : List UInt8 × List UInt8 × Int := if rx ≠ ry then ([], [], 11) else pickC kx ky ((digsOf kx).find? (difAt kx ky))
def clOf (x y : List En) : List UInt8 × List UInt8 × Int := if errOf x ≠ 0 then ([], [], errOf x) else if errOf y ≠ 0 then ([], [], errOf y) else clash1 (rootOf x) (rootOf y) (keptAll x) (keptAll y)
theorem err_zero (l : List En) (h : errOf l = 0) : Tree l ∧ clashR (keptAll l) = false ∧ rootOf l = P.digest (blobP l 6 []) ∧ outOf l = listOf (keptAll l) := by
  have hr : rootOf l = P.digest (blobP l 6 []) := by unfold rootOf; rw [if_pos h]
  unfold errOf at h
  by_cases hw : wrongP l = 0
  · rw [if_neg (by simpa using hw)] at h
    have ht := tree_of l hw
    have hb : builtP l ≠ none := fun e => by rw [if_pos e] at h; simp at h
    have hc : clashR (keptAll l) = false := by
      cases hc : clashR (keptAll l) with
      | false => rfl
      | true => exact absurd (built_none l ht hc) hb
    refine ⟨ht, hc, hr, ?_⟩
    unfold outOf
    rw [if_pos hw, built_some l ht hc]; rfl
  · rw [if_pos hw] at h; exact absurd h hw
theorem root_kept (l : List En) : blobP l 6 [] ∈ keptAll l := by unfold keptAll; simp
theorem clOf_ok (x y : List En) : ClashOk x y (clOf x y) := by
  unfold clOf
  by_cases hx : errOf x = 0
  · rw [if_neg (by simpa using hx)]
    by_cases hy : errOf y = 0
    · rw [if_neg (by simpa using hy)]
      obtain ⟨tx, cx, rx, ox⟩ := err_zero x hx
      obtain ⟨ty, cy, ry, oy⟩ := err_zero y hy
      have hce : clashErr x y = if sameP x y = true ∨ rootOf x ≠ rootOf y then 11 else 0 := by
        unfold clashErr
        rw [if_neg (by simpa using hx), if_neg (by simpa using hy)]
      unfold clash1
      by_cases hr : rootOf x = rootOf y
      · rw [if_neg (by simpa using hr)]
        cases hf : (digsOf (keptAll x)).find? (difAt (keptAll x) (keptAll y)) with
        | some d =>
          have hdm := List.mem_of_find?_eq_some hf
          have hdif := List.find?_some hf
          obtain ⟨s, hs⟩ := Option.isSome_iff_exists.1 ((lastR_isSome (keptAll x) d).2 ((digs_mem _ d).1 hdm))
          unfold difAt at hdif
          rw [hs] at hdif
          cases ht : lastR (keptAll y) d with
          | none => rw [ht] at hdif; simp at hdif
          | some t =>
            rw [ht] at hdif
            have hne : t ≠ s := by simpa using hdif
            obtain ⟨hsm, hsd⟩ := lastR_some hs
            obtain ⟨htm, htd⟩ := lastR_some ht
            have hns : ¬ sameP x y = true := fun hsame => by
              have hmm := (same_iff x y tx ty).1 hsame
              have htx : t ∈ keptAll x := (kept_mem x tx t).2 (part_same y x ty tx (fun e => (hmm e).symm) t ((kept_mem y ty t).1 htm))
              exact hne (clashR_false _ cx t htx s hsm (by rw [htd, hsd]))
            refine ⟨?_, fun h => absurd rfl h, fun _ => ?_⟩
            · rw [hce, if_neg (by rintro (h | h); exact hns h; exact h hr)]; rfl
            · rw [ox, oy]
              simp only [pickC, hs, ht, Option.getD_some]
              exact ⟨fun e => hne e.symm, (list_mem _ cx s).2 hsm, (list_mem _ cy t).2 htm, by rw [hsd, htd]⟩
        | none =>
          rw [List.find?_eq_none] at hf
          have hag : ∀ d s t, lastR (keptAll x) d = some s → lastR (keptAll y) d = some t → s = t := by
            intro d s t hs ht
            have hdm : d ∈ digsOf (keptAll x) := (digs_mem _ d).2 ⟨s, lastR_some hs⟩
            have := hf d hdm
            unfold difAt at this
            rw [hs, ht] at this
            simpa using (by simpa using this : t = s).symm
          have hbl : blobP x 6 [] = blobP y 6 [] := by
            refine hag (P.digest (blobP x 6 [])) _ _ (last_of _ cx _ (root_kept x)) ?_
            rw [rx, ry] at hr
            rw [hr]; exact last_of _ cy _ (root_kept y)
          have hsame : sameP x y = true := (same_iff x y tx ty).2 (fun e => ⟨fun he => ?_, fun he => ?_⟩)
          · refine ⟨?_, fun _ => ⟨rfl, rfl⟩, fun h => by simp [pickC] at h⟩
            rw [hce, if_pos (.inl hsame)]; rfl
          · obtain ⟨i, hi, rfl⟩ := List.getElem_of_mem he
            have := walk_same x y tx ty cx cy hag 6 [] (by rw [pre_nil]; exact hbl) i ((walk_all x tx i).2 hi)
            rwa [en_getD x i hi] at this
          · obtain ⟨i, hi, rfl⟩ := List.getElem_of_mem he
            have := walk_same y x ty tx cy cx (fun d s t hs ht => (hag d t s ht hs).symm) 6 [] (by rw [pre_nil]; exact hbl.symm) i ((walk_all y ty i).2 hi)
            rwa [en_getD y i hi] at this
      · rw [if_pos hr]
        exact ⟨by rw [hce, if_pos (.inr hr)], fun _ => ⟨rfl, rfl⟩, fun h => by simp at h⟩
    · rw [if_pos hy]
      exact ⟨by unfold clashErr; rw [if_neg (by simpa using hx), if_pos hy], fun _ => ⟨rfl, rfl⟩, fun h => absurd h hy⟩
  · rw [if_pos hx]
    exact ⟨by unfold clashErr; rw [if_pos hx], fun _ => ⟨rfl, rfl⟩, fun h => absurd h hx⟩
theorem find_take_none {α : Type} (p : α → Bool) (l : List α) (k : Nat) (h : k < l.length) (hn : (l.take k).find? p = none) : l.find? p = if p l[k] then some l[k] else (l.drop (k + 1)).find? p := by
  have e : l = l.take k ++ l[k] :: l.drop (k + 1) := by rw [← List.drop_eq_getElem_cons h, List.take_append_drop]
  have h1 : l.find? p = (l.take k ++ l[k] :: l.drop (k + 1)).find? p := by rw [← e]
  rw [h1, List.find?_append, hn, Option.none_or, List.find?_cons]
  cases p l[k] <;> rfl
end Go.Proofs.YtbfjbohdiemofaaGreatDoor
