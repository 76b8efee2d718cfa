/-
  The program's Clash answers as the document asks.
-/
import Derived.Test.YtbfjbohdiemofaaGreatDoorClaR
namespace Go.Proofs.YtbfjbohdiemofaaGreatDoor
open Go.RowKit Go.Maps
set_option linter.unusedVariables false

theorem of_err {l : List En} {base : Nat} {e : Ending} {w' : World} (h : OfEnd l base e w') :
    (errOf l ≠ 0 ∧ e = .returned (.tuple #[.agg #[.string ⟨#[]⟩, .map none], .int .i64 (errOf l)])) ∨
    (errOf l = 0 ∧ ∃ um n, n ≤ 5000000000 ∧ e = .returned (.tuple #[.agg #[.string (bs (rootOf l)), .map (some um)], .int .i64 0]) ∧ MapIs w' um n (blobsF (keptAll l))) := by
  rcases h with ⟨hnt, rfl⟩ | ⟨ht, hes, rfl⟩ | ⟨ht, hes, hcl, rfl⟩ | ⟨ht, hes, hcl, um, n, hn, hum, rfl, hm⟩
  · have he : errOf l = 1 := by unfold errOf; rw [wrong_no l hnt]; rfl
    exact .inl ⟨by rw [he]; decide, by rw [he]⟩
  · have he : errOf l = 2 := by unfold errOf; rw [wrong_yes l ht, hes]; rfl
    exact .inl ⟨by rw [he]; decide, by rw [he]⟩
  · have hw : wrongP l = 0 := by rw [wrong_yes l ht, hes]; rfl
    have he : errOf l = 3 := by unfold errOf; rw [if_neg (by simpa using hw), if_pos (built_none l ht hcl)]
    exact .inl ⟨by rw [he]; decide, by rw [he]⟩
  · have hw : wrongP l = 0 := by rw [wrong_yes l ht, hes]; rfl
    have he : errOf l = 0 := by unfold errOf; rw [if_neg (by simpa using hw), if_neg (by rw [built_some l ht hcl]; simp)]
    have hr : rootOf l = P.digest (blobP l 6 []) := by unfold rootOf; rw [if_pos he]
    exact .inr ⟨he, um, n, hn, by rw [hr], hm⟩
set_option maxRecDepth 100000 in
set_option maxHeartbeats 2000000 in
theorem progClash : ProgClash GlobOk clOf := by
  refine ⟨fun x y _ _ => clOf_ok x y, ?_⟩
  intro x y a1 a2 c1 c2 w hg hx hy hi1 hi2 hf1 hf2
  obtain ⟨R, hR⟩ : ∃ R, clOf x y = R := ⟨_, rfl⟩
  have HR := hide hR
  rw [hR]
  clear hR
  go_enter Tryz.func7, Tryz.ntmps7
  go_wp2_with fail
  refine (of_any x a1 c1 w hx hi1 hf1 hg).mono ?_
  rintro e w1 ⟨hb1, h1⟩
  rcases of_err h1 with ⟨he, rfl⟩ | ⟨he, um, n, hn, rfl, hm⟩
  · have g : (errOf x != 0) = true := by simpa using he
    have Hr := hide (show R = ([], [], errOf x) by rw [← unhide HR]; unfold clOf; rw [if_pos he])
    clear he h1
    generalize errOf x = E at *
    go_wp2_with fail
    go_ret3
    exact ⟨by rw [unhide Hr]; rfl, hb1.alloc hb1.size _⟩
  · clear h1
    have hbA : Below w.heap.size w (w1.alloc (.cells #[.string (bs (rootOf x)), .map (some um)] 42)) := hb1.alloc hb1.size _
    have hof := of_any y a2 c2 _ hy (hi2.below hbA (Nat.le_refl _)) hf2 (hg.below hbA (Nat.le_refl _))
    have Hof := hide hof
    have hmA : MapIs (w1.alloc (.cells #[.string (bs (rootOf x)), .map (some um)] 42)) um n (blobsF (keptAll x)) := hm.alloc _
    have hcA : (w1.alloc (.cells #[.string (bs (rootOf x)), .map (some um)] 42)).heap[w1.heap.size]? = some (.cells #[.string (bs (rootOf x)), .map (some um)] 42 (0, 0)) := heap_alloc_new w1 _
    have HA := hide (And.intro hbA (And.intro hmA hcA))
    have hkl := kept_len x (err_zero x he).1
    have Hr := hide (show R = if errOf y ≠ 0 then ([], [], errOf y) else clash1 (rootOf x) (rootOf y) (keptAll x) (keptAll y) by rw [← unhide HR]; unfold clOf; rw [if_neg (by simpa using he)])
    generalize rootOf x = rx at *
    clear hof he hm hbA hmA hcA
    go_wp2_with fail
    refine (unhide Hof).mono ?_
    rintro e w2 ⟨hb2, h2⟩
    have hbw : Below w.heap.size w w2 := (unhide HA).1.trans (hb2.mono (unhide HA).1.size)
    have hs2 := (hb2.block w1.heap.size (by simp)).trans (unhide HA).2.2
    have hm2 : MapIs w2 um n (blobsF (keptAll x)) := (unhide HA).2.1.same (hb2.block um (unhide HA).2.1.lt)
    rcases of_err h2 with ⟨he2, rfl⟩ | ⟨he2, um2, n2, hn2, rfl, hm3⟩
    · have g : (errOf y != 0) = true := by simpa using he2
      have Hr2 := hide (show R = ([], [], errOf y) by rw [unhide Hr, if_pos he2])
      clear he2 h2 Hof hb2 HA hs2 hm2
      generalize errOf y = E at *
      go_wp2_with fail
      go_ret3
      exact ⟨by rw [unhide Hr2]; rfl, hbw.alloc hbw.size _⟩
    · have Hr2 := hide (show R = clash1 rx (rootOf y) (keptAll x) (keptAll y) by rw [unhide Hr, if_neg (by simpa using he2)])
      generalize rootOf y = ry at *
      have c0 := cell_of_block (j := 0) hs2
      have c1' := cell_of_block (j := 1) hs2
      simp only [List.getElem?_toArray, List.getElem?_cons_zero, List.getElem?_cons_succ] at c0 c1'
      have hl2 : w1.heap.size < w2.heap.size := (Array.getElem?_eq_some_iff.1 hs2).1
      have hcl := clash_any rx ry um um2 n n2 (keptAll x) (keptAll y) (w2.alloc (.cells #[.string (bs ry), .map (some um2)] 42)) (hm2.alloc _) (hm3.alloc _) hn (by omega)
      rw [← unhide Hr2] at hcl
      unfold setV at hcl
      have Hcl := hide hcl
      have HbA := hide (show Below w.heap.size w (w2.alloc (.cells #[.string (bs ry), .map (some um2)] 42)) from hbw.alloc hbw.size _)
      clear he2 h2 Hof hb2 HA hs2 hm2 hm3 hcl
      go_wp2_with fail
      refine (unhide Hcl).mono ?_
      rintro e w4 ⟨rfl, hb4⟩
      have hbw4 : Below w.heap.size w w4 := (unhide HbA).trans (hb4.mono (unhide HbA).size)
      clear Hcl hb4
      go_wp2_with fail
      go_ret3
      exact ⟨rfl, hbw4⟩
end Go.Proofs.YtbfjbohdiemofaaGreatDoor
