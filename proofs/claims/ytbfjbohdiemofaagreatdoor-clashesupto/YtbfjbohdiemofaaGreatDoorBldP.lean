/-
  The program's Build answers as the document's.
-/
import Derived.Test.YtbfjbohdiemofaaGreatDoorSetB
import Derived.Test.YtbfjbohdiemofaaGreatDoorBldLaw
namespace Go.Proofs.YtbfjbohdiemofaaGreatDoor
open Go.RowKit Go.Maps
set_option linter.unusedVariables false

theorem glob_stays : Stays GlobOk := fun w w' h hb => h.below hb (Nat.le_refl _)
set_option maxRecDepth 100000 in
set_option maxHeartbeats 1000000 in
theorem list_nil (root : ByteArray) (w : World) :
    Calls Tryz.prog 23 #[setV root none] w fun e w' => e = .returned (.slice none 0 0) ∧ Below w.heap.size w w' := by
  have hd := digests_nil root (w.alloc (.cells #[.string root, .map none] 42))
  unfold setV at hd
  have Hd := hide hd
  clear hd
  unfold setV
  go_enter Tryz.func23, Tryz.ntmps23
  go_wp2_with fail
  refine (unhide Hd).mono ?_
  rintro e w2 ⟨rfl, hb2⟩
  have hbb : Below w.heap.size w w2 := ((Below.refl _ _).alloc (Nat.le_refl _) _).trans (hb2.mono (by simp))
  clear hb2 Hd
  go_wp2_with fail
  refine wp_loop_rounds 1 ?_
  rw [rounds_succ]
  go_wp2_with fail
  go_ret
  exact ⟨rfl, hbb⟩
/-- what is kept is what the document asks for -/
theorem kept_mem (l : List En) (ht : Tree l) (b : List UInt8) : b ∈ keptAll l ↔ b ∈ allP l := by
  unfold keptAll keptR allP allTo
  rw [List.take_length]
  simp only [List.mem_cons, List.mem_reverse, List.mem_flatMap]
  refine or_congr Iff.rfl ⟨?_, ?_⟩
  · rintro ⟨i, hi, hb⟩
    have hl := (walk_all l ht i).1 hi
    rw [en_getD l i hl] at hb
    exact ⟨_, List.getElem_mem hl, hb⟩
  · rintro ⟨e, he, hb⟩
    obtain ⟨i, hi, rfl⟩ := List.getElem_of_mem he
    exact ⟨i, (walk_all l ht i).2 hi, by rw [en_getD l i hi]; exact hb⟩
theorem list_mem (kr : List (List UInt8)) (hc : clashR kr = false) (b : List UInt8) : b ∈ listOf kr ↔ b ∈ kr := by
  unfold listOf
  simp only [List.mem_map, digs_mem]
  constructor
  · rintro ⟨d, ⟨x, hx, e⟩, hb⟩
    cases hl : lastR kr d with
    | none => exact absurd e (lastR_none hl x hx)
    | some y => rw [hl] at hb; simp at hb; subst hb; exact (lastR_some hl).1
  · intro hb
    refine ⟨P.digest b, ⟨b, hb, rfl⟩, ?_⟩
    cases hl : lastR kr (P.digest b) with
    | none => exact absurd rfl (lastR_none hl b hb)
    | some y =>
      obtain ⟨hy, e⟩ := lastR_some hl
      simp [clashR_false kr hc y hy b hb e]
theorem list_sorted (kr : List (List UInt8)) : (listOf kr).Pairwise (fun x y => dless x y = true) := by
  unfold listOf
  rw [List.pairwise_map]
  refine List.Pairwise.imp_of_mem ?_ (digs_sorted kr)
  intro a b ha hb hab
  have key : ∀ d, d ∈ digsOf kr → P.digest ((lastR kr d).getD []) = d := by
    intro d hd
    obtain ⟨y, hy⟩ := Option.isSome_iff_exists.1 ((lastR_isSome kr d).2 ((digs_mem kr d).1 hd))
    rw [hy]; exact (lastR_some hy).2
  unfold dless
  rw [key a ha, key b hb]; exact hab
theorem built_some (l : List En) (ht : Tree l) (hc : clashR (keptAll l) = false) : builtP l = some (listOf (keptAll l)) :=
  outs_of (allP l) (listOf (keptAll l)) (list_sorted _) (fun x => by rw [list_mem _ hc, kept_mem l ht]) (fun x hx y hy e => clashR_false _ hc x ((kept_mem l ht x).2 hx) y ((kept_mem l ht y).2 hy) e)
theorem built_none (l : List En) (ht : Tree l) (hc : clashR (keptAll l) = true) : builtP l = none := by
  obtain ⟨x, hx, y, hy, e, hne⟩ := clashR_true _ hc
  exact outs_none (allP l) x y ((kept_mem l ht x).1 hx) ((kept_mem l ht y).1 hy) e hne
theorem kept_len (l : List En) (ht : Tree l) : (digsOf (keptAll l)).length ≤ 100 := by
  have e : digsOf (keptAll l) = digsOf (allP l) := order_one less less_irr less_trans _ _ (digs_sorted _) (digs_sorted _) (fun d => by
    rw [digs_mem, digs_mem]
    constructor
    · rintro ⟨b, hb, h⟩; exact ⟨b, (kept_mem l ht b).1 hb, h⟩
    · rintro ⟨b, hb, h⟩; exact ⟨b, (kept_mem l ht b).2 hb, h⟩)
  have h1 := digs_len (allP l)
  have h2 := allTo_len l l.length (Nat.le_refl _)
  have h3 := ht.len
  rw [e]
  unfold allP at h1 ⊢
  omega
set_option maxRecDepth 100000 in
set_option maxHeartbeats 2000000 in
theorem progBuild : ProgBuild GlobOk := by
  intro l a c w hg hl hi hf
  go_enter Tryz.func14, Tryz.ntmps14
  go_wp2_with fail
  refine (of_any l a c w hl hi hf hg).mono ?_
  rintro e w1 ⟨hb1, h1⟩
  rcases h1 with ⟨hnt, rfl⟩ | ⟨ht, hes, rfl⟩ | ⟨ht, hes, hcl, rfl⟩ | ⟨ht, hes, hcl, um, n, hn, hum, rfl, hm⟩
  · have Hw := hide (wrong_no l hnt)
    clear hnt
    have hln := list_nil ⟨#[]⟩ ((w1.alloc (.cells #[.string ⟨#[]⟩, .map none] 42)).drew)
    unfold setV at hln
    have Hln := hide hln
    have hbA : Below w1.heap.size w1 (w1.alloc (.cells #[.string ⟨#[]⟩, .map none] 42)) := (Below.refl _ _).alloc (Nat.le_refl _) _
    clear hln
    go_wp2_with fail
    go_region_held3 (fun w' => w'.cell? ⟨w1.heap.size, 0, none⟩ = some (.string ⟨#[]⟩) ∧ w'.cell? ⟨w1.heap.size, 1, none⟩ = some (.map none))
      ((first | exact ⟨by assumption, by assumption⟩ | go_keep))
      ((go_at_call 23; refine (unhide Hln).mono ?_; rintro e w2 ⟨rfl, hb2⟩;
        have s0 := ((bcell hb2).1 w1.heap.size 0 (by simp)).trans (by simp : _ = some (.string ⟨#[]⟩));
        have s1 := ((bcell hb2).1 w1.heap.size 1 (by simp)).trans (by simp : _ = some (.map none))))
    all_goals go_wp2_with fail
    all_goals go_ret3
    all_goals
      have hbw : Below w.heap.size w w2 := hb1.trans ((Below.trans (b := (w1.alloc (.cells #[.string ⟨#[]⟩, .map none] 42)).drew) ⟨hbA.os, hbA.tape, hbA.output, hbA.size, hbA.block⟩ (hb2.mono hbA.size)).mono hb1.size)
      refine ⟨hbw, .inl ⟨by rw [unhide Hw]; decide, by rw [unhide Hw]; rfl⟩⟩
  · have Hw := hide (show wrongP l = 2 by rw [wrong_yes l ht, hes]; rfl)
    clear hes
    have hln := list_nil ⟨#[]⟩ ((w1.alloc (.cells #[.string ⟨#[]⟩, .map none] 42)).drew)
    unfold setV at hln
    have Hln := hide hln
    have hbA : Below w1.heap.size w1 (w1.alloc (.cells #[.string ⟨#[]⟩, .map none] 42)) := (Below.refl _ _).alloc (Nat.le_refl _) _
    clear hln
    go_wp2_with fail
    go_region_held3 (fun w' => w'.cell? ⟨w1.heap.size, 0, none⟩ = some (.string ⟨#[]⟩) ∧ w'.cell? ⟨w1.heap.size, 1, none⟩ = some (.map none))
      ((first | exact ⟨by assumption, by assumption⟩ | go_keep))
      ((go_at_call 23; refine (unhide Hln).mono ?_; rintro e w2 ⟨rfl, hb2⟩;
        have s0 := ((bcell hb2).1 w1.heap.size 0 (by simp)).trans (by simp : _ = some (.string ⟨#[]⟩));
        have s1 := ((bcell hb2).1 w1.heap.size 1 (by simp)).trans (by simp : _ = some (.map none))))
    all_goals go_wp2_with fail
    all_goals go_ret3
    all_goals
      have hbw : Below w.heap.size w w2 := hb1.trans ((Below.trans (b := (w1.alloc (.cells #[.string ⟨#[]⟩, .map none] 42)).drew) ⟨hbA.os, hbA.tape, hbA.output, hbA.size, hbA.block⟩ (hb2.mono hbA.size)).mono hb1.size)
      refine ⟨hbw, .inl ⟨by rw [unhide Hw]; decide, by rw [unhide Hw]; rfl⟩⟩
  · have Hw := hide (show wrongP l = 0 by rw [wrong_yes l ht, hes]; rfl)
    have Hn := hide (built_none l ht hcl)
    clear hes hcl
    have hln := list_nil ⟨#[]⟩ ((w1.alloc (.cells #[.string ⟨#[]⟩, .map none] 42)).drew)
    unfold setV at hln
    have Hln := hide hln
    have hbA : Below w1.heap.size w1 (w1.alloc (.cells #[.string ⟨#[]⟩, .map none] 42)) := (Below.refl _ _).alloc (Nat.le_refl _) _
    clear hln
    go_wp2_with fail
    go_region_held3 (fun w' => w'.cell? ⟨w1.heap.size, 0, none⟩ = some (.string ⟨#[]⟩) ∧ w'.cell? ⟨w1.heap.size, 1, none⟩ = some (.map none))
      ((first | exact ⟨by assumption, by assumption⟩ | go_keep))
      ((go_at_call 23; refine (unhide Hln).mono ?_; rintro e w2 ⟨rfl, hb2⟩;
        have s0 := ((bcell hb2).1 w1.heap.size 0 (by simp)).trans (by simp : _ = some (.string ⟨#[]⟩));
        have s1 := ((bcell hb2).1 w1.heap.size 1 (by simp)).trans (by simp : _ = some (.map none))))
    all_goals go_wp2_with fail
    all_goals go_ret3
    all_goals
      have hbw : Below w.heap.size w w2 := hb1.trans ((Below.trans (b := (w1.alloc (.cells #[.string ⟨#[]⟩, .map none] 42)).drew) ⟨hbA.os, hbA.tape, hbA.output, hbA.size, hbA.block⟩ (hb2.mono hbA.size)).mono hb1.size)
      refine ⟨hbw, .inr (.inl ⟨unhide Hw, unhide Hn, rfl⟩)⟩
  · have hsome := built_some l ht hcl
    have hw0 : wrongP l = 0 := by rw [wrong_yes l ht, hes]; rfl
    have hln := list_any (bs (P.digest (blobP l 6 []))) um n (keptAll l) ((w1.alloc (.cells #[.string (bs (P.digest (blobP l 6 []))), .map (some um)] 42)).drew) ((hm.alloc _).drew) hn (by have := kept_len l ht; omega)
    unfold setV at hln
    have Hln := hide hln
    have hbA : Below w1.heap.size w1 (w1.alloc (.cells #[.string (bs (P.digest (blobP l 6 []))), .map (some um)] 42)) := (Below.refl _ _).alloc (Nat.le_refl _) _
    have Hs := hide hsome
    have Hw := hide hw0
    generalize hR : bs (P.digest (blobP l 6 [])) = R at *
    have HR := hide hR
    clear hln hsome hw0 hR hm hes hcl
    go_wp2_with fail
    go_region_held3 (fun w' => w'.cell? ⟨w1.heap.size, 0, none⟩ = some (.string R) ∧ w'.cell? ⟨w1.heap.size, 1, none⟩ = some (.map (some um)))
      ((first | exact ⟨by assumption, by assumption⟩ | go_keep))
      ((go_at_call 23; refine (unhide Hln).mono ?_; rintro e w2 ⟨v, rfl, ho2, hb2⟩;
        have s0 := ((bcell hb2).1 w1.heap.size 0 (by simp)).trans (by simp : _ = some (.string R));
        have s1 := ((bcell hb2).1 w1.heap.size 1 (by simp)).trans (by simp : _ = some (.map (some um)))))
    all_goals go_wp2_with fail
    all_goals go_ret3
    all_goals
      have hbw : Below w.heap.size w w2 := hb1.trans ((Below.trans (b := (w1.alloc (.cells #[.string R, .map (some um)] 42)).drew) ⟨hbA.os, hbA.tape, hbA.output, hbA.size, hbA.block⟩ (hb2.mono hbA.size)).mono hb1.size)
      refine ⟨hbw, .inr (.inr ⟨listOf (keptAll l), v, unhide Hw, unhide Hs, by rw [unhide HR]; rfl, ho2.weak' (by have := hb1.size; simp; omega)⟩)⟩
end Go.Proofs.YtbfjbohdiemofaaGreatDoor
