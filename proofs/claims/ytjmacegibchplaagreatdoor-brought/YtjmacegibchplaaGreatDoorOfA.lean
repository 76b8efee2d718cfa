/-
  The program's set of blobs: how one is kept (the closure of Of).
-/
import Derived.Test.YtjmacegibchplaaGreatDoorDigText
namespace Go.Proofs.YtjmacegibchplaaGreatDoor
open Go.RowKit
set_option linter.unusedVariables false
structure Fr (S : Nat → Prop) (w w' : World) : Prop where
  os : w'.os = w.os
  tape : w'.tape = w.tape
  output : w'.output = w.output
  size : w.heap.size ≤ w'.heap.size
  block : ∀ b, b < w.heap.size → ¬ S b → w'.heap[b]? = w.heap[b]?
theorem Fr.trans {S : Nat → Prop} {a b c : World} (h : Fr S a b) (k : Fr S b c) : Fr S a c :=
  ⟨k.os.trans h.os, k.tape.trans h.tape, k.output.trans h.output, Nat.le_trans h.size k.size, fun x hx hn => (k.block x (Nat.lt_of_lt_of_le hx h.size) hn).trans (h.block x hx hn)⟩
theorem Fr.below {S : Nat → Prop} {a b : World} (h : Below a.heap.size a b) : Fr S a b := ⟨h.os, h.tape, h.output, h.size, fun x hx _ => h.block x hx⟩
theorem Fr.grown {S : Nat → Prop} {a b : World} {row : Option Nat} (h : a.grownBy b row) (hr : ∀ g, row = some g → S g) : Fr S a b := ⟨h.os, h.tape, h.output, h.size, fun x hx hn => h.block x hx (fun e => hn (hr x e.symm))⟩
theorem Fr.mono {S T : Nat → Prop} {a b : World} (h : Fr S a b) (hs : ∀ x, S x → T x) : Fr T a b := ⟨h.os, h.tape, h.output, h.size, fun x hx hn => h.block x hx (fun e => hn (hs x e))⟩
theorem Fr.set {S : Nat → Prop} (w : World) (b j : Nat) (v : Value) (h : S b) : Fr S w (w.setCell ⟨b, j, none⟩ v) := ⟨rfl, rfl, rfl, by simp, fun x _ hn => Below.heap_setCell w _ _ x (fun e => hn (by rw [e]; exact h))⟩
def blobV (b : List UInt8) : Value := .agg #[.string (bs b)]
def lastR (kr : List (List UInt8)) (d : List UInt8) : Option (List UInt8) := kr.find? (fun b => P.digest b == d)
def blobsF (kr : List (List UInt8)) : List UInt8 → Option Value := fun d => (lastR kr d).map blobV
def clashR : List (List UInt8) → Bool
  | [] => false
  | x :: r => clashR r || (match lastR r (P.digest x) with | some y => !(y == x) | none => false)
theorem blobsF_cons (kr : List (List UInt8)) (x : List UInt8) : updF (blobsF kr) (P.digest x) (blobV x) = blobsF (x :: kr) := by
  funext d
  unfold updF blobsF lastR
  by_cases h : d = P.digest x
  · rw [if_pos h, h]; simp
  · rw [if_neg h, List.find?_cons_of_neg (by simpa using fun e => h e.symm)]
theorem lastR_some {kr : List (List UInt8)} {d y : List UInt8} (h : lastR kr d = some y) : y ∈ kr ∧ P.digest y = d := by
  unfold lastR at h
  exact ⟨List.mem_of_find?_eq_some h, by have := List.find?_some h; simpa using this⟩
theorem lastR_none {kr : List (List UInt8)} {d : List UInt8} (h : lastR kr d = none) : ∀ y ∈ kr, P.digest y ≠ d := by
  unfold lastR at h
  rw [List.find?_eq_none] at h
  intro y hy e
  exact h y hy (by simpa using e)
theorem clashR_false : ∀ (kr : List (List UInt8)), clashR kr = false → ∀ x ∈ kr, ∀ y ∈ kr, P.digest x = P.digest y → x = y
  | [], _ => by simp
  | z :: r, h => by
    simp only [clashR, Bool.or_eq_false_iff] at h
    have ih := clashR_false r h.1
    have key : ∀ y ∈ r, P.digest y = P.digest z → y = z := by
      intro y hy e
      cases hl : lastR r (P.digest z) with
      | none => exact absurd e (lastR_none hl y hy)
      | some u =>
        have h2 := h.2
        rw [hl] at h2
        have huz : u = z := by simpa using h2
        obtain ⟨hu, hue⟩ := lastR_some hl
        rw [← huz]
        exact ih y hy u hu (by rw [e, hue])
    intro x hx y hy e
    rcases List.mem_cons.1 hx with hx | hx
    · rcases List.mem_cons.1 hy with hy | hy
      · rw [hx, hy]
      · rw [hx] at e ⊢; exact (key y hy e.symm).symm
    · rcases List.mem_cons.1 hy with hy | hy
      · rw [hy] at e ⊢; exact key x hx e
      · exact ih x hx y hy e
theorem clashR_true : ∀ (kr : List (List UInt8)), clashR kr = true → ∃ x ∈ kr, ∃ y ∈ kr, P.digest x = P.digest y ∧ x ≠ y
  | [], h => by simp [clashR] at h
  | z :: r, h => by
    simp only [clashR, Bool.or_eq_true] at h
    rcases h with h | h
    · obtain ⟨x, hx, y, hy, e⟩ := clashR_true r h
      exact ⟨x, by simp [hx], y, by simp [hy], e⟩
    · cases hl : lastR r (P.digest z) with
      | none => rw [hl] at h; simp at h
      | some u =>
        rw [hl] at h
        obtain ⟨hu, hue⟩ := lastR_some hl
        exact ⟨u, by simp [hu], z, by simp, hue, by simpa using h⟩
structure KeepIs (w : World) (bu bc um n : Nat) (kr : List (List UInt8)) : Prop where
  u : w.heap[bu]? = some (.cells #[.map (some um)] 75 (0, 0))
  c : w.heap[bc]? = some (.cells #[.bool (clashR kr)] 4 (0, 0))
  m : MapIs w um n (blobsF kr)
theorem KeepIs.same {w w' : World} {bu bc um n : Nat} {kr : List (List UInt8)} (h : KeepIs w bu bc um n kr) (hs : ∀ b, b = bu ∨ b = bc ∨ b = um → w'.heap[b]? = w.heap[b]?) : KeepIs w' bu bc um n kr :=
  ⟨(hs bu (.inl rfl)).trans h.u, (hs bc (.inr (.inl rfl))).trans h.c, h.m.same (hs um (.inr (.inr rfl)))⟩
theorem KeepIs.lt {w : World} {bu bc um n : Nat} {kr : List (List UInt8)} (h : KeepIs w bu bc um n kr) : ∀ b, b = bu ∨ b = bc ∨ b = um → b < w.heap.size := by
  rintro b (rfl | rfl | rfl)
  · exact (Array.getElem?_eq_some_iff.1 h.u).1
  · exact (Array.getElem?_eq_some_iff.1 h.c).1
  · exact h.m.lt
theorem map_ne_cells {w : World} {b m n t : Nat} {cur : Array Value} {F : List UInt8 → Option Value} (h : MapIs w m n F) (hb : w.heap[b]? = some (.cells cur t (0, 0))) : b ≠ m := by
  obtain ⟨D, ⟨es, clock, hm, _⟩, _⟩ := h
  intro e
  subst e
  rw [hm] at hb; simp at hb
theorem under40 : Tryz.prog.underlying 75 = some (.map 9 107) := by kernel_rfl
theorem zero_blob (w : World) : (zeroValue 107).run Tryz.prog w = .ok (.agg #[.string ⟨#[]⟩]) w := by kernel_rfl
theorem digest_len (B : List UInt8) : (P.digest B).length = 3 := rfl
set_option maxRecDepth 100000 in
set_option maxHeartbeats 2000000 in
theorem keep_any (B : List UInt8) (kr : List (List UInt8)) (w : World) (bu bc um n : Nat) (h : KeepIs w bu bc um n kr) (hB : B.length ≤ 100000) (hn : n < maxLen) :
    Calls Tryz.prog 65 #[.string (bs B), ptr bu, ptr bc] w fun e w' => e = .returned (.string (bs (P.digest B))) ∧ KeepIs w' bu bc um (n + 1) (B :: kr) ∧ Fr (fun b => b = bc ∨ b = um) w w' := by
  have hdig := textDigest_any (bs B) w (by rw [bs_size]; unfold maxLen; omega)
  rw [bs_data] at hdig
  change Calls Tryz.prog 51 #[.string (bs B)] w fun e w' => e = .returned (.string (bs (P.digest B))) ∧ Below w.heap.size w w' at hdig
  have hcl := fun w' => clone2 B w' hB
  have hdl : (P.digest B).length ≤ maxLen := by rw [digest_len]; decide
  have hFc := blobsF_cons kr B
  have hcr : clashR (B :: kr) = (clashR kr || (match lastR kr (P.digest B) with | some y => !(y == B) | none => false)) := rfl
  have hbf : blobsF kr (P.digest B) = (lastR kr (P.digest B)).map blobV := rfl
  generalize P.digest B = D at *
  unfold ptr
  go_enter Tryz.func65, Tryz.ntmps65
  go_wp2_with fail
  refine hdig.mono ?_
  rintro e w1 ⟨rfl, hb1⟩
  have h1 : KeepIs w1 bu bc um n kr := h.same (fun b hb => hb1.block b (h.lt b hb))
  have hF1 : Fr (fun b => b = bc ∨ b = um) w w1 := Fr.below hb1
  clear hb1 hdig h
  have cu := cell_of_block (j := 0) h1.u
  have cc := cell_of_block (j := 0) h1.c
  have fc := free_block (j := 0) h1.c
  simp only [List.getElem?_toArray, List.getElem?_cons_zero] at cu cc
  have hbuc : bu ≠ bc := fun e => by
    have a := h1.u
    have b := h1.c
    rw [e, b] at a
    simp at a
  have HFc := hide hFc
  clear hFc
  cases hlr : lastR kr D with
  | none =>
    rw [hlr] at hcr hbf
    have hce : clashR kr = clashR (B :: kr) := by rw [hcr, Bool.or_false]
    have hok : clashR (B :: kr) = clashR kr := hce.symm
    have hWu : (w1.alloc (.cells #[.string ⟨#[]⟩] 107)).heap[bu]? = some (.cells #[.map (some um)] 75 (0, 0)) := (Below.heap_alloc w1 _ _ (h1.lt bu (.inl rfl))).trans h1.u
    have hWc : (w1.alloc (.cells #[.string ⟨#[]⟩] 107)).heap[bc]? = some (.cells #[.bool (clashR (B :: kr))] 4 (0, 0)) := by rw [← hce]; exact (Below.heap_alloc w1 _ _ (h1.lt bc (.inr (.inl rfl)))).trans h1.c
    have hmW : MapIs (w1.alloc (.cells #[.string ⟨#[]⟩] 107)) um n (blobsF kr) := h1.m.alloc _
    have hFW : Fr (fun b => b = bc ∨ b = um) w (w1.alloc (.cells #[.string ⟨#[]⟩] 107)) := hF1.trans (Fr.below ((Below.refl _ _).alloc (Nat.le_refl _) _))
    have hlu : bu < (w1.alloc (.cells #[.string ⟨#[]⟩] 107)).heap.size := (Array.getElem?_eq_some_iff.1 hWu).1
    have hlc : bc < (w1.alloc (.cells #[.string ⟨#[]⟩] 107)).heap.size := (Array.getElem?_eq_some_iff.1 hWc).1
    have hlm : um < (w1.alloc (.cells #[.string ⟨#[]⟩] 107)).heap.size := hmW.lt
    have hnu := map_ne_cells hmW hWu
    have hnc := map_ne_cells hmW hWc
    have ck := cell_of_block (j := 0) hWu
    simp only [List.getElem?_toArray, List.getElem?_cons_zero] at ck
    have HW := hide (And.intro hWu (And.intro hWc hFW))
    clear hWu hWc hFW
    clear hcr hce hok hlr
    go_wp2_with (at_lookup; refine wp_look_ok rfl _ _ 75 rfl 107 under40 (.agg #[.string ⟨#[]⟩]) (zero_blob _) um n (blobsF kr) rfl h1.m D rfl hdl ?_; rw [hbf]; simp only [Option.map_none, Option.getD_none, Option.isSome_none])
    go_region_held3 (fun w' => w'.cell? ⟨bu, 0, none⟩ = some (.map (some um)))
      ((first | assumption | go_keep))
      ((go_at_call 66; refine (hcl _).mono ?_; rintro e w4 ⟨rfl, hb4⟩;
        have s4 := ((bcell hb4).1 bu 0 (by simpa using hlu)).trans ck;
        obtain ⟨w5, hrun5, hm5, hg5⟩ := MapIs.store (MapIs.same (w' := w4) hmW (hb4.block um hlm)) 75 107 under40 hn D hdl (.agg #[.string (bs B)]);
        have s5 := cell_grown hg5 s4 (by simpa using hnu)))
    all_goals go_wp2_with fail
    all_goals go_ret
    all_goals
      have hk4 : w4.heap[bu]? = some (.cells #[.map (some um)] 75 (0, 0)) := (hb4.block bu hlu).trans (unhide HW).1
      have hc4 := (hb4.block bc hlc).trans (unhide HW).2.1
      refine ⟨rfl, ⟨(hg5.block bu (Nat.lt_of_lt_of_le hlu hb4.size) (by simpa using hnu)).trans hk4, (hg5.block bc (Nat.lt_of_lt_of_le hlc hb4.size) (by simpa using hnc)).trans hc4, by rw [← unhide HFc]; exact hm5⟩, ?_⟩
      exact (unhide HW).2.2.trans (Fr.trans (b := w4) ⟨hb4.os, hb4.tape, hb4.output, hb4.size, fun x hx _ => hb4.block x hx⟩ (Fr.grown hg5 (fun g hg => by cases hg; exact Or.inr rfl)))
  | some y =>
    rw [hlr] at hcr hbf
    have s1 := str_eq2 y B
    by_cases hyB : y = B
    · subst hyB
      have hce : clashR kr = clashR (y :: kr) := by rw [hcr]; simp
      have s1' : ((bs y).toList != (bs y).toList) = false := by simp
      have hWu : (w1.alloc (.cells #[.string (bs y)] 107)).heap[bu]? = some (.cells #[.map (some um)] 75 (0, 0)) := (Below.heap_alloc w1 _ _ (h1.lt bu (.inl rfl))).trans h1.u
      have hWc : (w1.alloc (.cells #[.string (bs y)] 107)).heap[bc]? = some (.cells #[.bool (clashR (y :: kr))] 4 (0, 0)) := by rw [← hce]; exact (Below.heap_alloc w1 _ _ (h1.lt bc (.inr (.inl rfl)))).trans h1.c
      have hmW : MapIs (w1.alloc (.cells #[.string (bs y)] 107)) um n (blobsF kr) := h1.m.alloc _
      have hFW : Fr (fun b => b = bc ∨ b = um) w (w1.alloc (.cells #[.string (bs y)] 107)) := hF1.trans (Fr.below ((Below.refl _ _).alloc (Nat.le_refl _) _))
      have hlu : bu < (w1.alloc (.cells #[.string (bs y)] 107)).heap.size := (Array.getElem?_eq_some_iff.1 hWu).1
      have hlc : bc < (w1.alloc (.cells #[.string (bs y)] 107)).heap.size := (Array.getElem?_eq_some_iff.1 hWc).1
      have hlm : um < (w1.alloc (.cells #[.string (bs y)] 107)).heap.size := hmW.lt
      have hnu := map_ne_cells hmW hWu
      have hnc := map_ne_cells hmW hWc
      have ck := cell_of_block (j := 0) hWu
      simp only [List.getElem?_toArray, List.getElem?_cons_zero] at ck
      have HW := hide (And.intro hWu (And.intro hWc hFW))
      clear hWu hWc hFW
      clear hcr hce hlr s1
      go_wp2_with (at_lookup; refine wp_look_ok rfl _ _ 75 rfl 107 under40 (.agg #[.string ⟨#[]⟩]) (zero_blob _) um n (blobsF kr) rfl h1.m D rfl hdl ?_; rw [hbf]; simp only [Option.map_some, Option.getD_some, Option.isSome_some, blobV])
      go_region_held3 (fun w' => w'.cell? ⟨bu, 0, none⟩ = some (.map (some um)))
        ((first | assumption | go_keep))
        ((go_at_call 66; refine (hcl _).mono ?_; rintro e w4 ⟨rfl, hb4⟩;
          have s4 := ((bcell hb4).1 bu 0 (by simpa using hlu)).trans ck;
          obtain ⟨w5, hrun5, hm5, hg5⟩ := MapIs.store (MapIs.same (w' := w4) hmW (hb4.block um hlm)) 75 107 under40 hn D hdl (.agg #[.string (bs y)]);
          have s5 := cell_grown hg5 s4 (by simpa using hnu)))
      all_goals go_wp2_with fail
      all_goals go_ret
      all_goals
        have hk4 : w4.heap[bu]? = some (.cells #[.map (some um)] 75 (0, 0)) := (hb4.block bu hlu).trans (unhide HW).1
        have hc4 := (hb4.block bc hlc).trans (unhide HW).2.1
        refine ⟨rfl, ⟨(hg5.block bu (Nat.lt_of_lt_of_le hlu hb4.size) (by simpa using hnu)).trans hk4, (hg5.block bc (Nat.lt_of_lt_of_le hlc hb4.size) (by simpa using hnc)).trans hc4, by rw [← unhide HFc]; exact hm5⟩, ?_⟩
        exact (unhide HW).2.2.trans (Fr.trans (b := w4) ⟨hb4.os, hb4.tape, hb4.output, hb4.size, fun x hx _ => hb4.block x hx⟩ (Fr.grown hg5 (fun g hg => by cases hg; exact Or.inr rfl)))
    · have s1' : ((bs y).toList == (bs B).toList) = false := by rw [s1]; simpa using hyB
      have s1'' : ((bs y).toList != (bs B).toList) = true := by rw [bne, s1']; rfl
      have hce : clashR (B :: kr) = true := by rw [hcr]; simp [hyB]
      have HCe := hide hce
      have hA := (Below.heap_alloc w1 (.cells #[.string (bs y)] 107) _ (h1.lt bc (.inr (.inl rfl)))).trans h1.c
      have ccA := cell_of_block (j := 0) hA
      have fcA := free_block (j := 0) hA
      simp only [List.getElem?_toArray, List.getElem?_cons_zero] at ccA
      have hlb := h1.lt bc (.inr (.inl rfl))
      have hWu : ((w1.setCell ⟨bc, 0, none⟩ (.bool true)).alloc (.cells #[.string (bs y)] 107)).heap[bu]? = some (.cells #[.map (some um)] 75 (0, 0)) := (Below.heap_alloc _ _ _ (by simpa using h1.lt bu (.inl rfl))).trans ((Below.heap_setCell _ _ _ _ (by simpa using hbuc)).trans h1.u)
      have hWc : ((w1.setCell ⟨bc, 0, none⟩ (.bool true)).alloc (.cells #[.string (bs y)] 107)).heap[bc]? = some (.cells #[.bool true] 4 (0, 0)) := (Below.heap_alloc _ _ _ (by simpa using h1.lt bc (.inr (.inl rfl)))).trans (heap_set0 _ h1.c)
      have hmW : MapIs ((w1.setCell ⟨bc, 0, none⟩ (.bool true)).alloc (.cells #[.string (bs y)] 107)) um n (blobsF kr) := (h1.m.same (Below.heap_setCell _ _ _ _ (fun e => map_ne_cells h1.m h1.c e.symm))).alloc _
      have hFW : Fr (fun b => b = bc ∨ b = um) w ((w1.setCell ⟨bc, 0, none⟩ (.bool true)).alloc (.cells #[.string (bs y)] 107)) := (hF1.trans (Fr.set _ _ _ _ (Or.inl rfl))).trans (Fr.below ((Below.refl _ _).alloc (Nat.le_refl _) _))
      have hlu : bu < ((w1.setCell ⟨bc, 0, none⟩ (.bool true)).alloc (.cells #[.string (bs y)] 107)).heap.size := (Array.getElem?_eq_some_iff.1 hWu).1
      have hlc : bc < ((w1.setCell ⟨bc, 0, none⟩ (.bool true)).alloc (.cells #[.string (bs y)] 107)).heap.size := (Array.getElem?_eq_some_iff.1 hWc).1
      have hlm : um < ((w1.setCell ⟨bc, 0, none⟩ (.bool true)).alloc (.cells #[.string (bs y)] 107)).heap.size := hmW.lt
      have hnu := map_ne_cells hmW hWu
      have hnc := map_ne_cells hmW hWc
      have ck := cell_of_block (j := 0) hWu
      simp only [List.getElem?_toArray, List.getElem?_cons_zero] at ck
      have HW := hide (And.intro hWu (And.intro hWc hFW))
      clear hWu hWc hFW
      clear hcr hlr s1 hyB hce
      go_wp2_with (at_lookup; refine wp_look_ok rfl _ _ 75 rfl 107 under40 (.agg #[.string ⟨#[]⟩]) (zero_blob _) um n (blobsF kr) rfl h1.m D rfl hdl ?_; rw [hbf]; simp only [Option.map_some, Option.getD_some, Option.isSome_some, blobV])
      go_region_held3 (fun w' => w'.cell? ⟨bu, 0, none⟩ = some (.map (some um)))
        ((first | assumption | go_keep))
        ((go_at_call 66; refine (hcl _).mono ?_; rintro e w4 ⟨rfl, hb4⟩;
          have s4 := ((bcell hb4).1 bu 0 (by simpa using hlu)).trans ck;
          obtain ⟨w5, hrun5, hm5, hg5⟩ := MapIs.store (MapIs.same (w' := w4) hmW (hb4.block um hlm)) 75 107 under40 hn D hdl (.agg #[.string (bs B)]);
          have s5 := cell_grown hg5 s4 (by simpa using hnu)))
      all_goals go_wp2_with fail
      all_goals go_ret
      all_goals
        have hk4 : w4.heap[bu]? = some (.cells #[.map (some um)] 75 (0, 0)) := (hb4.block bu hlu).trans (unhide HW).1
        have hc4 := (hb4.block bc hlc).trans (unhide HW).2.1
        refine ⟨rfl, ⟨(hg5.block bu (Nat.lt_of_lt_of_le hlu hb4.size) (by simpa using hnu)).trans hk4, (hg5.block bc (Nat.lt_of_lt_of_le hlc hb4.size) (by simpa using hnc)).trans (by rw [unhide HCe]; exact hc4), by rw [← unhide HFc]; exact hm5⟩, ?_⟩
        exact (unhide HW).2.2.trans (Fr.trans (b := w4) ⟨hb4.os, hb4.tape, hb4.output, hb4.size, fun x hx _ => hb4.block x hx⟩ (Fr.grown hg5 (fun g hg => by cases hg; exact Or.inr rfl)))
end Go.Proofs.YtjmacegibchplaaGreatDoor
