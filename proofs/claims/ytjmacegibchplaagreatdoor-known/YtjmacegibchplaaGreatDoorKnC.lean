/-
  The document's examples: the last one, and all of them.
-/
import Derived.Test.YtjmacegibchplaaGreatDoorKnB
namespace Go.Proofs.YtjmacegibchplaaGreatDoor
open Go.RowKit Go.Maps Go.WideMaps
set_option linter.unusedVariables false

theorem eq_sent (a1 a2 a3 b1 b2 b3 : Int) (w : World) : (Op.equalIn 10000 52 (.agg #[.int .i64 a1, .int .i64 a2, .int .i64 a3]) (.agg #[.int .i64 b1, .int .i64 b2, .int .i64 b3])).run Tryz.prog w = .ok (a1 == b1 && (a2 == b2 && a3 == b3)) w := by
  have u3 := Tryz.underlying3
  have a3' := Tryz.isAgg3
  have z3 := Tryz.sizeOf3
  have hS : Tryz.prog.underlying 52 = some (.struct (Tryz.prog.fieldsOf 52)) := by kernel_rfl
  have hp : Tryz.prog.stoodInHeld 52 = false := by kernel_rfl
  rw [show (10000 : Nat) = 9999 + 1 from rfl, run_equalIn_agg w 9999 52 _ _ hS hp]
  simp only [Program.fieldsOf, Tryz.underlying52]
  go_simp
  by_cases h1 : a1 = b1 <;> by_cases h2 : a2 = b2 <;> by_cases h3 : a3 = b3 <;> simp [h1, h2, h3]
theorem ints2 (W : World) (x y : Int) : IntsAt (W.alloc (.cells #[.int .i64 x, .int .i64 y] 3)) (some ⟨W.heap.size, 0, none⟩) [x, y] := by
  have hb := heap_alloc_new W (.cells #[.int .i64 x, .int .i64 y] 3)
  refine .inr ⟨_, _, rfl, fun i hi => ?_⟩
  match i, hi with
  | 0, _ => exact cell_of_block hb
  | 1, _ => exact cell_of_block hb
set_option maxRecDepth 100000 in
set_option maxHeartbeats 4000000 in
theorem known4 (c : Int) (w : World) (hg : GlobOk w) (c0 : -9223372036854775808 ≤ c) (c1 : c ≤ 9223372036854775807) (hk : pickP c 5 = 4) :
    Calls Tryz.prog 7 #[.int .i64 c] w fun e w' => e = .returned (.bool true) ∧ Below w.heap.size w w' := by
  have hp := keepPick c 5 w c0 c1 (by decide) (by decide)
  rw [hk] at hp
  have hbA : Below w.heap.size w (w.alloc (.cells #[.string ⟨#[97]⟩, .int .i64 1, .string ⟨#[120]⟩] 32)) := (Below.refl _ _).alloc (Nat.le_refl _) _
  have hE := ents1 w ⟨⟨#[97]⟩, 1, ⟨#[120]⟩⟩
  obtain ⟨W1, hW1⟩ : ∃ W1, w.alloc (.cells #[.string ⟨#[97]⟩, .int .i64 1, .string ⟨#[120]⟩] 32) = W1 := ⟨_, rfl⟩
  simp only at hE
  rw [hW1] at hbA hE
  have hz1 : w.heap.size < W1.heap.size := by rw [← hW1]; simp
  have hnew := cNew_ok 1000 W1 (by decide) (by decide)
  have hgl := hg.lt
  have heS := eq_sent
  go_enter Tryz.func7, Tryz.ntmps7
  go_wp2_with (go_at_call 22; refine hp.mono ?_; rintro e w' ⟨rfl, hw'⟩; rw [hw']; clear hw' w')
  refine hnew.mono ?_
  rintro e W2 ⟨sb, pb, um, rfl, hc2, hge, hb2⟩
  clear hnew hW1 hp
  have hbw2 := hbA.trans (hb2.mono hbA.size)
  have hE2 : EntsAt W2 w.heap.size 0 knL := hE.below hb2 (Nat.le_refl _)
  have hbB : Below W2.heap.size W2 (W2.alloc (.cells #[.int .i64 1, .int .i64 2] 3)) := (Below.refl _ _).alloc (Nat.le_refl _) _
  have hbw3 := hbw2.trans (hbB.mono hbw2.size)
  have hlt2 := hc2.lt
  have hup := cUpload_any knL (some ⟨w.heap.size, 0, none⟩) 1 2 5000 [1, 2] (some ⟨W2.heap.size, 0, none⟩) 2 [] sb pb um 0 1000 _ (hg.below hbw3 (Nat.le_refl _)) (by decide) (.inr ⟨_, _, rfl, hE2.below hbB (Nat.le_refl _)⟩) fit_knL (hc2.below hbB (Nat.le_refl _)) (ints2 W2 1 2) (fun b o e _ => by simp at e; omega) (by decide) (by decide) (by decide) (by decide) (by decide)
  unfold UpEnd planV at hup
  rw [show upP 1000 knL 2 5000 [1, 2] [] = knU from rfl, kn_u.1, kn_u.2.1, kn_u.2.2] at hup
  unfold sentV at hup
  simp only at hup
  have hcB := hc2.below hbB (Nat.le_refl _)
  have hEB := hE2.below hbB (Nat.le_refl _)
  have Hup := hide hup
  clear hup hE hb2 hbA hc2 hE2 hbB hbw2
  go_wp2_with fail
  refine (unhide Hup).mono ?_
  rintro e W4 ⟨rfl, ⟨n4, hn4, hp4⟩, hs4, hf4⟩
  clear Hup
  have hc4 := hcB.next hf4 hp4
  have hE4 := hEB.fr hf4 (by omega)
  have hbw4 := hbw3.trans (hf4.toBelow hbw3.size (fun x h => by omega))
  have hsK := kn_us
  have Hdef := hide (show upP 1000 knL 3 5000 [1, 2] knU.2.2.2 = knV from rfl)
  generalize knU.2.2.2 = stU at *
  have e0 : (bs ([] : List UInt8)).toList.isEmpty = true := by rw [ByteArray.toList_eq, bs_data]; rfl
  have hbC : Below W4.heap.size W4 (W4.alloc (.cells #[.int .i64 2, .int .i64 0, .int .i64 0] 52)) := (Below.refl _ _).alloc (Nat.le_refl _) _
  have hc5 := hc4.below hbC (Nat.le_refl _)
  have hE5 := hE4.below hbC (Nat.le_refl _)
  have hbw5 := hbw4.trans (hbC.mono hbw4.size)
  have hk5 := heap_alloc_new W4 (.cells #[.int .i64 2, .int .i64 0, .int .i64 0] 52)
  have hz5 : (W4.alloc (.cells #[.int .i64 2, .int .i64 0, .int .i64 0] 52)).heap.size = W4.heap.size + 1 := by simp
  have hbD : Below (W4.alloc (.cells #[.int .i64 2, .int .i64 0, .int .i64 0] 52)).heap.size (W4.alloc (.cells #[.int .i64 2, .int .i64 0, .int .i64 0] 52)) ((W4.alloc (.cells #[.int .i64 2, .int .i64 0, .int .i64 0] 52)).alloc (.cells #[.int .i64 1, .int .i64 2] 3)) := (Below.refl _ _).alloc (Nat.le_refl _) _
  have hbw6 := hbw5.trans (hbD.mono hbw5.size)
  have hlt5 := hc5.lt
  have hI5 := ints2 (W4.alloc (.cells #[.int .i64 2, .int .i64 0, .int .i64 0] 52)) 1 2
  rw [hz5] at hI5
  have hup := cUpload_any knL (some ⟨w.heap.size, 0, none⟩) 1 3 5000 [1, 2] (some ⟨W4.heap.size + 1, 0, none⟩) 2 stU sb pb um n4 1000 _ (hg.below hbw6 (Nat.le_refl _)) (by decide) (.inr ⟨_, _, rfl, hE5.below hbD (Nat.le_refl _)⟩) fit_knL (hc5.below hbD (Nat.le_refl _)) hI5 (fun b o e _ => by simp at e; rw [hz5] at hlt5; omega) (by decide) (by omega) (by omega) (by decide) (by decide)
  unfold UpEnd planV at hup
  rw [unhide Hdef] at hup
  unfold sentV at hup
  rw [kn_v.1, kn_v.2.1, kn_v.2.2.1, kn_v.2.2.2] at hup
  have hcD := hc5.below hbD (Nat.le_refl _)
  have hED := hE5.below hbD (Nat.le_refl _)
  have hsV := kn_vs
  have Hfe := hide kn_f
  have Hup := hide hup
  clear hup hc4 hE4 hbw4 hbw3 hf4 hp4 hcB hEB hbC hc5 hE5 hbD hbw5 hI5 hz5
  generalize knV.2.2.2 = stV at *
  generalize hbv : bs knV.1 = rV at *
  clear hbv
  go_wp2_with fail
  refine (unhide Hup).mono ?_
  rintro e W7 ⟨rfl, ⟨n7, hn7, hp7⟩, hs7, hf7⟩
  clear Hup
  obtain ⟨ho0, hx0, hx1⟩ := kn_o
  generalize knO.getD 0 [] = x0 at *
  generalize knO.getD 1 [] = x1 at *
  have hc7 := hcD.next hf7 hp7
  have hE7 := hED.fr hf7 (by omega)
  have hbw7 := hbw6.trans (hf7.toBelow hbw6.size (fun x h => by omega))
  have hbE : Below W7.heap.size W7 (W7.alloc (.cells #[.int .i64 ((4 : Nat) : Int), .int .i64 ((2 : Nat) : Int), .int .i64 ((x0.length + x1.length : Nat) : Int)] 52)) := (Below.refl _ _).alloc (Nat.le_refl _) _
  have hbS := heap_alloc_new W7 (.cells #[.int .i64 ((4 : Nat) : Int), .int .i64 ((2 : Nat) : Int), .int .i64 ((x0.length + x1.length : Nat) : Int)] 52)
  have hbw8 := hbw7.trans (hbE.mono hbw7.size)
  have hbd := progBuild_uni knL (some ⟨w.heap.size, 0, none⟩) 1 _ (hg.below hbw8 (Nat.le_refl _)) (by decide) (.inr ⟨_, _, rfl, hE7.below hbE (Nat.le_refl _)⟩) fit_knL
  rw [kn_e1.1, ho0] at hbd
  have Hbd := hide hbd
  have hc8 := hc7.below hbE (Nat.le_refl _)
  have hE8 := hE7.below hbE (Nat.le_refl _)
  clear hbd hc7 hE7 hbw7 hf7 hp7 hcD hED hbw6 ho0
  go_wp2_with fail
  refine (unhide Hbd).mono ?_
  rintro e W9 ⟨v9, rfl, ho9, hb9⟩
  clear Hbd
  obtain ⟨a9, c9, rfl, ht9, -, -⟩ := ho9.texts
  have hbw9 := hbw8.trans (hb9.mono hbw8.size)
  have hS9 := (hb9.block W7.heap.size (by simp)).trans hbS
  have hE9 := hE8.below hb9 (Nat.le_refl _)
  have hfet := cFetch_any stV sb pb um n7 1000 (rootOf knL) 1 1 W9 (hc8.below hb9 (Nat.le_refl _)) (hg.below hbw9 (Nat.le_refl _)) (by unfold rootOf; split; rw [digest_len]; decide; simp) (fun d b hb => by have := at_sum stV d b hb; omega)
  unfold FetEnd at hfet
  rw [unhide Hfe] at hfet
  have Hfet := hide hfet
  clear hfet hc8 hE8 hbw8 hb9 hbS hbE ho9 Hfe
  go_wp2_with fail
  refine (unhide Hfet).mono ?_
  rintro e WA ⟨hbA, vA, rfl, hoA⟩
  clear Hfet
  obtain ⟨aA, cA, rfl, hlA, -⟩ := hoA.lies
  obtain ⟨bA, oA, rfl, hEA⟩ : ∃ b o, aA = some ⟨b, o, none⟩ ∧ EntsAt WA b o knL := by
    rcases hlA with h | h
    · unfold knL at h; simp at h
    · exact h
  have hbwA := hbw9.trans (hbA.mono hbw9.size)
  have hSA := (hbA.block W7.heap.size (Array.getElem?_eq_some_iff.1 hS9).1).trans hS9
  have hFA := hE9.below hbA (Nat.le_refl _)
  have htA := ht9.below hbA (Nat.le_refl _)
  have s0 := cell_of_block (j := 0) hSA
  have s1 := cell_of_block (j := 1) hSA
  have s2 := cell_of_block (j := 2) hSA
  simp only [List.getElem?_toArray, List.getElem?_cons_zero, List.getElem?_cons_succ] at s0 s1 s2
  obtain ⟨p0, p1, p2⟩ : EntAt WA bA oA ⟨⟨#[97]⟩, 1, ⟨#[120]⟩⟩ := hEA 0 (by decide)
  obtain ⟨r0, r1, r2⟩ : EntAt WA w.heap.size 0 ⟨⟨#[97]⟩, 1, ⟨#[120]⟩⟩ := hFA 0 (by decide)
  obtain ⟨bt, ot, rfl, ht0⟩ : ∃ b o, a9 = some ⟨b, o, none⟩ ∧ ∀ i (h : i < [x0, x1].length), WA.cell? ⟨b, o + i, none⟩ = some (strVal [x0, x1][i]) := by
    rcases htA with h | h
    · simp at h
    · exact h
  have y0 : WA.cell? ⟨bt, ot, none⟩ = some (.string (bs x0)) := ht0 0 (by simp)
  have y1 : WA.cell? ⟨bt, ot + 1, none⟩ = some (.string (bs x1)) := ht0 1 (by simp)
  have heq : ∀ (nm dg : ByteArray) (kd : Int) (w : World), (Op.equalIn 10000 32 (.agg #[.string nm, .int .i64 kd, .string dg]) (.agg #[.string nm, .int .i64 kd, .string dg])).run Tryz.prog w = .ok true w := fun nm dg kd w => by
    rw [eq_ent]; simp
  have hz0 := bs_size x0
  have hz1' := bs_size x1
  have hwr : IntKind.i64.wrap ((x0.length : Int) + (x1.length : Int)) = ((x0.length + x1.length : Nat) : Int) := by rw [IntKind.wrap_i64]; omega
  have heS2 : ∀ (a1 a2 a3 : Int) (w : World), (Op.equalIn 10000 52 (.agg #[.int .i64 a1, .int .i64 a2, .int .i64 a3]) (.agg #[.int .i64 a1, .int .i64 a2, .int .i64 a3])).run Tryz.prog w = .ok true w := fun a1 a2 a3 w => by rw [eq_sent]; simp
  have Hb := hide hbwA
  have hl2 : knL.length = 1 := rfl
  rw [hl2]
  clear hbwA hSA hFA hEA hlA hoA hbA hS9 hE9 hbw9 ht9 htA ht0 heS hl2
  generalize bs (rootOf knL) = RB at *
  generalize x0.length = m0 at *
  generalize x1.length = m1 at *
  simp only at p0 p1 p2 r0 r1 r2
  go_wp2_with fail
  go_quiet (fail)
  go_wp2_with fail
  have s0' : (WA.drewN nq).cell? ⟨W7.heap.size, 0, none⟩ = _ := s0
  have s1' : (WA.drewN nq).cell? ⟨W7.heap.size, 1, none⟩ = _ := s1
  have s2' : (WA.drewN nq).cell? ⟨W7.heap.size, 2, none⟩ = _ := s2
  have y0' : (WA.drewN nq).cell? ⟨bt, ot, none⟩ = _ := y0
  have y1' : (WA.drewN nq).cell? ⟨bt, ot + 1, none⟩ = _ := y1
  have Hb' := hide (below_drewN (unhide Hb) nq)
  generalize hWB : WA.drewN nq = WB at *
  clear hWB s0 s1 s2 y0 y1 p0 p1 p2 r0 r1 r2 heq Hb
  go_quiet (fail)
  go_wp2_with fail
  go_ret
  exact ⟨ret_bool (by first | rfl | simp | omega), below_drewN (unhide Hb') _⟩
theorem known_law (c : Int) (w : World) (hg : GlobOk w) (c0 : -9223372036854775808 ≤ c) (c1 : c ≤ 9223372036854775807) :
    Calls Tryz.prog 7 #[.int .i64 c] w fun e w' => e = .returned (.bool true) ∧ Below w.heap.size w w' := by
  have h : pickP c 5 = 0 ∨ pickP c 5 = 1 ∨ pickP c 5 = 2 ∨ pickP c 5 = 3 ∨ pickP c 5 = 4 := by unfold pickP; omega
  rcases h with h | h | h | h | h
  · exact known0 c w c0 c1 h
  · exact known1 c w hg c0 c1 h
  · exact known2 c w c0 c1 h
  · exact known3 c w hg c0 c1 h
  · exact known4 c w hg c0 c1 h
end Go.Proofs.YtjmacegibchplaaGreatDoor
