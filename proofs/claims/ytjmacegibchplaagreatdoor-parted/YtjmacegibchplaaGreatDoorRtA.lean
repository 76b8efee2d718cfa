import Derived.Test.YtjmacegibchplaaGreatDoorFtA
import Derived.Test.YtjmacegibchplaaGreatDoorFtE
import Derived.Test.YtjmacegibchplaaGreatDoorFetR
import Derived.Test.YtjmacegibchplaaGreatDoorTreeC
import Derived.Test.YtjmacegibchplaaGreatDoorStoA
import Derived.Laws.AppendOwnNone
import Derived.Deep.CutBlock
import Derived.Deep.RegionHeld3
/-
  awake: a small tree is built, brought and fetched.
-/
namespace Go.Proofs.YtjmacegibchplaaGreatDoor
open Go.RowKit Go.Maps Go.WideMaps
set_option linter.unusedVariables false
theorem progBuild_uni (l : List En) (a : Option Addr) (c : Nat) (w : World) (hg : GlobOk w) (hl : l.length ≤ maxLen) (hi : LiesE w a l) (hf : TFit l) :
    Calls Tryz.prog 24 #[.slice a l.length c] w fun e w' => ∃ v, e = .returned (.tuple #[.string (bs (rootOf l)), v, .int .i64 (errOf l)]) ∧ OwnsS w' w.heap.size v (outOf l) ∧ Below w.heap.size w w' := by
  refine (progBuild l a c w hg hl hi hf).mono ?_
  rintro e w' ⟨hb, h⟩
  rcases h with ⟨hw, rfl⟩ | ⟨hw, hbu, rfl⟩ | ⟨out, v, hw, hbu, rfl, ho⟩
  · have he : errOf l = wrongP l := by unfold errOf; rw [if_pos hw]
    have hr : rootOf l = [] := by unfold rootOf; rw [he, if_neg hw]
    have ho : outOf l = [] := by unfold outOf; rw [if_neg hw]
    exact ⟨_, by rw [he, hr]; rfl, by rw [ho]; exact World.ownsRow_nil _ _ _ _, hb⟩
  · have he : errOf l = 3 := by unfold errOf; rw [if_neg (by simpa using hw), if_pos hbu]
    have hr : rootOf l = [] := by unfold rootOf; rw [he]; rfl
    have ho : outOf l = [] := by unfold outOf; rw [if_pos hw, hbu]; rfl
    exact ⟨_, by rw [he, hr]; rfl, by rw [ho]; exact World.ownsRow_nil _ _ _ _, hb⟩
  · have he : errOf l = 0 := by unfold errOf; rw [if_neg (by simpa using hw), if_neg (by rw [hbu]; simp)]
    have hr : rootOf l = P.digest (blobP l 6 []) := by unfold rootOf; rw [he]; rfl
    have ho' : outOf l = out := by unfold outOf; rw [if_pos hw, hbu]; rfl
    exact ⟨v, by rw [he, hr], by rw [ho']; exact ho, hb⟩
theorem OwnsE.lies {w : World} {base : Nat} {v : Value} {l : List En} (h : OwnsE w base v l) : ∃ a c, v = .slice a l.length c ∧ LiesE w a l ∧ (∀ b o q, a = some ⟨b, o, q⟩ → base ≤ b) := by
  rcases h.2 with ⟨rfl, hn⟩ | ⟨g, cap, cur, rfl, hb, hg, hnc, hcm, hcs, htake⟩
  · exact ⟨none, 0, by rw [hn], .inl (List.eq_nil_of_length_eq_zero hn), fun b o q e => by simp at e⟩
  · refine ⟨some ⟨g, 0, none⟩, cap, rfl, .inr ⟨g, 0, rfl, fun i hi => ?_⟩, fun b o q e => by simp at e; omega⟩
    have := row_ent h i hi
    rw [Nat.zero_add]
    exact this
theorem Fr.toBelow {S : Nat → Prop} {B : Nat} {a b : World} (h : Fr S a b) (hB : B ≤ a.heap.size) (hs : ∀ x, S x → B ≤ x) : Below B a b :=
  ⟨h.os, h.tape, h.output, h.size, fun x hx => h.block x (by omega) (fun hS => by have := hs x hS; omega)⟩
theorem EntsAt.fr {S : Nat → Prop} {w w' : World} {b o : Nat} {l : List En} (h : EntsAt w b o l) (hf : Fr S w w') (hn : ¬ S b) : EntsAt w' b o l := fun i hi =>
  ⟨cell_fr hf (h i hi).1 hn, cell_fr hf (h i hi).2.1 hn, cell_fr hf (h i hi).2.2 hn⟩
theorem GlobOk.fr {S : Nat → Prop} {w w' : World} (h : GlobOk w) (hf : Fr S w w') (hn : ¬ S 0) : GlobOk w' := by
  obtain ⟨m, hm⟩ := h
  exact ⟨m, cell_fr hf hm hn⟩
theorem GlobOk.lt {w : World} (h : GlobOk w) : 0 < w.heap.size := by
  obtain ⟨m, hm⟩ := h
  exact block_lt hm
set_option maxRecDepth 100000 in
set_option maxHeartbeats 4000000 in
theorem awake_any (w : World) (hg : GlobOk w) : Calls Tryz.prog 29 #[] w fun e w' => e = .returned (.bool true) ∧ Below w.heap.size w w' := by
  have hbA : Below w.heap.size w (w.alloc (.cells #[.string ⟨#[100, 47, 102]⟩, .int .i64 2, .string ⟨#[98, 121, 116, 101, 115]⟩, .string ⟨#[100]⟩, .int .i64 0, .string ⟨#[]⟩, .string ⟨#[97]⟩, .int .i64 3, .string ⟨#[100, 47, 102]⟩] 32)) := (Below.refl _ _).alloc (Nat.le_refl _) _
  have hE : EntsAt (w.alloc (.cells #[.string ⟨#[100, 47, 102]⟩, .int .i64 2, .string ⟨#[98, 121, 116, 101, 115]⟩, .string ⟨#[100]⟩, .int .i64 0, .string ⟨#[]⟩, .string ⟨#[97]⟩, .int .i64 3, .string ⟨#[100, 47, 102]⟩] 32)) w.heap.size 0 smallL := by
    intro i hi
    have hb := heap_alloc_new w (.cells #[.string ⟨#[100, 47, 102]⟩, .int .i64 2, .string ⟨#[98, 121, 116, 101, 115]⟩, .string ⟨#[100]⟩, .int .i64 0, .string ⟨#[]⟩, .string ⟨#[97]⟩, .int .i64 3, .string ⟨#[100, 47, 102]⟩] 32)
    match i, hi with
    | 0, _ => exact ⟨cell_of_block hb, cell_of_block hb, cell_of_block hb⟩
    | 1, _ => exact ⟨cell_of_block hb, cell_of_block hb, cell_of_block hb⟩
    | 2, _ => exact ⟨cell_of_block hb, cell_of_block hb, cell_of_block hb⟩
  obtain ⟨W1, hW1⟩ : ∃ W1, w.alloc (.cells #[.string ⟨#[100, 47, 102]⟩, .int .i64 2, .string ⟨#[98, 121, 116, 101, 115]⟩, .string ⟨#[100]⟩, .int .i64 0, .string ⟨#[]⟩, .string ⟨#[97]⟩, .int .i64 3, .string ⟨#[100, 47, 102]⟩] 32) = W1 := ⟨_, rfl⟩
  have hz1 : w.heap.size < W1.heap.size := by rw [← hW1]; simp
  rw [hW1] at hbA hE
  have hnew := cNew_ok 1000 W1 (by decide) (by decide)
  go_enter Tryz.func29, Tryz.ntmps29
  go_wp2_with fail
  refine hnew.mono ?_
  rintro e W2 ⟨sb, pb, um, rfl, hc2, hge, hb2⟩
  clear hnew hW1
  have hbw2 := hbA.trans (hb2.mono hbA.size)
  have hE2 := hE.below hb2 (Nat.le_refl _)
  have hbd := progBuild_uni smallL (some ⟨w.heap.size, 0, none⟩) 3 W2 (hg.below hbw2 (Nat.le_refl _)) (by decide) (.inr ⟨_, _, rfl, hE2⟩) small_fit
  rw [awk_err] at hbd
  have Hbd := hide hbd
  clear hbd hE hbA hb2
  go_wp2_with fail
  refine (unhide Hbd).mono ?_
  rintro e W3 ⟨v3, rfl, ho3, hb3⟩
  clear Hbd
  obtain ⟨a3, c3, rfl, -, -, -⟩ := ho3.texts
  rw [small_len]
  clear ho3
  have hbw3 := hbw2.trans (hb3.mono hbw2.size)
  have hE3 := hE2.below hb3 (Nat.le_refl _)
  have hc3 := hc2.below hb3 (Nat.le_refl _)
  have hbB : Below W3.heap.size W3 (W3.alloc (.cells #[.int .i64 1, .int .i64 2, .int .i64 0, .int .i64 3] 3)) := (Below.refl _ _).alloc (Nat.le_refl _) _
  have hI4 : IntsAt (W3.alloc (.cells #[.int .i64 1, .int .i64 2, .int .i64 0, .int .i64 3] 3)) (some ⟨W3.heap.size, 0, none⟩) [1, 2, 0, 3] := by
    have hb := heap_alloc_new W3 (.cells #[.int .i64 1, .int .i64 2, .int .i64 0, .int .i64 3] 3)
    refine .inr ⟨_, _, rfl, fun i hi => ?_⟩
    match i, hi with
    | 0, _ => exact cell_of_block hb
    | 1, _ => exact cell_of_block hb
    | 2, _ => exact cell_of_block hb
    | 3, _ => exact cell_of_block hb
  have hbw4 := hbw3.trans (hbB.mono hbw3.size)
  have hlt3 := hc3.lt
  have hup := cUpload_any smallL (some ⟨w.heap.size, 0, none⟩) 3 3 5000 [1, 2, 0, 3] (some ⟨W3.heap.size, 0, none⟩) 4 [] sb pb um 0 1000 _ (hg.below hbw4 (Nat.le_refl _)) (by decide) (.inr ⟨_, _, rfl, hE3.below hbB (Nat.le_refl _)⟩) small_fit (hc3.below hbB (Nat.le_refl _)) hI4 (fun b o e _ => by simp at e; omega) (by decide) (by decide) (by decide) (by decide) (by decide)
  unfold UpEnd planV at hup
  rw [show upP 1000 smallL 3 5000 [1, 2, 0, 3] [] = awkU from rfl, awk_root, awk_code] at hup
  unfold sentV at hup
  rw [awk_tries.1, awk_tries.2] at hup
  have hsm := awk_sum
  have hfe := awk_fetch
  have Hfe := hide hfe
  have hcA := hc3.below hbB (Nat.le_refl _)
  have hEA := hE3.below hbB (Nat.le_refl _)
  clear hfe hE2 hb3 hc2 hI4 hbw2 hbw3 hc3 hE3 hbB
  generalize awkU.2.2.2 = stA at *
  generalize awkU.2.1.2.2 = nB at *
  have Hup := hide hup
  clear hup
  go_wp2_with fail
  refine (unhide Hup).mono ?_
  rintro e W5 ⟨rfl, ⟨n5, hn5, hp5⟩, hs5, hf5⟩
  clear Hup
  have hgl := hg.lt
  have hc5 := hcA.next hf5 hp5
  have hE5 := hEA.fr hf5 (by omega)
  have hbw5 := hbw4.trans (hf5.toBelow hbw4.size (fun x h => by omega))
  have hbC : Below W5.heap.size W5 (W5.alloc (.cells #[.int .i64 ((4 : Nat) : Int), .int .i64 ((3 : Nat) : Int), .int .i64 (nB : Int)] 52)) := (Below.refl _ _).alloc (Nat.le_refl _) _
  have hbS := heap_alloc_new W5 (.cells #[.int .i64 ((4 : Nat) : Int), .int .i64 ((3 : Nat) : Int), .int .i64 (nB : Int)] 52)
  have hbw6 := hbw5.trans (hbC.mono hbw5.size)
  have hfet := cFetch_any stA sb pb um n5 1000 (rootOf smallL) 40 5 _ (hc5.below hbC (Nat.le_refl _)) (hg.below hbw6 (Nat.le_refl _)) (by unfold rootOf; split; rw [digest_len]; decide; simp) (fun d b hb => by have := at_sum stA d b hb; omega)
  unfold FetEnd at hfet
  rw [unhide Hfe] at hfet
  have Hfet := hide hfet
  have hE6 := hE5.below hbC (Nat.le_refl _)
  clear hfet hc5 hE5 hbw5 hbw4 hf5 hp5 hcA hEA
  go_wp2_with fail
  refine (unhide Hfet).mono ?_
  rintro e W7 ⟨hb7, v7, rfl, ho7⟩
  clear Hfet Hfe
  obtain ⟨a7, c7, rfl, hl7, -⟩ := ho7.lies
  obtain ⟨b7, o7, rfl, hE7⟩ : ∃ b o, a7 = some ⟨b, o, none⟩ ∧ EntsAt W7 b o [⟨⟨#[97]⟩, 3, ⟨#[100, 47, 102]⟩⟩, ⟨⟨#[100]⟩, 0, ⟨#[]⟩⟩, ⟨⟨#[100, 47, 102]⟩, 2, ⟨#[98, 121, 116, 101, 115]⟩⟩] := by
    rcases hl7 with h | h
    · simp at h
    · exact h
  have hbw7 := hbw6.trans (hb7.mono hbw6.size)
  have hS7 := (hb7.block W5.heap.size (by simp)).trans hbS
  have hF7 := hE6.below hb7 (Nat.le_refl _)
  have s0 := cell_of_block (j := 0) hS7
  have s1 := cell_of_block (j := 1) hS7
  simp only [List.getElem?_toArray, List.getElem?_cons_zero, List.getElem?_cons_succ] at s0 s1
  obtain ⟨p0, p1, p2⟩ : EntAt W7 b7 o7 ⟨⟨#[97]⟩, 3, ⟨#[100, 47, 102]⟩⟩ := hE7 0 (by decide)
  obtain ⟨p3, p4, p5⟩ : EntAt W7 b7 (o7 + 3) ⟨⟨#[100]⟩, 0, ⟨#[]⟩⟩ := hE7 1 (by decide)
  obtain ⟨p6, p7, p8⟩ : EntAt W7 b7 (o7 + 6) ⟨⟨#[100, 47, 102]⟩, 2, ⟨#[98, 121, 116, 101, 115]⟩⟩ := hE7 2 (by decide)
  obtain ⟨r0, r1, r2⟩ : EntAt W7 w.heap.size 0 ⟨⟨#[100, 47, 102]⟩, 2, ⟨#[98, 121, 116, 101, 115]⟩⟩ := hF7 0 (by decide)
  obtain ⟨r3, r4, r5⟩ : EntAt W7 w.heap.size 3 ⟨⟨#[100]⟩, 0, ⟨#[]⟩⟩ := hF7 1 (by decide)
  obtain ⟨r6, r7, r8⟩ : EntAt W7 w.heap.size 6 ⟨⟨#[97]⟩, 3, ⟨#[100, 47, 102]⟩⟩ := hF7 2 (by decide)
  have heq : ∀ (nm dg : ByteArray) (kd : Int) (w : World), (Op.equalIn 10000 32 (.agg #[.string nm, .int .i64 kd, .string dg]) (.agg #[.string nm, .int .i64 kd, .string dg])).run Tryz.prog w = .ok true w := fun nm dg kd w => by
    rw [eq_ent]; simp
  have hbR : ((bs (rootOf smallL)).toList == (bs (rootOf smallL)).toList) = true := by simp
  have Hb := hide hbw7
  clear hbw7 hS7 hF7 hE7 hl7 ho7 hb7 hbS hE6 hbw6 hbC
  generalize bs (rootOf smallL) = RB at *
  simp only at p0 p1 p2 p3 p4 p5 p6 p7 p8 r0 r1 r2 r3 r4 r5 r6 r7 r8
  go_wp2_with fail
  go_quiet (fail)
  go_wp2_with fail
  go_ret
  exact ⟨rfl, below_drewN (unhide Hb) _⟩
end Go.Proofs.YtjmacegibchplaaGreatDoor

/-
  The document's examples: the first four.
-/
namespace Go.Proofs.YtjmacegibchplaaGreatDoor
open Go.RowKit Go.Maps Go.WideMaps
set_option linter.unusedVariables false
theorem cDigest (l : List UInt8) (w : World) (hs : l.length ≤ maxLen) :
    Calls Tryz.prog 23 #[.string (bs l)] w fun e w' => e = .returned (.string (bs (P.digest l))) ∧ Below w.heap.size w w' := by
  have h := textDigest_any (bs l) w (by rw [bs_size]; exact hs)
  rw [bs_data] at h
  go_enter Tryz.func23, Tryz.ntmps23
  go_wp2_with fail
  refine h.mono ?_
  rintro e w' ⟨rfl, hb⟩
  go_wp2_with fail
  go_ret
  exact ⟨rfl, hb⟩
end Go.Proofs.YtjmacegibchplaaGreatDoor

/-
  The statement on fetched trees (Rooted): its body.
-/
namespace Go.Proofs.YtjmacegibchplaaGreatDoor
open Go.RowKit Go.Maps Go.WideMaps
set_option linter.unusedVariables false
theorem row_neS {w : World} {base e1 s1 n1 b : Nat} {v1 : Value} {xs1 : List Value} {cur : Array Value} {e2 : TypeId} {fz : Nat × Nat} (h1 : w.ownsRow base e1 s1 v1 n1 xs1) (hb : w.heap[b]? = some (.cells cur e2 fz)) (hne : e1 ≠ e2) : v1.ownBlock ≠ some b := by
  intro hg
  rcases h1.2 with ⟨rfl, _⟩ | ⟨g', cap, cur', rfl, hb', hgg, _⟩
  · simp [Value.ownBlock] at hg
  · simp [Value.ownBlock] at hg
    subst hg
    rw [hb] at hgg
    simp at hgg
    exact hne hgg.2.1.symm
theorem CS.grown {w w' : World} {sb pb um n : Nat} {room : Int} {st : List (List UInt8 × List UInt8)} {base s1 n1 : Nat} {v1 : Value} {xs1 : List Value} (h : CS w sb pb um n room st) (ho : w.ownsRow base 9 s1 v1 n1 xs1) (hg : w.grownBy w' v1.ownBlock) : CS w' sb pb um n room st := by
  refine h.fr (S := fun x => v1.ownBlock = some x) (Fr.grown hg (fun g e => e)) (row_neS ho h.c (by decide)) (row_neS ho h.p.s (by decide)) ?_
  intro e
  rcases ho.2 with ⟨rfl, _⟩ | ⟨g', cap, cur', rfl, hb', hgg, _⟩
  · simp [Value.ownBlock] at e
  · simp [Value.ownBlock] at e
    subst e
    exact map_ne_cells h.p.m hgg rfl
theorem bytes_mem (l : List (List UInt8)) (x : List UInt8) (h : x ∈ l) : x.length ≤ bytesP l := by
  induction l with
  | nil => simp at h
  | cons y r ih =>
    simp only [bytesP]
    rcases List.mem_cons.1 h with rfl | h
    · omega
    · have := ih h; omega
end Go.Proofs.YtjmacegibchplaaGreatDoor
