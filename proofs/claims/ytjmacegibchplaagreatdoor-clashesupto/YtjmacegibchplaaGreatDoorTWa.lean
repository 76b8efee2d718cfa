/-
  The program's tests of an entry, and how a path is parted: tree.Split, isPath, isData, isEntry, down, LeadsOut, byPath.
-/
import Derived.Test.YtjmacegibchplaaGreatDoorPathP
import Derived.Test.YtjmacegibchplaaGreatDoorShelf
import Derived.Test.YtjmacegibchplaaGreatDoorTreeF
import Derived.OwnWalk
namespace Go.Proofs.YtjmacegibchplaaGreatDoor
open Go.RowKit
set_option linter.unusedVariables false

set_option maxHeartbeats 1000000 in
theorem tsplit (p : List UInt8) (w : World) (h : p.length ≤ 1100000) :
    Calls Tryz.prog 99 #[.string (bs p)] w fun e w' => e = .returned (.tuple #[.string (bs (upPath p)), .string (bs (nameOf p))]) ∧ ∃ n, w' = w.drewN n := by
  have hc := Tryz.strings_LastIndexByte (bs p) 47 (by rw [bs_size]; omega) w
  have hsz := bs_size p
  rcases last_index p with ⟨h0, e⟩ | ⟨h1, e, hp⟩
  · rw [e] at hc
    obtain ⟨_, e2, e3⟩ := cut_none h0
    rw [e2, e3]
    clear e e2 e3 h0
    go_enter Tryz.func99, Tryz.ntmps99
    go_wp2_with (go_at_call 147; refine hc.mono ?_; rintro e w' ⟨rfl, rfl⟩)
    go_ret2
    exact ⟨rfl, 0, rfl⟩
  · rw [e] at hc
    generalize hu : upPath p = u at *
    generalize hn : nameOf p = n at *
    clear hu hn e h1
    have hl : p.length = u.length + n.length + 1 := by rw [hp]; simp; omega
    have x1 : (bs p).extract 0 u.length = bs u := by rw [extract_bs, hp]; simp
    have x2 : (bs p).extract (u.length + 1) p.length = bs n := by
      rw [extract_bs, hp]; simp
      rw [show u.length + (n.length + 1) - (u.length + 1) = n.length by omega, List.take_length]
    have q1 : (u.length : Int) ≤ (p.length : Int) := by omega
    have q2 : (u.length : Int) + 1 ≤ (p.length : Int) := by omega
    have q3 : ((u.length : Int) + 1).toNat = u.length + 1 := by omega
    have q4 : (0 : Int) ≤ (u.length : Int) + 1 := by omega
    clear hp hl
    go_enter Tryz.func99, Tryz.ntmps99
    go_wp2_with (go_at_call 147; refine hc.mono ?_; rintro e w' ⟨rfl, rfl⟩)
    go_quiet (fail)
    go_wp2
    go_ret2
    exact ⟨rfl, _, rfl⟩
/-- the library's variable that a cut asks for -/
def GlobOk (w : World) : Prop := ∃ m, w.cell? ⟨0, 0, none⟩ = some (.int .i64 m)
theorem GlobOk.below {B : Nat} {w w' : World} (h : GlobOk w) (hb : Below B w w') (hB : w.heap.size ≤ B) : GlobOk w' := by
  obtain ⟨m, hm⟩ := h
  exact ⟨m, (hb.cell (p := ⟨0, 0, none⟩) (Nat.lt_of_lt_of_le (World.block_lt_of_cell? _ _ hm) hB)).trans hm⟩
theorem pieces_bs (k : Nat) (s : List UInt8) : Lib.splitB ⟨#[47]⟩ 0 k (bs s) = (Lib.splitK [47] 0 k s).map bs := by
  have h := Lib.splitB_data ⟨#[47]⟩ 0 k (bs s)
  rw [bs_data] at h
  have h2 : (Lib.splitB ⟨#[47]⟩ 0 k (bs s)).map (fun x => bs x.data.toList) = (Lib.splitK [47] 0 k s).map bs := by
    rw [← h, List.map_map]; rfl
  simpa [bs_of] using h2
theorem countB_sp (s : List UInt8) : Lib.countB (bs s) ⟨#[47]⟩ + 1 = (sp s).length := by
  have : Lib.countB (bs s) ⟨#[47]⟩ = s.count 47 := by
    show Lib.count (bs s).data.toList [47] = _
    rw [bs_data, Lib.count_one]
  rw [this, sp_count]
theorem split_law (s : List UInt8) (w : World) (hg : GlobOk w) (hl : s.length ≤ 1100000) :
    Calls Tryz.prog 152 #[.string (bs s), .string ⟨#[47]⟩] w fun e w' => e = .returned (.slice (some ⟨w.heap.size, 0, none⟩) (sp s).length (sp s).length) ∧ TextsAt w' (some ⟨w.heap.size, 0, none⟩) (sp s) ∧ Below w.heap.size w w' := by
  obtain ⟨m, hm⟩ := hg
  have h := Tryz.strings_Split (bs s) ⟨#[47]⟩ m w (by rw [bs_size]; omega) hm (by decide)
  have hk := (splitK_sp (Lib.countB (bs s) ⟨#[47]⟩) s).2 (by rw [countB_sp]; exact Nat.le_refl _)
  rw [pieces_bs, hk, countB_sp] at h
  refine h.mono ?_
  rintro e w' ⟨rfl, rfl⟩
  refine ⟨rfl, .inr ⟨w.heap.size, 0, rfl, fun i hi => ?_⟩, (Below.refl _ _).alloc (Nat.le_refl _) _⟩
  rw [cell_of_block (heap_alloc_new w _)]
  simp [List.getElem?_eq_getElem hi, strVal]
theorem splitN_law (s : List UInt8) (w : World) (hg : GlobOk w) (hl : s.length ≤ 1100000) :
    Calls Tryz.prog 181 #[.string (bs s), .string ⟨#[47]⟩, .int .i64 6] w fun e w' => ∃ L cap, e = .returned (.slice (some ⟨w.heap.size, 0, none⟩) L.length cap) ∧ TextsAt w' (some ⟨w.heap.size, 0, none⟩) L ∧ Below w.heap.size w w' ∧ L.length = min 6 (sp s).length ∧ ((sp s).length ≤ 5 → L = sp s) := by
  obtain ⟨m, hm⟩ := hg
  have h := Tryz.strings_SplitN (bs s) ⟨#[47]⟩ 6 m w (by rw [bs_size]; omega) hm (by decide) (by decide) (by decide)
  rw [pieces_bs, bs_size] at h
  obtain ⟨h1, h2⟩ := splitK_sp (min 6 (s.length + 1) - 1) s
  have hle := sp_len s
  have hlen : (Lib.splitK [47] 0 (min 6 (s.length + 1) - 1) s).length = min 6 (sp s).length := by rw [h1]; omega
  have hL : (sp s).length ≤ 5 → Lib.splitK [47] 0 (min 6 (s.length + 1) - 1) s = sp s := fun h5 => h2 (by omega)
  have hcap : (Lib.splitK [47] 0 (min 6 (s.length + 1) - 1) s).length ≤ min 6 (s.length + 1) := by omega
  generalize Lib.splitK [47] 0 (min 6 (s.length + 1) - 1) s = L at *
  refine h.mono ?_
  rintro e w' ⟨rfl, rfl⟩
  refine ⟨L, min 6 (s.length + 1), by rw [List.length_map], .inr ⟨w.heap.size, 0, rfl, fun i hi => ?_⟩, (Below.refl _ _).alloc (Nat.le_refl _) _, hlen, hL⟩
  rw [cell_of_block (heap_alloc_new w _)]
  unfold Lib.cellsOf
  rw [Nat.zero_add, List.getElem?_toArray, List.getElem?_append_left (by simpa using hi)]
  simp [List.getElem?_eq_getElem hi, strVal]
def downP (x : List UInt8) : Int := if x = [] ∨ x = [46] then 0 else if x = [46, 46] then -1 else 1
theorem down_any (x : List UInt8) (w : World) :
    Calls Tryz.prog 153 #[.string (bs x)] w fun e w' => e = .returned (.int .i64 (downP x)) ∧ w' = w := by
  have s1 := str_eq x [46, 46]
  have s2 : (bs x).toList.isEmpty = x.isEmpty := by rw [ByteArray.toList_eq, bs_data]
  have s3 := str_eq x [46]
  by_cases h1 : x = []
  · subst h1
    have hd : downP [] = 0 := rfl
    rw [hd]
    go_enter Tryz.func153, Tryz.ntmps153
    go_wp2
    go_ret
    exact ⟨rfl, rfl⟩
  · have b2 : x.isEmpty = false := by cases x <;> simp_all
    rw [b2] at s2
    by_cases h3 : x = [46]
    · subst h3
      have hd : downP [46] = 0 := rfl
      rw [hd]
      go_enter Tryz.func153, Tryz.ntmps153
      go_wp2
      go_ret
      exact ⟨rfl, rfl⟩
    · have b3 : (x == [46]) = false := by simpa using h3
      rw [b3] at s3
      by_cases h4 : x = [46, 46]
      · subst h4
        have hd : downP [46, 46] = -1 := rfl
        rw [hd]
        go_enter Tryz.func153, Tryz.ntmps153
        go_wp2
        go_ret
        exact ⟨rfl, rfl⟩
      · have b4 : (x == [46, 46]) = false := by simpa using h4
        rw [b4] at s1
        have hd : downP x = 1 := by unfold downP; rw [if_neg (by simp [h1, h3]), if_neg h4]
        rw [hd]
        clear hd h1 h3 h4 b2 b3 b4
        go_enter Tryz.func153, Tryz.ntmps153
        go_wp2
        go_ret
        exact ⟨rfl, rfl⟩
end Go.Proofs.YtjmacegibchplaaGreatDoor
