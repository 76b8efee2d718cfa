import Derived.Test.YtjmacegibchplaaGreatDoorPathP
import Derived.Test.YtjmacegibchplaaGreatDoorShelf
import Derived.Test.YtjmacegibchplaaGreatDoorTreeF
import Derived.OwnWalk
import Derived.Test.YtjmacegibchplaaGreatDoorCards
import Derived.Test.YtjmacegibchplaaGreatDoorTie
import Derived.WalkKit
import Derived.ProofKit
import Derived.OpenShut
import Derived.Deep.DeepHandedRow
import Derived.Shelf.Vars
import Derived.Test.YtjmacegibchplaaGreatDoorReadA
import Derived.Deep.QuietTactic
import Derived.BigQuiet
import Derived.Deep.CutBlock
import Derived.Deep.DrawnRows
import Derived.Test.YtjmacegibchplaaGreatDoorRows
import Derived.Test.YtjmacegibchplaaGreatDoorTreeD
/-
  The program's tests of an entry, and how a path is parted: tree.Split, isPath, isData, isEntry, down, LeadsOut, byPath.
-/
namespace Go.Proofs.YtjmacegibchplaaGreatDoor
open Go.RowKit
set_option linter.unusedVariables false
set_option maxHeartbeats 1000000 in
theorem tsplit (p : List UInt8) (w : World) (h : p.length ≤ 1100000) :
    Calls Tryz.prog 99 #[.string (bs p)] w fun e w' => e = .returned (.tuple #[.string (bs (upPath p)), .string (bs (nameOf p))]) ∧ ∃ n, w' = w.drewN n := by
  have hc := Tryz.strings_LastIndexByte (bs p) 47 (by rw [bs_size]; omega) w
  have hsz := bs_size p
  rcases last_index p with ⟨h0, e⟩ | ⟨h1, e, hp⟩
  · rw [e] at hc
    obtain ⟨_, e2, e3⟩ := cut_none h0
    rw [e2, e3]
    clear e e2 e3 h0
    go_enter Tryz.func99, Tryz.ntmps99
    go_wp2_with (go_at_call 147; refine hc.mono ?_; rintro e w' ⟨rfl, rfl⟩)
    go_ret2
    exact ⟨rfl, 0, rfl⟩
  · rw [e] at hc
    generalize hu : upPath p = u at *
    generalize hn : nameOf p = n at *
    clear hu hn e h1
    have hl : p.length = u.length + n.length + 1 := by rw [hp]; simp; omega
    have x1 : (bs p).extract 0 u.length = bs u := by rw [extract_bs, hp]; simp
    have x2 : (bs p).extract (u.length + 1) p.length = bs n := by
      rw [extract_bs, hp]; simp
      rw [show u.length + (n.length + 1) - (u.length + 1) = n.length by omega, List.take_length]
    have q1 : (u.length : Int) ≤ (p.length : Int) := by omega
    have q2 : (u.length : Int) + 1 ≤ (p.length : Int) := by omega
    have q3 : ((u.length : Int) + 1).toNat = u.length + 1 := by omega
    have q4 : (0 : Int) ≤ (u.length : Int) + 1 := by omega
    clear hp hl
    go_enter Tryz.func99, Tryz.ntmps99
    go_wp2_with (go_at_call 147; refine hc.mono ?_; rintro e w' ⟨rfl, rfl⟩)
    go_quiet (fail)
    go_wp2
    go_ret2
    exact ⟨rfl, _, rfl⟩
def GlobOk (w : World) : Prop := ∃ m, w.cell? ⟨0, 0, none⟩ = some (.int .i64 m)
theorem GlobOk.below {B : Nat} {w w' : World} (h : GlobOk w) (hb : Below B w w') (hB : w.heap.size ≤ B) : GlobOk w' := by
  obtain ⟨m, hm⟩ := h
  exact ⟨m, (hb.cell (p := ⟨0, 0, none⟩) (Nat.lt_of_lt_of_le (World.block_lt_of_cell? _ _ hm) hB)).trans hm⟩
theorem pieces_bs (k : Nat) (s : List UInt8) : Lib.splitB ⟨#[47]⟩ 0 k (bs s) = (Lib.splitK [47] 0 k s).map bs := by
  have h := Lib.splitB_data ⟨#[47]⟩ 0 k (bs s)
  rw [bs_data] at h
  have h2 : (Lib.splitB ⟨#[47]⟩ 0 k (bs s)).map (fun x => bs x.data.toList) = (Lib.splitK [47] 0 k s).map bs := by
    rw [← h, List.map_map]; rfl
  simpa [bs_of] using h2
theorem countB_sp (s : List UInt8) : Lib.countB (bs s) ⟨#[47]⟩ + 1 = (sp s).length := by
  have : Lib.countB (bs s) ⟨#[47]⟩ = s.count 47 := by
    show Lib.count (bs s).data.toList [47] = _
    rw [bs_data, Lib.count_one]
  rw [this, sp_count]
theorem split_law (s : List UInt8) (w : World) (hg : GlobOk w) (hl : s.length ≤ 1100000) :
    Calls Tryz.prog 152 #[.string (bs s), .string ⟨#[47]⟩] w fun e w' => e = .returned (.slice (some ⟨w.heap.size, 0, none⟩) (sp s).length (sp s).length) ∧ TextsAt w' (some ⟨w.heap.size, 0, none⟩) (sp s) ∧ Below w.heap.size w w' := by
  obtain ⟨m, hm⟩ := hg
  have h := Tryz.strings_Split (bs s) ⟨#[47]⟩ m w (by rw [bs_size]; omega) hm (by decide)
  have hk := (splitK_sp (Lib.countB (bs s) ⟨#[47]⟩) s).2 (by rw [countB_sp]; exact Nat.le_refl _)
  rw [pieces_bs, hk, countB_sp] at h
  refine h.mono ?_
  rintro e w' ⟨rfl, rfl⟩
  refine ⟨rfl, .inr ⟨w.heap.size, 0, rfl, fun i hi => ?_⟩, (Below.refl _ _).alloc (Nat.le_refl _) _⟩
  rw [cell_of_block (heap_alloc_new w _)]
  simp [List.getElem?_eq_getElem hi, strVal]
theorem splitN_law (s : List UInt8) (w : World) (hg : GlobOk w) (hl : s.length ≤ 1100000) :
    Calls Tryz.prog 181 #[.string (bs s), .string ⟨#[47]⟩, .int .i64 6] w fun e w' => ∃ L cap, e = .returned (.slice (some ⟨w.heap.size, 0, none⟩) L.length cap) ∧ TextsAt w' (some ⟨w.heap.size, 0, none⟩) L ∧ Below w.heap.size w w' ∧ L.length = min 6 (sp s).length ∧ ((sp s).length ≤ 5 → L = sp s) := by
  obtain ⟨m, hm⟩ := hg
  have h := Tryz.strings_SplitN (bs s) ⟨#[47]⟩ 6 m w (by rw [bs_size]; omega) hm (by decide) (by decide) (by decide)
  rw [pieces_bs, bs_size] at h
  obtain ⟨h1, h2⟩ := splitK_sp (min 6 (s.length + 1) - 1) s
  have hle := sp_len s
  have hlen : (Lib.splitK [47] 0 (min 6 (s.length + 1) - 1) s).length = min 6 (sp s).length := by rw [h1]; omega
  have hL : (sp s).length ≤ 5 → Lib.splitK [47] 0 (min 6 (s.length + 1) - 1) s = sp s := fun h5 => h2 (by omega)
  have hcap : (Lib.splitK [47] 0 (min 6 (s.length + 1) - 1) s).length ≤ min 6 (s.length + 1) := by omega
  generalize Lib.splitK [47] 0 (min 6 (s.length + 1) - 1) s = L at *
  refine h.mono ?_
  rintro e w' ⟨rfl, rfl⟩
  refine ⟨L, min 6 (s.length + 1), by rw [List.length_map], .inr ⟨w.heap.size, 0, rfl, fun i hi => ?_⟩, (Below.refl _ _).alloc (Nat.le_refl _) _, hlen, hL⟩
  rw [cell_of_block (heap_alloc_new w _)]
  unfold Lib.cellsOf
  rw [Nat.zero_add, List.getElem?_toArray, List.getElem?_append_left (by simpa using hi)]
  simp [List.getElem?_eq_getElem hi, strVal]
def downP (x : List UInt8) : Int := if x = [] ∨ x = [46] then 0 else if x = [46, 46] then -1 else 1
theorem down_any (x : List UInt8) (w : World) :
    Calls Tryz.prog 153 #[.string (bs x)] w fun e w' => e = .returned (.int .i64 (downP x)) ∧ w' = w := by
  have s1 := str_eq x [46, 46]
  have s2 : (bs x).toList.isEmpty = x.isEmpty := by rw [ByteArray.toList_eq, bs_data]
  have s3 := str_eq x [46]
  by_cases h1 : x = []
  · subst h1
    have hd : downP [] = 0 := rfl
    rw [hd]
    go_enter Tryz.func153, Tryz.ntmps153
    go_wp2
    go_ret
    exact ⟨rfl, rfl⟩
  · have b2 : x.isEmpty = false := by cases x <;> simp_all
    rw [b2] at s2
    by_cases h3 : x = [46]
    · subst h3
      have hd : downP [46] = 0 := rfl
      rw [hd]
      go_enter Tryz.func153, Tryz.ntmps153
      go_wp2
      go_ret
      exact ⟨rfl, rfl⟩
    · have b3 : (x == [46]) = false := by simpa using h3
      rw [b3] at s3
      by_cases h4 : x = [46, 46]
      · subst h4
        have hd : downP [46, 46] = -1 := rfl
        rw [hd]
        go_enter Tryz.func153, Tryz.ntmps153
        go_wp2
        go_ret
        exact ⟨rfl, rfl⟩
      · have b4 : (x == [46, 46]) = false := by simpa using h4
        rw [b4] at s1
        have hd : downP x = 1 := by unfold downP; rw [if_neg (by simp [h1, h3]), if_neg h4]
        rw [hd]
        clear hd h1 h3 h4 b2 b3 b4
        go_enter Tryz.func153, Tryz.ntmps153
        go_wp2
        go_ret
        exact ⟨rfl, rfl⟩
end Go.Proofs.YtjmacegibchplaaGreatDoor

/-
  The listed variables: a world that holds them; the library's variable that is not listed.
-/
namespace Go.Proofs.YtjmacegibchplaaGreatDoor
open Go.ChangeShapes Go.WideShapes Go.ChangeAt Go.RowKit
set_option linter.unusedVariables false
theorem glob_of_shape {w : World} (h : w.ShapedOpen Tryz.prog) : GlobOk w :=
  cell_of_shapedOpen_int h (t := 3) (zero := #[.int .i64 0]) (k := .i64) (of_decide_eq_true (by kernel_rfl)) (by kernel_rfl) rfl (by kernel_rfl) (by kernel_rfl) Tryz.underlying3
def firstCells : List Value := Go.Pinned.utf8FirstZ.map fun (n : Nat) => Value.int .u8 (n : Int)
def acceptCells : List Value := (([128, 191, 160, 191, 128, 159, 144, 191, 128, 143] ++ List.replicate 22 0 : List Nat)).map fun (n : Nat) => Value.int .u8 (n : Int)
def putAt (cs : List Value) : Obj → Obj
  | .cells _ t frozen => .cells cs.toArray t frozen
  | o => o
def laidIn (w : World) : World :=
  { w with heap := (w.heap.modify 1 (putAt firstCells)).modify 2 (putAt acceptCells) }
theorem own : ownKnob Tryz.prog.godebug = none := by kernel_rfl
theorem laidOut : laidOutB Tryz.prog = true := by kernel_rfl
end Go.Proofs.YtjmacegibchplaaGreatDoor

/-
  A script is played (cellarlaw.plays), over whatever its steps and its looks keep.
-/
namespace Go.Proofs.YtjmacegibchplaaGreatDoor
open Go.RowKit Go.Maps Go.WideMaps
set_option linter.unusedVariables false
def CellsAt (w : World) (b p : Nat) (l : List Value) : Prop := ∀ (j : Nat) (v : Value), l[j]? = some v → w.cell? ⟨b, p + j, none⟩ = some v
set_option maxRecDepth 100000 in
set_option maxHeartbeats 4000000 in
theorem plays_of (w : World) (a : Option Addr) (n c : Nat) (hi : Int) (hn : n ≤ 200000) (R1 R2 R3 : World → Prop) (R T : Nat → World → Prop)
    (hnew : ∀ W0, w.alloc (.cells #[.int .i64 0, .bool false, .slice none 0 0, .slice none 0 0, .slice none 0 0, .slice none 0 0, .slice none 0 0, .slice none 0 0, .slice none 0 0, .slice none 0 0, .slice none 0 0, .slice none 0 0, .slice none 0 0, .slice none 0 0, .slice none 0 0] 90) = W0 →
      Calls Tryz.prog 49 #[.pointer (some ⟨w.heap.size, 0, none⟩), .agg #[.int .i64 1, .int .i64 0, .int .i64 1000, .int .i64 0, .string (bs []), .string (bs []), .slice none 0 0, .slice none 0 0, .int .i64 0, .int .i64 0, .slice none 0 0]] W0 fun e W' => e = .returned (.bool true) ∧ R1 W')
    (hnew2 : ∀ W, R1 W → Calls Tryz.prog 49 #[.pointer (some ⟨w.heap.size, 0, none⟩), .agg #[.int .i64 1, .int .i64 0, .int .i64 60, .int .i64 0, .string (bs []), .string (bs []), .slice none 0 0, .slice none 0 0, .int .i64 0, .int .i64 0, .slice none 0 0]] W fun e W' => e = .returned (.bool true) ∧ R2 W')
    (hps : ∀ W, R2 W → ∃ (aps : Option Addr) (cps : Nat) (cur : Array Value), W.heap[w.heap.size]? = some (.cells cur 90 (0, 0)) ∧ cur[8]? = some (.slice aps 2 cps))
    (hput : ∀ W, R2 W → Calls Tryz.prog 49 #[.pointer (some ⟨w.heap.size, 0, none⟩), .agg #[.int .i64 2, .int .i64 0, .int .i64 0, .int .i64 0, .string (bs [102, 105, 114, 115, 116]), .string (bs []), .slice none 0 0, .slice none 0 0, .int .i64 0, .int .i64 0, .slice none 0 0]] W fun e W' => e = .returned (.bool true) ∧ R3 W')
    (hget : ∀ W, R3 W → Calls Tryz.prog 49 #[.pointer (some ⟨w.heap.size, 0, none⟩), .agg #[.int .i64 3, .int .i64 0, .int .i64 0, .int .i64 0, .string (bs [48, 48, 49]), .string (bs []), .slice none 0 0, .slice none 0 0, .int .i64 0, .int .i64 0, .slice none 0 0]] W fun e W' => e = .returned (.bool true) ∧ R 0 W')
    (hround : ∀ k, k < n → ∃ (b s : Nat) (kd : Int) (v1 v2 v3 v4 v5 v6 v7 v8 v9 v10 : Value), a = some ⟨b, s, none⟩ ∧ (∀ W, R k W → CellsAt W b (s + k * 11) [.int .i64 kd, v1, v2, v3, v4, v5, v6, v7, v8, v9, v10]) ∧
      (hi < kd ∧ kd ≤ 7 → ∀ W, R k W → R (k + 1) W) ∧ (¬ (hi < kd ∧ kd ≤ 7) → ∀ W, R k W → Calls Tryz.prog 49 #[.pointer (some ⟨w.heap.size, 0, none⟩), .agg #[.int .i64 kd, v1, v2, v3, v4, v5, v6, v7, v8, v9, v10]] W fun e W' => e = .returned (.bool true) ∧ T k W'))
    (hlooks : ∀ k W, T k W → Calls Tryz.prog 50 #[.pointer (some ⟨w.heap.size, 0, none⟩)] W fun e W' => e = .returned (.bool true) ∧ R (k + 1) W') :
    Calls Tryz.prog 21 #[.slice a n c, .int .i64 hi] w fun e w' => e = .returned (.bool true) ∧ R n w' := by
  obtain ⟨W0, hW0⟩ : ∃ W0, w.alloc (.cells #[.int .i64 0, .bool false, .slice none 0 0, .slice none 0 0, .slice none 0 0, .slice none 0 0, .slice none 0 0, .slice none 0 0, .slice none 0 0, .slice none 0 0, .slice none 0 0, .slice none 0 0, .slice none 0 0, .slice none 0 0, .slice none 0 0] 90) = W0 := ⟨_, rfl⟩
  have H1 := hide (hnew W0 hW0)
  have HW0 := hide hW0
  have G2 := hide hnew2
  have G3 := hide hput
  have G4 := hide hget
  have G5 := hide hround
  have G6 := hide hlooks
  have G8 := hide hps
  clear hW0 hnew hnew2 hput hget hround hlooks hps
  go_enter Tryz.func21, Tryz.ntmps21
  go_wp2_with fail
  rw [unhide HW0]
  refine (unhide H1).mono ?_
  rintro e W1 ⟨rfl, r1⟩
  have H2 := hide (unhide G2 W1 r1)
  clear r1
  go_wp2_with fail
  refine (unhide H2).mono ?_
  rintro e W2 ⟨rfl, r2⟩
  obtain ⟨aps, cps, cur2, hwa2, h82⟩ := unhide G8 W2 r2
  have hwl2 := (Array.getElem?_eq_some_iff.1 hwa2).1
  have x82 := (cell_of_block (j := 8) hwa2).trans h82
  have H3 := hide (unhide G3 W2 r2)
  clear r2 hwa2 h82
  go_wp2_with fail
  refine (unhide H3).mono ?_
  rintro e W3 ⟨rfl, r3⟩
  have H4 := hide (unhide G4 W3 r3)
  clear r3
  go_wp2_with fail
  refine (unhide H4).mono ?_
  rintro e W4 ⟨rfl, r4⟩
  have Hst := hide r4
  clear r4 H1 H2 H3 H4 HW0 G2 G3 G4 G8 x82 hwl2
  go_wp2_with fail
  go_loopw [8] (fun i wr => ∃ k : Nat, k ≤ n ∧ i = .int .i64 k ∧ R k wr) (fun i _ => n - (intOf i).toNat)
  case atStart => exact ⟨0, by omega, rfl, unhide Hst⟩
  case round =>
    obtain ⟨k, hk, rfl, hr⟩ := hrel
    by_cases hlt : k < n
    · have q1 : (k : Int) < (n : Int) := by omega
      obtain ⟨b, s, kd, v1, v2, v3, v4, v5, v6, v7, v8, v9, v10, ea, hcs, hskip, hstep⟩ := unhide G5 k hlt
      subst ea
      have hop := hcs wr hr
      have x0 := hop 0 _ rfl
      have x1 := hop 1 _ rfl
      have x2 := hop 2 _ rfl
      have x3 := hop 3 _ rfl
      have x4 := hop 4 _ rfl
      have x5 := hop 5 _ rfl
      have x6 := hop 6 _ rfl
      have x7 := hop 7 _ rfl
      have x8 := hop 8 _ rfl
      have x9 := hop 9 _ rfl
      have x10 := hop 10 _ rfl
      have hbl := block_lt x0
      simp at x0
      have Hr := hide hr
      have Hc := hide hcs
      have Hskip := hide hskip
      have Hstep := hide hstep
      clear hr hcs hskip hstep hop
      by_cases hc : hi < kd
      · by_cases hc2 : kd ≤ 7
        · go_upto_region 13 with fail
          go_wp2_with fail
          exact ⟨⟨k + 1, by omega, by go_num, unhide Hskip ⟨hc, hc2⟩ _ (unhide Hr)⟩, by simp [intOf]; omega⟩
        · have H5 := hide (unhide Hstep (fun h => hc2 h.2) wr (unhide Hr))
          have c2 : decide (kd ≤ 7) = false := decide_eq_false hc2
          clear Hskip Hstep Hc Hr hc2 G5
          go_upto_region 13 with fail
          go_wp2_with fail
          refine (unhide H5).mono ?_
          rintro e W5 ⟨rfl, h5⟩
          have H6 := hide (unhide G6 k W5 h5)
          clear h5
          go_wp2_with fail
          refine (unhide H6).mono ?_
          rintro e W6 ⟨rfl, h6⟩
          have H7 := hide h6
          clear h6
          go_wp2_with fail
          exact ⟨⟨k + 1, by omega, by go_num, unhide H7⟩, by simp [intOf]; omega⟩
      · have H5 := hide (unhide Hstep (fun h => hc h.1) wr (unhide Hr))
        have c1 : decide (hi < kd) = false := decide_eq_false hc
        clear Hskip Hstep Hc Hr hc G5
        go_upto_region 13 with fail
        go_wp2_with fail
        refine (unhide H5).mono ?_
        rintro e W5 ⟨rfl, h5⟩
        have H6 := hide (unhide G6 k W5 h5)
        clear h5
        go_wp2_with fail
        refine (unhide H6).mono ?_
        rintro e W6 ⟨rfl, h6⟩
        have H7 := hide h6
        clear h6
        go_wp2_with fail
        exact ⟨⟨k + 1, by omega, by go_num, unhide H7⟩, by simp [intOf]; omega⟩
    · obtain rfl : k = n := by omega
      have Hr := hide hr
      clear hr
      go_wp2_with fail
      go_ret
      exact ⟨rfl, unhide Hr⟩
end Go.Proofs.YtjmacegibchplaaGreatDoor

/-
  A list of entries that comes in and is of bounded bulk: its paths and data are.
-/
namespace Go.Proofs.YtjmacegibchplaaGreatDoor
open Go.RowKit
set_option linter.unusedVariables false
theorem bulk_pos {H : Type} (d : DataW H) : 0 < Rows.uptoBulk d := by
  unfold Rows.uptoBulk
  split <;> omega
theorem bulk_len {H : Type} : ∀ l : List (DataW H), l.length ≤ Rows.uptoBulkAll l
  | [] => Nat.zero_le _
  | d :: l => by
    have h1 := bulk_pos d
    have h2 := bulk_len l
    rw [Rows.uptoBulkAll, List.length_cons]
    omega
theorem bulk_part {H : Type} {d : DataW H} {l : List (DataW H)} (h : d ∈ l) : Rows.uptoBulk d ≤ Rows.uptoBulkAll l := by
  obtain ⟨r, t, rfl⟩ := List.append_of_mem h
  clear h
  induction r with
  | nil => rw [List.nil_append, Rows.uptoBulkAll]; omega
  | cons e r ih => rw [List.cons_append, Rows.uptoBulkAll]; omega
set_option maxRecDepth 100000 in
theorem open_entryB {H : Type} {enc : TypeId × Value → H} {W : World} {base : Nat} {sp : Nat → Bool} {held : Bool} {fuel : Nat} {cs : List Value} {x : DataW H × List MemPlace}
    (h : DataW.trod enc Tryz.prog W base sp held fuel 32 cs = some x) : ∃ y : En, cs = enCells y ∧ EFits y ∧ y.path.size + y.data.size ≤ Rows.uptoBulk x.1 := by
  obtain ⟨xs, n, _, rfl, hl, hlen, hf⟩ := DataW.trod_struct Tryz.underlying32 h
  rw [cells_ent] at hl
  match cs, hl with
  | [v0, v1, v2], _ =>
    have h0 : DataW.trod enc Tryz.prog W base sp held n 9 (([v0, v1, v2].drop 0).take (Tryz.prog.cellsOf 9)) = xs[0]? := hf 0 _ rfl
    have h1 : DataW.trod enc Tryz.prog W base sp held n 3 (([v0, v1, v2].drop 1).take (Tryz.prog.cellsOf 3)) = xs[1]? := hf 1 _ rfl
    have h2 : DataW.trod enc Tryz.prog W base sp held n 9 (([v0, v1, v2].drop 2).take (Tryz.prog.cellsOf 9)) = xs[2]? := hf 2 _ rfl
    rw [cells_str] at h0 h2
    rw [cells_int] at h1
    match xs, hlen with
    | [y0, y1, y2], _ =>
      obtain ⟨s0, e0, r0, z0⟩ := DataW.trod_string Tryz.underlying9 h0
      obtain ⟨s1, e1, r1, z1⟩ := DataW.trod_int Tryz.underlying3 h1
      obtain ⟨s2, e2, r2, z2⟩ := DataW.trod_string Tryz.underlying9 h2
      simp at e0 e1 e2
      subst e0 e1 e2
      subst r0 r2
      refine ⟨⟨s0, s1, s2⟩, rfl, ⟨z0, z2⟩, ?_⟩
      simp only [List.map_cons, List.map_nil, Rows.uptoBulk, Rows.uptoBulkAll, Array.length_toList]
      show s0.data.size + s2.data.size ≤ _
      omega
set_option maxRecDepth 100000 in
theorem open_entriesB {H : Type} {enc : TypeId × Value → H} {W : World} {base : Nat} {sp : Nat → Bool} {held : Bool} {fuel : Nat} {a : Option Addr} {len cap : Nat} {x : DataW H × List MemPlace}
    (h : DataW.trod enc Tryz.prog W base sp held fuel 22 [.slice a len cap] = some x) (hk : Rows.uptoBulk x.1 ≤ 1048576) :
    ∃ l : List En, l.length = len ∧ LiesE W a l ∧ TFit l ∧ len ≤ 1048576 ∧ (a = none → l = [] ∧ cap = 0) := by
  rcases Deep.open_slice Tryz.underlying22 h with ⟨hcs, rfl⟩ | ⟨ad, len', cap', m, n, D, Pl, hcs, _, hl, hm, hmm, rfl, hel⟩
  · simp at hcs
    obtain ⟨rfl, rfl, rfl⟩ := hcs
    exact ⟨[], rfl, .inl rfl, fun i hi => absurd hi (by simp), by decide, fun _ => ⟨rfl, rfl⟩⟩
  · simp at hcs
    obtain ⟨rfl, rfl, rfl⟩ := hcs
    have hlm : len ≤ m := by rw [hmm]; split <;> omega
    simp only [Rows.uptoBulk] at hk
    have hln := bulk_len ((List.range len).map D)
    rw [List.length_map, List.length_range] at hln
    have hex : ∀ i, i < len → ∃ y : En, (EFits y ∧ y.path.size + y.data.size ≤ 1048576) ∧ ∀ j v, (enCells y)[j]? = some v → W.cell? ((ad.add (i * 3)).add j) = some v := by
      intro i hi
      obtain ⟨cs', hc, ht⟩ := hel i (by omega)
      obtain ⟨y, rfl, hy, hb⟩ := open_entryB ht
      rw [cells_ent] at hc
      obtain ⟨_, hlen, hcc⟩ := World.cells?_some hc
      have hp := bulk_part (d := D i) (l := (List.range len).map D) (List.mem_map.2 ⟨i, by simpa using hi, rfl⟩)
      simp only at hb
      refine ⟨y, ⟨hy, by omega⟩, fun j v hv => ?_⟩
      have hj : j < 3 := (List.getElem?_eq_some_iff.1 hv).1
      rw [← hv]
      exact hcc j hj
    obtain ⟨l, hll, hp⟩ := list_choose hex
    refine ⟨l, hll, ?_, fun i hi => ⟨by have := (hp i hi).1.2; omega, (hp i hi).1.1.data⟩, by omega, fun h => by simp at h⟩
    rcases Nat.eq_zero_or_pos len with h0 | hpos
    · left; exact List.eq_nil_of_length_eq_zero (by omega)
    · right
      obtain ⟨b, o, spot⟩ := ad
      have hc := (hp 0 (by omega)).2 0 _ rfl
      have hspot : spot = none := by simpa [Addr.add] using World.cell?_spot hc
      subst hspot
      refine ⟨b, o, rfl, EntsAt.of_row ?_⟩
      intro i hi j v hv
      have := (hp i hi).2 j v hv
      rw [add_off, add_off] at this
      exact this
end Go.Proofs.YtjmacegibchplaaGreatDoor
