import Derived.Test.YtjmacegibchplaaGreatDoorPathP
import Derived.Test.YtjmacegibchplaaGreatDoorShelf
import Derived.Test.YtjmacegibchplaaGreatDoorTreeF
import Derived.OwnWalk
import Derived.Test.YtjmacegibchplaaGreatDoorCards
import Derived.Test.YtjmacegibchplaaGreatDoorTie
import Derived.WalkKit
import Derived.ProofKit
import Derived.OpenShut
import Derived.Deep.DeepHandedRow
import Derived.Shelf.Vars
namespace Go.Proofs.YtjmacegibchplaaGreatDoor
open Go.RowKit
set_option linter.unusedVariables false
set_option maxHeartbeats 1000000 in
theorem tsplit (p : List UInt8) (w : World) (h : p.length ≤ 1100000) :
  Calls Tryz.prog 99 #[.string (bs p)] w fun e w' => e = .returned (.tuple #[.string (bs (upPath p)), .string (bs (nameOf p))]) ∧ ∃ n, w' = w.drewN n := by
 have hc := Tryz.strings_LastIndexByte (bs p) 47 (by rw [bs_size]; omega) w
 have hsz := bs_size p
 rcases last_index p with ⟨h0, e⟩ | ⟨h1, e, hp⟩
 ·rw [e] at hc
  obtain ⟨_, e2, e3⟩ := cut_none h0
  rw [e2, e3]
  clear e e2 e3 h0
  go_enter Tryz.func99, Tryz.ntmps99
  go_wp2_with (go_at_call 147; refine hc.mono ?_; rintro e w' ⟨rfl, rfl⟩)
  go_ret2
  exact ⟨rfl, 0, rfl⟩
 ·rw [e] at hc
  generalize hu : upPath p = u at *
  generalize hn : nameOf p = n at *
  clear hu hn e h1
  have hl : p.length = u.length + n.length + 1 := by rw [hp]; simp; omega
  have x1 : (bs p).extract 0 u.length = bs u := by rw [extract_bs, hp]; simp
  have x2 : (bs p).extract (u.length + 1) p.length = bs n := by
   rw [extract_bs, hp]; simp
   rw [show u.length + (n.length + 1) - (u.length + 1) = n.length by omega, List.take_length]
  have q1 : (u.length : Int) ≤ (p.length : Int) := by omega
  have q2 : (u.length : Int) + 1 ≤ (p.length : Int) := by omega
  have q3 : ((u.length : Int) + 1).toNat = u.length + 1 := by omega
  have q4 : (0 : Int) ≤ (u.length : Int) + 1 := by omega
  clear hp hl
  go_enter Tryz.func99, Tryz.ntmps99
  go_wp2_with (go_at_call 147; refine hc.mono ?_; rintro e w' ⟨rfl, rfl⟩)
  go_quiet (fail)
  go_wp2
  go_ret2
  exact ⟨rfl, _, rfl⟩
def GlobOk (w : World) : Prop := ∃ m, w.cell? ⟨0, 0, none⟩ = some (.int .i64 m)
theorem GlobOk.below {B : Nat} {w w' : World} (h : GlobOk w) (hb : Below B w w') (hB : w.heap.size ≤ B) : GlobOk w' := by
 obtain ⟨m, hm⟩ := h
 exact ⟨m, (hb.cell (p := ⟨0, 0, none⟩) (Nat.lt_of_lt_of_le (World.block_lt_of_cell? _ _ hm) hB)).trans hm⟩
theorem pieces_bs (k : Nat) (s : List UInt8) : Lib.splitB ⟨#[47]⟩ 0 k (bs s) = (Lib.splitK [47] 0 k s).map bs := by
 have h := Lib.splitB_data ⟨#[47]⟩ 0 k (bs s)
 rw [bs_data] at h
 have h2 : (Lib.splitB ⟨#[47]⟩ 0 k (bs s)).map (fun x => bs x.data.toList) = (Lib.splitK [47] 0 k s).map bs := by
  rw [← h, List.map_map]; rfl
 simpa [bs_of] using h2
theorem countB_sp (s : List UInt8) : Lib.countB (bs s) ⟨#[47]⟩ + 1 = (sp s).length := by
 have : Lib.countB (bs s) ⟨#[47]⟩ = s.count 47 := by
  show Lib.count (bs s).data.toList [47] = _
  rw [bs_data, Lib.count_one]
 rw [this, sp_count]
theorem split_law (s : List UInt8) (w : World) (hg : GlobOk w) (hl : s.length ≤ 1100000) :
  Calls Tryz.prog 152 #[.string (bs s), .string ⟨#[47]⟩] w fun e w' => e = .returned (.slice (some ⟨w.heap.size, 0, none⟩) (sp s).length (sp s).length) ∧ TextsAt w' (some ⟨w.heap.size, 0, none⟩) (sp s) ∧ Below w.heap.size w w' := by
 obtain ⟨m, hm⟩ := hg
 have h := Tryz.strings_Split (bs s) ⟨#[47]⟩ m w (by rw [bs_size]; omega) hm (by decide)
 have hk := (splitK_sp (Lib.countB (bs s) ⟨#[47]⟩) s).2 (by rw [countB_sp]; exact Nat.le_refl _)
 rw [pieces_bs, hk, countB_sp] at h
 refine h.mono ?_
 rintro e w' ⟨rfl, rfl⟩
 refine ⟨rfl, .inr ⟨w.heap.size, 0, rfl, fun i hi => ?_⟩, (Below.refl _ _).alloc (Nat.le_refl _) _⟩
 rw [cell_of_block (heap_alloc_new w _)]
 simp [List.getElem?_eq_getElem hi, strVal]
theorem splitN_law (s : List UInt8) (w : World) (hg : GlobOk w) (hl : s.length ≤ 1100000) :
  Calls Tryz.prog 181 #[.string (bs s), .string ⟨#[47]⟩, .int .i64 6] w fun e w' => ∃ L cap, e = .returned (.slice (some ⟨w.heap.size, 0, none⟩) L.length cap) ∧ TextsAt w' (some ⟨w.heap.size, 0, none⟩) L ∧ Below w.heap.size w w' ∧ L.length = min 6 (sp s).length ∧ ((sp s).length ≤ 5 → L = sp s) := by
 obtain ⟨m, hm⟩ := hg
 have h := Tryz.strings_SplitN (bs s) ⟨#[47]⟩ 6 m w (by rw [bs_size]; omega) hm (by decide) (by decide) (by decide)
 rw [pieces_bs, bs_size] at h
 obtain ⟨h1, h2⟩ := splitK_sp (min 6 (s.length + 1) - 1) s
 have hle := sp_len s
 have hlen : (Lib.splitK [47] 0 (min 6 (s.length + 1) - 1) s).length = min 6 (sp s).length := by rw [h1]; omega
 have hL : (sp s).length ≤ 5 → Lib.splitK [47] 0 (min 6 (s.length + 1) - 1) s = sp s := fun h5 => h2 (by omega)
 have hcap : (Lib.splitK [47] 0 (min 6 (s.length + 1) - 1) s).length ≤ min 6 (s.length + 1) := by omega
 generalize Lib.splitK [47] 0 (min 6 (s.length + 1) - 1) s = L at *
 refine h.mono ?_
 rintro e w' ⟨rfl, rfl⟩
 refine ⟨L, min 6 (s.length + 1), by rw [List.length_map], .inr ⟨w.heap.size, 0, rfl, fun i hi => ?_⟩, (Below.refl _ _).alloc (Nat.le_refl _) _, hlen, hL⟩
 rw [cell_of_block (heap_alloc_new w _)]
 unfold Lib.cellsOf
 rw [Nat.zero_add, List.getElem?_toArray, List.getElem?_append_left (by simpa using hi)]
 simp [List.getElem?_eq_getElem hi, strVal]
def downP (x : List UInt8) : Int := if x = [] ∨ x = [46] then 0 else if x = [46, 46] then -1 else 1
theorem down_any (x : List UInt8) (w : World) :
  Calls Tryz.prog 153 #[.string (bs x)] w fun e w' => e = .returned (.int .i64 (downP x)) ∧ w' = w := by
 have s1 := str_eq x [46, 46]
 have s2 : (bs x).toList.isEmpty = x.isEmpty := by rw [ByteArray.toList_eq, bs_data]
 have s3 := str_eq x [46]
 by_cases h1 : x = []
 ·subst h1
  have hd : downP [] = 0 := rfl
  rw [hd]
  go_enter Tryz.func153, Tryz.ntmps153
  go_wp2
  go_ret
  exact ⟨rfl, rfl⟩
 ·have b2 : x.isEmpty = false := by cases x <;> simp_all
  rw [b2] at s2
  by_cases h3 : x = [46]
  ·subst h3
   have hd : downP [46] = 0 := rfl
   rw [hd]
   go_enter Tryz.func153, Tryz.ntmps153
   go_wp2
   go_ret
   exact ⟨rfl, rfl⟩
  ·have b3 : (x == [46]) = false := by simpa using h3
   rw [b3] at s3
   by_cases h4 : x = [46, 46]
   ·subst h4
    have hd : downP [46, 46] = -1 := rfl
    rw [hd]
    go_enter Tryz.func153, Tryz.ntmps153
    go_wp2
    go_ret
    exact ⟨rfl, rfl⟩
   ·have b4 : (x == [46, 46]) = false := by simpa using h4
    rw [b4] at s1
    have hd : downP x = 1 := by unfold downP; rw [if_neg (by simp [h1, h3]), if_neg h4]
    rw [hd]
    clear hd h1 h3 h4 b2 b3 b4
    go_enter Tryz.func153, Tryz.ntmps153
    go_wp2
    go_ret
    exact ⟨rfl, rfl⟩
end Go.Proofs.YtjmacegibchplaaGreatDoor
namespace Go.Proofs.YtjmacegibchplaaGreatDoor
open Go.ChangeShapes Go.WideShapes Go.ChangeAt Go.RowKit
set_option linter.unusedVariables false
theorem glob_of_shape {w : World} (h : w.ShapedOpen Tryz.prog) : GlobOk w :=
 cell_of_shapedOpen_int h (t := 3) (zero := #[.int .i64 0]) (k := .i64) (of_decide_eq_true (by kernel_rfl)) (by kernel_rfl) rfl (by kernel_rfl) (by kernel_rfl) Tryz.underlying3
def firstCells : List Value := Go.Pinned.utf8FirstZ.map fun (n : Nat) => Value.int .u8 (n : Int)
def acceptCells : List Value := (([128, 191, 160, 191, 128, 159, 144, 191, 128, 143] ++ List.replicate 22 0 : List Nat)).map fun (n : Nat) => Value.int .u8 (n : Int)
def putAt (cs : List Value) : Obj → Obj
 | .cells _ t frozen => .cells cs.toArray t frozen
 | o => o
def laidIn (w : World) : World :=
 { w with heap := (w.heap.modify 1 (putAt firstCells)).modify 2 (putAt acceptCells) }
theorem own : ownKnob Tryz.prog.godebug = none := by kernel_rfl
theorem laidOut : laidOutB Tryz.prog = true := by kernel_rfl
end Go.Proofs.YtjmacegibchplaaGreatDoor
namespace Go.Proofs.YtjmacegibchplaaGreatDoor
set_option linter.unusedVariables false
def pre (d : List UInt8) : List UInt8 := if d = [] then [] else d ++ [47]
theorem pre_nil : pre [] = [] := rfl
theorem pre_some {d : List UInt8} (h : d ≠ []) : pre d = d ++ [47] := if_neg h
theorem pre_dir (d : List UInt8) : DirPath (pre d) := by
 by_cases h : d = []
 ·exact .inl (by rw [h]; rfl)
 ·exact .inr ⟨d, pre_some h⟩
theorem pre_len (d : List UInt8) : d.length ≤ (pre d).length := by
 by_cases h : d = []
 ·rw [h]; simp
 ·rw [pre_some h]; simp
def pathAt (l : List En) (i : Nat) : List UInt8 := (l.getD i en0).path.data.toList
def upAt (l : List En) (i : Nat) : List UInt8 := upPath (pathAt l i)
def kindAt (l : List En) (i : Nat) : Int := (l.getD i en0).kind
theorem part_ne (l : List En) (ht : Tree l) (i : Nat) (h : i < l.length) (n : List UInt8) (hn : n ∈ sp (pathAt l i)) : n ≠ [] := by
 unfold pathAt at hn
 rw [en_getD l i h] at hn
 have := fineP_name l i h (ht.fine i h) n hn
 intro e
 subst e
 simp [P.isName] at this
theorem name_ne (l : List En) (ht : Tree l) (i : Nat) (h : i < l.length) : nameOf (pathAt l i) ≠ [] := by
 refine part_ne l ht i h _ ?_
 rcases cut_cases (pathAt l i) with ⟨_, e1, _, e3⟩ | ⟨a, n, _, _, e1, _, e3⟩
 ·rw [e1, e3]; simp
 ·rw [e1, e3]; simp
theorem up_ne (l : List En) (ht : Tree l) (i : Nat) (h : i < l.length) (a n : List UInt8) (e : pathAt l i = a ++ 47 :: n) : a ≠ [] := by
 intro h0
 subst h0
 exact part_ne l ht i h [] (by rw [e]; simp [sp]) rfl
theorem path_ne (l : List En) (ht : Tree l) (i : Nat) (h : i < l.length) : pathAt l i ≠ [] := by
 intro e
 exact part_ne l ht i h [] (by rw [e]; simp [sp]) rfl
theorem path_pre (l : List En) (ht : Tree l) (i : Nat) (h : i < l.length) : pathAt l i = pre (upAt l i) ++ nameOf (pathAt l i) := by
 unfold upAt
 rcases cut_cases (pathAt l i) with ⟨_, _, e2, e3⟩ | ⟨a, n, e, _, _, e2, e3⟩
 ·rw [e2, e3]; rfl
 ·rw [e2, e3, pre_some (up_ne l ht i h a n e), e]; simp
theorem kid_pre (l : List En) (ht : Tree l) (i : Nat) (h : i < l.length) (d n : List UInt8) : kid (pre d) (pathAt l i) = some n ↔ upAt l i = d ∧ n = nameOf (pathAt l i) := by
 constructor
 ·intro hk
  obtain ⟨e, hn, h47⟩ := kid_some hk
  unfold upAt
  by_cases hd : d = []
  ·subst hd
   rw [pre_nil, List.nil_append] at e
   obtain ⟨_, e2, e3⟩ := cut_none (p := pathAt l i) (by rw [e]; exact h47)
   exact ⟨e2, by rw [e3, e]⟩
  ·rw [pre_some hd] at e
   have e' : pathAt l i = d ++ 47 :: n := by rw [e]; simp
   obtain ⟨_, e2, e3⟩ := cut_some d n h47
   rw [e']; exact ⟨e2, e3.symm⟩
 ·rintro ⟨rfl, rfl⟩
  have e := path_pre l ht i h
  have hn := name_ne l ht i h
  have h47 := name_no (pathAt l i)
  generalize nameOf (pathAt l i) = n at *
  generalize pre (upAt l i) = q at *
  rw [e]
  unfold kid
  have hpos := List.length_pos_iff.2 hn
  rw [if_pos ⟨by simp; omega, by simp, by simpa using h47⟩]
  simp
def kidsP (l : List En) (d : List UInt8) : List Nat := insP l (pre d)
theorem kids_iff (l : List En) (ht : Tree l) (d : List UInt8) (i : Nat) : i ∈ kidsP l d ↔ i < l.length ∧ upAt l i = d := by
 unfold kidsP
 rw [insP_iff l ht]
 constructor
 ·rintro ⟨h, n, hk⟩
  rw [← en_getD l i h] at hk
  exact ⟨h, ((kid_pre l ht i h d n).1 hk).1⟩
 ·rintro ⟨h, hu⟩
  refine ⟨h, nameOf (pathAt l i), ?_⟩
  rw [← en_getD l i h]
  exact (kid_pre l ht i h d _).2 ⟨hu, rfl⟩
theorem nm_up (l : List En) (ht : Tree l) (i : Nat) (h : i < l.length) : nm l (pre (upAt l i)) i = nameOf (pathAt l i) := by
 have e := path_pre l ht i h
 unfold nm
 show (pathAt l i).drop _ = _
 generalize nameOf (pathAt l i) = n at *
 rw [e, List.drop_left]
def walkP (l : List En) : Nat → List UInt8 → List Nat
 | 0, _ => []
 | f + 1, d => (kidsP l d).flatMap fun i => (if kindAt l i = 0 then walkP l f (pathAt l i) else []) ++ [i]
def blk (l : List En) (f : Nat) (i : Nat) : List Nat := (if kindAt l i = 0 then walkP l f (pathAt l i) else []) ++ [i]
theorem walk_succ (l : List En) (f : Nat) (d : List UInt8) : walkP l (f + 1) d = (kidsP l d).flatMap (blk l f) := rfl
def Under (d u : List UInt8) : Prop := pre d <+: u ++ [47]
theorem under_self (d : List UInt8) : Under d d := by
 unfold Under
 by_cases h : d = []
 ·rw [h, pre_nil]; exact List.nil_prefix
 ·rw [pre_some h]; exact List.prefix_refl _
theorem under_kid (l : List En) (ht : Tree l) (d u : List UInt8) (i : Nat) (hi : i ∈ kidsP l d) (h : Under (pathAt l i) u) : Under d u := by
 obtain ⟨hl, hu⟩ := (kids_iff l ht d i).1 hi
 unfold Under at h ⊢
 rw [pre_some (path_ne l ht i hl)] at h
 refine List.IsPrefix.trans ?_ h
 have e := path_pre l ht i hl
 rw [hu] at e
 rw [e, List.append_assoc]
 exact List.prefix_append _ _
theorem walk_lt (l : List En) (ht : Tree l) : ∀ f d i, i ∈ walkP l f d → i < l.length ∧ Under d (upAt l i)
 | 0, _, _, h => by simp [walkP] at h
 | f + 1, d, i, h => by
  rw [walk_succ] at h
  simp only [List.mem_flatMap, blk, List.mem_append, List.mem_singleton] at h
  obtain ⟨k, hk, hi⟩ := h
  rcases hi with hi | rfl
  ·split at hi
   ·obtain ⟨h1, h2⟩ := walk_lt l ht f _ i hi
    exact ⟨h1, under_kid l ht d _ k hk h2⟩
   ·simp at hi
  ·obtain ⟨h1, h2⟩ := (kids_iff l ht d i).1 hk
   exact ⟨h1, by rw [h2]; exact under_self d⟩
theorem under_len (l : List En) (ht : Tree l) (d : List UInt8) (i : Nat) (hi : i ∈ kidsP l d) (u : List UInt8) (h : Under (pathAt l i) u) : u ≠ d := by
 obtain ⟨hl, hu⟩ := (kids_iff l ht d i).1 hi
 intro e
 subst e
 unfold Under at h
 rw [pre_some (path_ne l ht i hl)] at h
 have h1 := h.length_le
 have h2 : (pathAt l i).length = (pre u).length + (nameOf (pathAt l i)).length := by
  have e := path_pre l ht i hl
  rw [hu] at e
  exact (congrArg List.length e).trans (by simp)
 have h3 := List.length_pos_iff.2 (name_ne l ht i hl)
 have h4 := pre_len u
 simp at h1
 omega
theorem slash_prefix (n m V : List UInt8) (hn : P.has n 47 = false) (hm : P.has m 47 = false) (h1 : n ++ [47] <+: V) (h2 : m ++ [47] <+: V) : n = m := by
 have key : ∀ n m : List UInt8, P.has m 47 = false → n ++ [47] <+: m ++ [47] → n = m := by
  intro n m hm h
  rcases List.prefix_concat_iff.1 h with e | e
  ·exact List.append_cancel_right e
  ·exact absurd (e.subset (by simp : (47 : UInt8) ∈ n ++ [47])) (has_false.1 hm)
 rcases Nat.le_total (n ++ [47]).length (m ++ [47]).length with h | h
 ·exact key n m hm (List.prefix_of_prefix_length_le h1 h2 h)
 ·exact (key m n hn (List.prefix_of_prefix_length_le h2 h1 h)).symm
theorem under_apart (l : List En) (ht : Tree l) (d u : List UInt8) (i j : Nat) (hi : i ∈ kidsP l d) (hj : j ∈ kidsP l d) (h1 : Under (pathAt l i) u) (h2 : Under (pathAt l j) u) : i = j := by
 obtain ⟨hil, hiu⟩ := (kids_iff l ht d i).1 hi
 obtain ⟨hjl, hju⟩ := (kids_iff l ht d j).1 hj
 have ei := path_pre l ht i hil
 have ej := path_pre l ht j hjl
 rw [hiu] at ei
 rw [hju] at ej
 unfold Under at h1 h2
 rw [pre_some (path_ne l ht i hil)] at h1
 rw [pre_some (path_ne l ht j hjl)] at h2
 have hni := name_no (pathAt l i)
 have hnj := name_no (pathAt l j)
 have hp : pathAt l i = pathAt l j := by
  generalize nameOf (pathAt l i) = n at *
  generalize nameOf (pathAt l j) = m at *
  rw [ei] at h1 ⊢
  rw [ej] at h2 ⊢
  obtain ⟨r1, e1⟩ := h1
  obtain ⟨r2, e2⟩ := h2
  have : n ++ [47] ++ r1 = m ++ [47] ++ r2 := by
   have := e1.trans e2.symm
   simp only [List.append_assoc] at this ⊢
   exact List.append_cancel_left this
  have hnm := slash_prefix n m _ hni hnj ⟨r1, rfl⟩ ⟨r2, this.symm⟩
  rw [hnm]
 refine tree_inj l ht i j hil hjl ?_
 rw [← en_getD l i hil, ← en_getD l j hjl]
 exact hp
theorem filter_blocks {α : Type} (p : α → Bool) (g : α → List α) : ∀ (L : List α), (∀ k ∈ L, (g k).filter p = [k]) → (L.flatMap g).filter p = L
 | [], _ => rfl
 | k :: L, h => by
  rw [List.flatMap_cons, List.filter_append, h k (by simp), filter_blocks p g L (fun x hx => h x (by simp [hx]))]; rfl
theorem walk_filter (l : List En) (ht : Tree l) (f : Nat) (d : List UInt8) : (walkP l (f + 1) d).filter (fun i => upAt l i == d) = kidsP l d := by
 rw [walk_succ]
 refine filter_blocks _ _ _ fun k hk => ?_
 unfold blk
 rw [List.filter_append]
 have h1 : (if kindAt l k = 0 then walkP l f (pathAt l k) else []).filter (fun i => upAt l i == d) = [] := by
  rw [List.filter_eq_nil_iff]
  intro i hi
  split at hi
  ·have := under_len l ht d k hk _ (walk_lt l ht f _ i hi).2
   simpa using this
  ·simp at hi
 have h2 := ((kids_iff l ht d k).1 hk).2
 rw [h1]
 simp [h2]
theorem walk_mono (l : List En) : ∀ f d i, i ∈ walkP l f d → i ∈ walkP l (f + 1) d
 | 0, _, _, h => by simp [walkP] at h
 | f + 1, d, i, h => by
  rw [walk_succ] at h ⊢
  simp only [List.mem_flatMap, blk, List.mem_append, List.mem_singleton] at h ⊢
  obtain ⟨k, hk, hi⟩ := h
  refine ⟨k, hk, hi.imp (fun hi => ?_) id⟩
  split at hi
  ·rename_i h0; rw [if_pos h0]; exact walk_mono l f _ i hi
  ·simp at hi
theorem walk_step (l : List En) : ∀ f d i j, i ∈ walkP l f d → kindAt l i = 0 → j ∈ kidsP l (pathAt l i) → j ∈ walkP l (f + 1) d
 | 0, _, _, _, h, _, _ => by simp [walkP] at h
 | f + 1, d, i, j, h, h0, hj => by
  rw [walk_succ] at h ⊢
  simp only [List.mem_flatMap, blk, List.mem_append, List.mem_singleton] at h ⊢
  obtain ⟨k, hk, hi⟩ := h
  rcases hi with hi | rfl
  ·refine ⟨k, hk, .inl ?_⟩
   split at hi
   ·rename_i hk0; rw [if_pos hk0]; exact walk_step l f _ i j hi h0 hj
   ·simp at hi
  ·refine ⟨i, hk, .inl ?_⟩
   rw [if_pos h0, walk_succ]
   simp only [List.mem_flatMap, blk, List.mem_append, List.mem_singleton]
   exact ⟨j, hj, .inr rfl⟩
theorem walk_deep (l : List En) (ht : Tree l) : ∀ m i, i < l.length → (sp (pathAt l i)).length ≤ m + 1 → i ∈ walkP l (m + 1) []
 | 0, i, h, hs => by
  rcases cut_cases (pathAt l i) with ⟨_, _, e2, _⟩ | ⟨a, n, e, _, e1, _, _⟩
  ·rw [walk_succ]
   simp only [List.mem_flatMap, blk, List.mem_append, List.mem_singleton]
   exact ⟨i, (kids_iff l ht [] i).2 ⟨h, e2⟩, .inr rfl⟩
  ·have := List.length_pos_iff.2 (sp_ne a)
   rw [e1] at hs; simp at hs; exact absurd hs (sp_ne a)
 | m + 1, i, h, hs => by
  rcases cut_cases (pathAt l i) with ⟨_, e1, _, _⟩ | ⟨a, n, e, _, e1, e2, _⟩
  ·exact walk_mono l _ _ i (walk_deep l ht m i h (by rw [e1]; simp))
  ·have hf := ht.fine i h
   have hup : upBad l (pathAt l i) = false := by
    simp only [fineP, Bool.and_eq_true, Bool.not_eq_true'] at hf
    exact hf.1.2
   have h2 : ¬ (sp (pathAt l i)).length ≤ 1 := by
    rw [e1]
    have := List.length_pos_iff.2 (sp_ne a)
    simp; exact sp_ne a
   unfold upBad at hup
   rw [if_neg h2, e2] at hup
   by_cases hneg : findP l a < 0
   ·rw [if_pos hneg] at hup; simp at hup
   ·rw [if_neg hneg] at hup
    have hk0 : (l.getD (findP l a).toNat en0).kind = 0 := by simpa using hup
    unfold findP at hneg hk0
    split at hneg
    ·rename_i j hj
     rw [hj] at hk0
     simp only [Int.toNat_natCast] at hk0
     rw [List.findIdx?_eq_some_iff_getElem] at hj
     obtain ⟨hjl, hjp, _⟩ := hj
     have hpj : pathAt l j = a := by
      unfold pathAt; rw [en_getD l j hjl]; simpa using hjp
     refine walk_step l (m + 1) [] j i (walk_deep l ht m j hjl ?_) hk0 ((kids_iff l ht _ i).2 ⟨h, by rw [hpj]; exact e2⟩)
     rw [hpj]
     rw [e1] at hs
     simpa using hs
    ·simp at hneg
theorem walk_all (l : List En) (ht : Tree l) (i : Nat) : i ∈ walkP l 6 [] ↔ i < l.length := by
 refine ⟨fun h => (walk_lt l ht 6 [] i h).1, fun h => walk_mono l 5 [] i (walk_deep l ht 4 i h ?_)⟩
 have hf := ht.fine i h
 simp only [fineP, Bool.and_eq_true, decide_eq_true_eq] at hf
 exact hf.1.1.1.1
def itemQ (l : List En) (i : Nat) : P.It := itemP l (pre (upAt l i)) (blobP l 6) i
theorem dep_kid (l : List En) (ht : Tree l) (d : List UInt8) (i : Nat) (hi : i ∈ kidsP l d) : dep (pre (pathAt l i)) = dep (pre d) + 1 ∧ dep (pre d) + 1 ≤ 5 := by
 have h := dep_next l ht (pre d) i hi
 have hl := ((kids_iff l ht d i).1 hi).1
 rw [pre_some (path_ne l ht i hl)]
 exact h
theorem itemsQ (l : List En) (ht : Tree l) (d : List UInt8) : (kidsP l d).map (itemQ l) = itemsP l (pre d) (blobP l 5) := by
 unfold itemsP kidsP
 refine List.map_congr_left fun i hi => ?_
 have hu := ((kids_iff l ht d i).1 hi).2
 obtain ⟨h1, h2⟩ := dep_next l ht (pre d) i hi
 have hb := blob_fuel l ht 6 5 ((l.getD i en0).path.data.toList ++ [47]) (by omega) (by omega) (by omega)
 unfold itemQ
 rw [hu]
 simp only [itemP, hb]
theorem blob_dir (l : List En) (ht : Tree l) (d : List UInt8) : blobP l 6 (pre d) = dirBytes ((kidsP l d).map (itemQ l)) := by
 rw [itemsQ l ht]; rfl
theorem kids_ok (l : List En) (ht : Tree l) (d : List UInt8) : dirOk ((kidsP l d).map (itemQ l)) = true := by
 rw [itemsQ l ht]; exact items_dirOk l ht 5 (pre d) (pre_dir d)
def pth (e : En) : List UInt8 := e.path.data.toList
theorem dir_each (l : List P.It) (h : dirOk l = true) (x : P.It) (hx : x ∈ l) : P.itemOk x = true := by
 obtain ⟨k, hk, rfl⟩ := List.mem_iff_getElem.1 hx
 exact ok_of_dirOk l h k hk
theorem item_name (x : P.It) (h : P.itemOk x = true) : P.isName x.name.data.toList = true := by
 simp only [P.itemOk, Bool.and_eq_true] at h
 exact h.1
theorem isName_ne {n : List UInt8} (h : P.isName n = true) : n ≠ [] := by
 rintro rfl
 simp [P.isName] at h
theorem isName_no {n : List UInt8} (h : P.isName n = true) : P.has n 47 = false := by
 simp only [P.isName, Bool.and_eq_true, Bool.not_eq_true'] at h
 exact h.1.1.1.2
def blobS (S : List UInt8 → Option (List UInt8)) (d : List UInt8) : Int × List UInt8 :=
 match S d with
 | none => (7, [])
 | some b => if P.digest b = d then (0, b) else (8, [])
def fetItems (S : List UInt8 → Option (List UInt8)) (ents dep : Int) (rec : List UInt8 → List UInt8 → List En → Int × List En) (d : List UInt8) (deep : Int) : List P.It → List En → Int × List En
 | [], out => (0, out)
 | x :: r, out =>
  if ents < (out.length : Int) + 1 ∨ dep < deep ∨ out.length = 40 ∨ 5 < deep then (9, out)
  else if x.kind = 3 then
   if outP (deep - 1) x.tgt.data.toList = true then (8, out)
   else fetItems S ents dep rec d deep r (out ++ [⟨bs (pre d ++ x.name.data.toList), 3, x.tgt⟩])
  else if (blobS S x.dig.data.toList).1 ≠ 0 then ((blobS S x.dig.data.toList).1, out)
  else if ((blobS S x.dig.data.toList).2.length : Int) ≠ x.size ∨ (x.kind ≠ 0 ∧ 60 < (blobS S x.dig.data.toList).2.length) then (8, out)
  else if x.kind ≠ 0 then fetItems S ents dep rec d deep r (out ++ [⟨bs (pre d ++ x.name.data.toList), x.kind, bs (blobS S x.dig.data.toList).2⟩])
  else
   let q := rec (blobS S x.dig.data.toList).2 (pre d ++ x.name.data.toList) (out ++ [⟨bs (pre d ++ x.name.data.toList), 0, x.tgt⟩])
   if q.1 ≠ 0 then q else fetItems S ents dep rec d deep r q.2
def belowF (S : List UInt8 → Option (List UInt8)) (ents dep : Int) : Nat → Int → List UInt8 → List UInt8 → List En → Int × List En
 | 0, _, _, _, out => (9, out)
 | f + 1, deep, b, d, out => match decOk b with
  | none => (8, out)
  | some l => fetItems S ents dep (belowF S ents dep f (deep + 1)) d deep l out
def fetchP (S : List UInt8 → Option (List UInt8)) (root : List UInt8) (ents dep : Int) : Int × List En :=
 if (blobS S root).1 ≠ 0 then ((blobS S root).1, [])
 else
  let q := belowF S ents dep 6 1 (blobS S root).2 [] []
  if q.1 ≠ 0 then (q.1, []) else q
theorem blobS_ok {S : List UInt8 → Option (List UInt8)} {d : List UInt8} (h : (blobS S d).1 = 0) : S d = some (blobS S d).2 ∧ P.digest (blobS S d).2 = d := by
 unfold blobS at h ⊢
 cases hs : S d with
 | none => rw [hs] at h; simp at h
 | some b =>
  rw [hs] at h
  simp only at h ⊢
  by_cases e : P.digest b = d
  ·rw [if_pos e]; exact ⟨rfl, e⟩
  ·rw [if_neg e] at h; simp at h
def FlatF (S : List UInt8 → Option (List UInt8)) (rec : List UInt8 → List UInt8 → List En → Prop) (d : List UInt8) (deep : Int) : List P.It → List En → Prop
 | [], seg => seg = []
 | x :: r, seg => ∃ (e : En) (s1 s2 : List En), seg = e :: (s1 ++ s2) ∧ deep ≤ 5 ∧ pth e = pre d ++ x.name.data.toList ∧ e.kind = x.kind ∧
   ((x.kind = 3 ∧ e.data = x.tgt ∧ outP (deep - 1) x.tgt.data.toList = false ∧ s1 = []) ∨
    (x.kind ≠ 3 ∧ ∃ b, S x.dig.data.toList = some b ∧ P.digest b = x.dig.data.toList ∧ (b.length : Int) = x.size ∧
     ((x.kind ≠ 0 ∧ b.length ≤ 60 ∧ e.data = bs b ∧ s1 = []) ∨ (x.kind = 0 ∧ e.data = x.tgt ∧ rec b (pre d ++ x.name.data.toList) s1)))) ∧
   FlatF S rec d deep r s2
def Flat (S : List UInt8 → Option (List UInt8)) : Nat → Int → List UInt8 → List UInt8 → List En → Prop
 | 0, _, _, _, _ => False
 | f + 1, deep, b, d, seg => ∃ l, decOk b = some l ∧ FlatF S (Flat S f (deep + 1)) d deep l seg
theorem bs_pth (p : List UInt8) (k : Int) (t : ByteArray) : pth ⟨bs p, k, t⟩ = p := bs_data p
theorem fetItems_flat (S : List UInt8 → Option (List UInt8)) (ents dp : Int) (rec : List UInt8 → List UInt8 → List En → Int × List En) (R : List UInt8 → List UInt8 → List En → Prop)
  (hrec : ∀ b d out out', out.length ≤ 40 → rec b d out = (0, out') → out'.length ≤ 40 ∧ ∃ seg, out' = out ++ seg ∧ R b d seg) (d : List UInt8) (deep : Int) :
  ∀ (l : List P.It) (out out' : List En), out.length ≤ 40 → fetItems S ents dp rec d deep l out = (0, out') → out'.length ≤ 40 ∧ ∃ seg, out' = out ++ seg ∧ FlatF S R d deep l seg
 | [], out, out', h40, h => by
  simp only [fetItems, Prod.mk.injEq, true_and] at h
  subst h
  exact ⟨h40, [], by simp, rfl⟩
 | x :: r, out, out', h40, h => by
  simp only [fetItems] at h
  split at h
  ·simp at h
  ·rename_i hb
   have hb1 : deep ≤ 5 := by omega
   have hb2 : out.length + 1 ≤ 40 := by omega
   split at h
   ·rename_i hk
    split at h
    ·simp at h
    ·rename_i ho
     obtain ⟨h1, seg, e1, e2⟩ := fetItems_flat S ents dp rec R hrec d deep r _ out' (by simpa using hb2) h
     exact ⟨h1, ⟨bs (pre d ++ x.name.data.toList), 3, x.tgt⟩ :: seg, by rw [e1]; simp, _, [], seg, rfl, hb1, bs_pth _ _ _, hk.symm, .inl ⟨hk, rfl, by simpa using ho, rfl⟩, e2⟩
   ·rename_i hk
    split at h
    ·rename_i hz
     simp only [Prod.mk.injEq] at h
     exact absurd h.1 hz
    ·rename_i hz
     obtain ⟨hs, hdg⟩ := blobS_ok (by simpa using hz)
     split at h
     ·simp at h
     ·rename_i hsz
      have hsz1 : ((blobS S x.dig.data.toList).2.length : Int) = x.size := by omega
      split at h
      ·rename_i hk0
       obtain ⟨h1, seg, e1, e2⟩ := fetItems_flat S ents dp rec R hrec d deep r _ out' (by simpa using hb2) h
       exact ⟨h1, ⟨bs (pre d ++ x.name.data.toList), x.kind, bs (blobS S x.dig.data.toList).2⟩ :: seg, by rw [e1]; simp, _, [], seg, rfl, hb1, bs_pth _ _ _, rfl, .inr ⟨hk, _, hs, hdg, hsz1, .inl ⟨hk0, by omega, rfl, rfl⟩⟩, e2⟩
      ·rename_i hk0
       have hk0' : x.kind = 0 := by omega
       split at h
       ·rename_i hq
        rw [h] at hq
        simp at hq
       ·rename_i hq
        generalize hqe : rec (blobS S x.dig.data.toList).2 (pre d ++ x.name.data.toList) (out ++ [⟨bs (pre d ++ x.name.data.toList), 0, x.tgt⟩]) = q at h hq
        obtain ⟨qc, qo⟩ := q
        obtain rfl : qc = 0 := by simpa using hq
        obtain ⟨h2, s1, e3, e4⟩ := hrec _ _ _ qo (by simpa using hb2) hqe
        obtain ⟨h1, seg, e1, e2⟩ := fetItems_flat S ents dp rec R hrec d deep r _ out' h2 h
        exact ⟨h1, ⟨bs (pre d ++ x.name.data.toList), 0, x.tgt⟩ :: (s1 ++ seg), by rw [e1, e3]; simp, _, s1, seg, rfl, hb1, bs_pth _ _ _, hk0'.symm, .inr ⟨hk, _, hs, hdg, hsz1, .inr ⟨hk0', rfl, e4⟩⟩, e2⟩
theorem belowF_flat (S : List UInt8 → Option (List UInt8)) (ents dp : Int) : ∀ (f : Nat) (deep : Int) (b d : List UInt8) (out out' : List En), out.length ≤ 40 → belowF S ents dp f deep b d out = (0, out') → out'.length ≤ 40 ∧ ∃ seg, out' = out ++ seg ∧ Flat S f deep b d seg
 | 0, _, _, _, _, _, _, h => by simp [belowF] at h
 | f + 1, deep, b, d, out, out', h40, h => by
  simp only [belowF] at h
  split at h
  ·simp at h
  ·rename_i l hl
   obtain ⟨h1, seg, e1, e2⟩ := fetItems_flat S ents dp _ (Flat S f (deep + 1)) (fun b d out out' => belowF_flat S ents dp f (deep + 1) b d out out') d deep l out out' h40 h
   exact ⟨h1, seg, e1, l, hl, e2⟩
theorem pre_name_ne {d n : List UInt8} (h : n ≠ []) : pre d ++ n ≠ [] := fun e => h (List.append_eq_nil_iff.1 e).2
theorem pre_sub {d n : List UInt8} (h : n ≠ []) : pre (pre d ++ n) = pre d ++ (n ++ [47]) := by rw [pre_some (pre_name_ne h), List.append_assoc]
def NamesOk (d : List UInt8) (k : Nat) : Prop := (d = [] ∧ k = 0) ∨ (d ≠ [] ∧ (∀ p ∈ sp d, P.isName p = true) ∧ (sp d).length = k)
theorem names_sp {d n : List UInt8} {k : Nat} (h : NamesOk d k) (hn : P.isName n = true) : (∀ p ∈ sp (pre d ++ n), P.isName p = true) ∧ (sp (pre d ++ n)).length = k + 1 ∧ upPath (pre d ++ n) = d := by
 rcases h with ⟨rfl, rfl⟩ | ⟨hd, hp, hl⟩
 ·obtain ⟨h1, h2, _⟩ := cut_none (isName_no hn)
  rw [pre_nil, List.nil_append, h1]
  exact ⟨by simpa using hn, rfl, h2⟩
 ·obtain ⟨h1, h2, _⟩ := cut_some d n (isName_no hn)
  rw [pre_some hd, List.append_assoc, List.singleton_append, h1]
  refine ⟨?_, by simp [hl], h2⟩
  intro p hp2
  rcases List.mem_append.1 hp2 with h | h
  ·exact hp p h
  ·rw [List.mem_singleton.1 h]; exact hn
theorem names_next {d n : List UInt8} {k : Nat} (h : NamesOk d k) (hn : P.isName n = true) : NamesOk (pre d ++ n) (k + 1) :=
 .inr ⟨pre_name_ne (isName_ne hn), (names_sp h hn).1, (names_sp h hn).2.1⟩
theorem item_kind (x : P.It) (h : P.itemOk x = true) : (x.kind = 3 ∧ P.linkOk x = true) ∨ ((x.kind = 0 ∨ x.kind = 1 ∨ x.kind = 2) ∧ P.plainOk x = true) := by
 simp only [P.itemOk, Bool.and_eq_true] at h
 have h2 := h.2
 unfold P.shape at h2
 by_cases h0 : x.kind = 0
 ·simp [h0] at h2; exact .inr ⟨.inl h0, h2⟩
 ·by_cases h1 : x.kind = 1
  ·simp [h1] at h2; exact .inr ⟨.inr (.inl h1), h2⟩
  ·by_cases h3 : x.kind = 2
   ·simp [h3] at h2; exact .inr ⟨.inr (.inr h3), h2⟩
   ·by_cases h4 : x.kind = 3
    ·simp [h4] at h2; exact .inl ⟨h4, h2⟩
    ·simp [h0, h1, h3, h4] at h2
theorem bs_eta (x : ByteArray) : bs x.data.toList = x := by cases x; simp [bs]
theorem empty_lst {b : ByteArray} (h : b.toList.isEmpty = true) : b = ⟨#[]⟩ := by
 rw [ByteArray.toList_eq, List.isEmpty_iff] at h
 rw [← bs_eta b, h]; rfl
theorem kind_cases {e : En} (h : kindBad e = false) : (e.kind = 0 ∧ e.data = ⟨#[]⟩) ∨ ((e.kind = 1 ∨ e.kind = 2) ∧ e.data.size ≤ 60) ∨ e.kind = 3 := by
 simp only [kindBad, Bool.or_eq_false_iff, decide_eq_false_iff_not, Bool.and_eq_false_iff] at h
 obtain ⟨⟨⟨⟨h1, h2⟩, h3⟩, h4⟩, h5⟩ := h
 have : e.kind = 0 ∨ e.kind = 1 ∨ e.kind = 2 ∨ e.kind = 3 := by omega
 rcases this with h | h | h | h
 ·refine .inl ⟨h, ?_⟩
  rcases h3 with h3 | h3
  ·simp [h] at h3
  ·exact empty_lst (by simpa using h3)
 ·refine .inr (.inl ⟨.inl h, ?_⟩)
  rcases h4 with h4 | h4
  ·simp [h] at h4
  ·omega
 ·refine .inr (.inl ⟨.inr h, ?_⟩)
  rcases h4 with h4 | h4
  ·simp [h] at h4
  ·omega
 ·exact .inr (.inr h)
theorem sized (b : ByteArray) : b.data.toList.length = b.size := rfl
def Chn {α : Type} (R : α → α → Prop) : List α → Prop
 | [] => True
 | [_] => True
 | a :: b :: r => R a b ∧ Chn R (b :: r)
theorem Chn.at {α : Type} {R : α → α → Prop} : ∀ (L : List α), Chn R L → ∀ i (h : i + 1 < L.length), R L[i] L[i + 1]
 | [], _, i, h => by simp at h
 | [_], _, i, h => by simp at h
 | a :: b :: r, hc, 0, h => hc.1
 | a :: b :: r, hc, i + 1, h => Chn.at (b :: r) hc.2 i (by simpa using h)
theorem Chn.map {α β : Type} {R : α → α → Prop} {Q : β → β → Prop} (g : α → β) (hg : ∀ a b, R a b → Q (g a) (g b)) : ∀ (L : List α), Chn R L → Chn Q (L.map g)
 | [], _ => trivial
 | [_], _ => trivial
 | a :: b :: r, hc => ⟨hg _ _ hc.1, Chn.map g hg (b :: r) hc.2⟩
def atP : List (List UInt8 × List UInt8) → List UInt8 → Option (List UInt8)
 | [], _ => none
 | (k, b) :: r, d => if k = d then some b else atP r d
def sumP : List (List UInt8 × List UInt8) → Nat
 | [] => 0
 | (_, b) :: r => b.length + sumP r
def putP (room : Int) (st : List (List UInt8 × List UInt8)) (b : List UInt8) : Int × List (List UInt8 × List UInt8) :=
 if (atP st (P.digest b)).isSome then (0, st) else if room < (b.length : Int) + (sumP st : Int) then (6, st) else (0, st ++ [(P.digest b, b)])
def plantP (st : List (List UInt8 × List UInt8)) (d b : List UInt8) : List (List UInt8 × List UInt8) :=
 st.filter (fun p => !(p.1 == d)) ++ (if b = [] then [] else [(d, b)])
def putsP (room : Int) : List (List UInt8 × List UInt8) → List (List UInt8) → Int × List (List UInt8 × List UInt8)
 | st, [] => (0, st)
 | st, b :: r => if (putP room st b).1 ≠ 0 then putP room st b else putsP room (putP room st b).2 r
def bytesP : List (List UInt8) → Nat
 | [] => 0
 | b :: r => b.length + bytesP r
def tryP (room : Int) (link : List Int) (l : List (List UInt8)) : Nat → List (List UInt8 × List UInt8) → Nat × Nat × Nat → Int × List (List UInt8 × List UInt8) × (Nat × Nat × Nat)
 | 0, st, s => (10, st, s)
 | k + 1, st, s =>
  let s' := (s.1 + 1, s.2.1 + l.length, s.2.2 + bytesP l)
  if link.getD s.1 0 = 1 then tryP room link l k st s'
  else
   let q := if link.getD s.1 0 = 3 then putsP room (putsP room st l).2 l else putsP room st l
   if link.getD s.1 0 ≠ 2 then (q.1, q.2, s') else tryP room link l k q.2 s'
def moreP (batch : Int) : Nat → List (List UInt8) → Nat
 | _, [] => 0
 | n, b :: r => if (n : Int) + (b.length : Int) ≤ batch then moreP batch (n + b.length) r + 1 else 0
def sizeP (batch : Int) : List (List UInt8) → Nat
 | [] => 0
 | b :: r => moreP batch b.length r + 1
def sendP (room batch : Int) (tries : Nat) (link : List Int) : Nat → List (List UInt8) → List (List UInt8 × List UInt8) → Nat × Nat × Nat → Int × List (List UInt8 × List UInt8) × (Nat × Nat × Nat)
 | 0, _, st, s => (0, st, s)
 | f + 1, miss, st, s =>
  if miss = [] then (0, st, s)
  else
   let q := tryP room link (miss.take (sizeP batch miss)) tries st s
   if q.1 ≠ 0 then q else sendP room batch tries link f (miss.drop (sizeP batch miss)) q.2.1 q.2.2
def bringP (room batch : Int) (tries : Nat) (link : List Int) (blobs : List (List UInt8)) (st : List (List UInt8 × List UInt8)) : Int × List (List UInt8 × List UInt8) × (Nat × Nat × Nat) :=
 let miss := blobs.filter (fun b => !(atP st (P.digest b)).isSome)
 let q := tryP room link [] tries st (0, 0, 0)
 if q.1 ≠ 0 then q else sendP room batch tries link miss.length miss q.2.1 q.2.2
def planOk (tries batch : Int) (link : List Int) : Bool := decide (1 ≤ tries ∧ tries ≤ 9 ∧ 1 ≤ batch ∧ batch ≤ 5000) && link.all (fun k => decide (0 ≤ k ∧ k ≤ 3))
theorem atP_app (st : List (List UInt8 × List UInt8)) (k b d : List UInt8) : atP (st ++ [(k, b)]) d = if (atP st d).isSome then atP st d else if k = d then some b else none := by
 induction st with
 | nil => simp [atP]
 | cons p r ih =>
  obtain ⟨k2, b2⟩ := p
  rw [List.cons_append]
  simp only [atP]
  split
  ·simp
  ·exact ih
theorem sumP_app (st : List (List UInt8 × List UInt8)) (k b : List UInt8) : sumP (st ++ [(k, b)]) = sumP st + b.length := by
 induction st with
 | nil => simp [sumP]
 | cons p r ih => obtain ⟨k2, b2⟩ := p; rw [List.cons_append]; simp only [sumP]; rw [ih]; omega
theorem bytes_app (a b : List (List UInt8)) : bytesP (a ++ b) = bytesP a + bytesP b := by
 induction a with
 | nil => simp [bytesP]
 | cons x r ih => rw [List.cons_append]; simp only [bytesP]; rw [ih]; omega
structure Grew (st st' : List (List UInt8 × List UInt8)) (l : List (List UInt8)) : Prop where
 old : ∀ d b, atP st d = some b → atP st' d = some b
 new : ∀ d b, atP st' d = some b → atP st d = some b ∨ (b ∈ l ∧ d = P.digest b)
theorem Grew.refl (st : List (List UInt8 × List UInt8)) (l : List (List UInt8)) : Grew st st l := ⟨fun _ _ h => h, fun _ _ h => .inl h⟩
theorem Grew.trans {a b c : List (List UInt8 × List UInt8)} {l m : List (List UInt8)} (h1 : Grew a b l) (h2 : Grew b c m) (n : List (List UInt8)) (hl : ∀ x ∈ l, x ∈ n) (hm : ∀ x ∈ m, x ∈ n) : Grew a c n :=
 ⟨fun d b h => h2.old d b (h1.old d b h), fun d b h => by
  rcases h2.new d b h with h | ⟨h, e⟩
  ·rcases h1.new d b h with h | ⟨h, e⟩
   ·exact .inl h
   ·exact .inr ⟨hl b h, e⟩
  ·exact .inr ⟨hm b h, e⟩⟩
theorem putP_grew (room : Int) (st : List (List UInt8 × List UInt8)) (b : List UInt8) : Grew st (putP room st b).2 [b] := by
 unfold putP
 split
 ·exact Grew.refl _ _
 ·rename_i hn
  split
  ·exact Grew.refl _ _
  ·refine ⟨fun d x h => ?_, fun d x h => ?_⟩
   ·show atP (st ++ [(P.digest b, b)]) d = some x
    rw [atP_app, h]; rfl
   ·change atP (st ++ [(P.digest b, b)]) d = some x at h
    rw [atP_app] at h
    split at h
    ·exact .inl h
    ·split at h
     ·rename_i hd
      obtain rfl := Option.some.inj h
      exact .inr ⟨by simp, hd.symm⟩
     ·simp at h
theorem putsP_grew (room : Int) : ∀ (l : List (List UInt8)) (st : List (List UInt8 × List UInt8)), Grew st (putsP room st l).2 l
 | [], st => Grew.refl _ _
 | b :: r, st => by
  simp only [putsP]
  split
  ·exact (putP_grew room st b).trans (Grew.refl _ []) _ (by simp) (by simp)
  ·exact (putP_grew room st b).trans (putsP_grew room r _) _ (by simp) (fun x h => by simp [h])
theorem tryP_grew (room : Int) (link : List Int) (l : List (List UInt8)) : ∀ k st s, Grew st (tryP room link l k st s).2.1 l
 | 0, st, s => Grew.refl _ _
 | k + 1, st, s => by
  have hq : Grew st (if link.getD s.1 0 = 3 then putsP room (putsP room st l).2 l else putsP room st l).2 l := by
   split
   ·exact (putsP_grew room l st).trans (putsP_grew room l _) _ (fun _ h => h) (fun _ h => h)
   ·exact putsP_grew room l st
  simp only [tryP]
  split
  ·exact tryP_grew room link l k st _
  ·split
   ·exact hq
   ·exact hq.trans (tryP_grew room link l k _ _) _ (fun _ h => h) (fun _ h => h)
end Go.Proofs.YtjmacegibchplaaGreatDoor