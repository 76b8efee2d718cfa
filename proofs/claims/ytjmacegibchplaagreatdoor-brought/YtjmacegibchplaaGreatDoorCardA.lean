import Derived.Test.YtjmacegibchplaaGreatDoorEntB
import Derived.Test.YtjmacegibchplaaGreatDoorTreeQ
import Derived.Test.YtjmacegibchplaaGreatDoorReadA
import Derived.Deep.DeepCutAuto
import Derived.Deep.RegionHeld3
import Derived.Deep.DrawnRows
import Derived.Test.YtjmacegibchplaaGreatDoorTextB
import Derived.Test.YtjmacegibchplaaGreatDoorTreeR
import Derived.Test.YtjmacegibchplaaGreatDoorPathP
import Derived.Test.YtjmacegibchplaaGreatDoorShelf
import Derived.OwnWalk
import Derived.Test.YtjmacegibchplaaGreatDoorCards
import Derived.Test.YtjmacegibchplaaGreatDoorTie
import Derived.WalkKit
import Derived.ProofKit
import Derived.OpenShut
import Derived.Deep.DeepHandedRow
import Derived.Shelf.Vars
/-
  The document's search of paths, its test of an entry and of a tree: their contracts.
-/
namespace Go.Proofs.YtjmacegibchplaaGreatDoor
open Go.RowKit
set_option linter.unusedVariables false
end Go.Proofs.YtjmacegibchplaaGreatDoor

/-
  The document's test of a tree: its contract.
-/
namespace Go.Proofs.YtjmacegibchplaaGreatDoor
open Go.RowKit
set_option linter.unusedVariables false
def escP (e : En) : Bool := e.kind == 3 && outP ((sp e.path.data.toList).length - 1) e.data.data.toList
theorem wrongP_eq (l : List En) : wrongP l = if 40 < l.length then 1 else if (List.range l.length).all (fineP l) = false then 1 else if l.any escP then 2 else 0 := rfl
theorem fineP_link (l : List En) (i : Nat) (h : i < l.length) (hf : fineP l i = true) (hk : l[i].kind = 3) : P.isTarget l[i].data.data.toList = true := by
  have e : l.getD i en0 = l[i] := by rw [List.getD_eq_getElem?_getD, List.getElem?_eq_getElem h]; rfl
  simp only [fineP, e, Bool.and_eq_true, Bool.not_eq_true'] at hf
  have hb := hf.1.1.2
  simp only [kindBad, hk, Bool.or_eq_false_iff] at hb
  simpa using hb.2
theorem fineP_deep (l : List En) (i : Nat) (h : i < l.length) (hf : fineP l i = true) : (sp l[i].path.data.toList).length ≤ 5 := by
  have e : l.getD i en0 = l[i] := by rw [List.getD_eq_getElem?_getD, List.getElem?_eq_getElem h]; rfl
  simp only [fineP, e, Bool.and_eq_true, decide_eq_true_eq] at hf
  exact hf.1.1.1.1
theorem any_take_succ {α : Type} (f : α → Bool) (S : List α) (k : Nat) (h : k < S.length) : (S.take (k + 1)).any f = ((S.take k).any f || f S[k]) := by
  rw [List.take_succ_eq_append_getElem h, List.any_append]; simp
theorem any_at {α : Type} (f : α → Bool) (S : List α) (k : Nat) (h : k < S.length) (hf : f S[k] = true) : S.any f = true := by
  rw [List.any_eq_true]; exact ⟨S[k], List.getElem_mem h, hf⟩
def TFit (l : List En) : Prop := ∀ i (h : i < l.length), l[i].path.size ≤ 1100000 ∧ l[i].data.size ≤ maxLen
end Go.Proofs.YtjmacegibchplaaGreatDoor

/-
  The document's look into a directory of a tree: its contract.
-/
namespace Go.Proofs.YtjmacegibchplaaGreatDoor
open Go.RowKit
set_option linter.unusedVariables false
theorem info_int : (Tryz.prog.info? 3).map (fun i => (i.zero, i.size, i.bytes)) = some (some (.int .i64 0), 1, 8) := by kernel_rfl
def natVal (n : Nat) : Value := .int .i64 n
def OwnsI (w : World) (base : Nat) (v : Value) (l : List Nat) : Prop := w.ownsRow base 3 1 v l.length (l.map natVal)
theorem OwnsI.alloc {w : World} {base : Nat} {v : Value} {l : List Nat} (h : OwnsI w base v l) (o : Obj) : OwnsI (w.alloc o) base v l := World.ownsRow.alloc h o
theorem OwnsI.below {w w' : World} {base : Nat} {v : Value} {l : List Nat} (h : OwnsI w base v l) (hb : Below w.heap.size w w') : OwnsI w' base v l :=
  World.ownsRow.kept (row := none) h ⟨hb.os, hb.tape, hb.output, hb.size, fun k hk _ => hb.block k hk⟩ (by cases v.ownBlock <;> simp)
def NatsAt (w : World) (a : Option Addr) (l : List Nat) : Prop := l = [] ∨ ∃ b o, a = some ⟨b, o, none⟩ ∧ ∀ i (h : i < l.length), w.cell? ⟨b, o + i, none⟩ = some (natVal l[i])
theorem NatsAt.below {B : Nat} {w w' : World} {a : Option Addr} {l : List Nat} (h : NatsAt w a l) (hb : Below B w w') (hB : w.heap.size ≤ B) : NatsAt w' a l := by
  rcases h with h | ⟨b, o, e, h⟩
  · exact .inl h
  · exact .inr ⟨b, o, e, fun i hi => (hb.cell (p := ⟨b, _, none⟩) (Nat.lt_of_lt_of_le (block_lt (h i hi)) hB)).trans (h i hi)⟩
theorem app_int {w : World} {ops : Array Oper} {rest : List Oper} {o : Oper} {a : Act} {Q : Exit → Act → World → Prop} (hgd : o.guard = none) (s x : Operand)
    (ho : o.op = .call { callee := .builtin .append, args := #[s, x], argTypes := #[55, 55] }) (base : Nat) (v : Value) (l : List Nat) (hs : a.eval s = v) (hown : OwnsI w base v l)
    (ad : Addr) (y : Nat) (hx : a.eval x = .slice (some ad) 1 1) (hnews : w.cell? (ad.add 0) = some (natVal y))
    (hlen : l.length ≤ 2000000) (hbase : base ≤ w.heap.size)
    (h : ∀ v' w', OwnsI w' base v' (l ++ [y]) → w.grownBy w' v.ownBlock → wpList Tryz.prog ops Q rest (a.put o.dst v') w') : wpList Tryz.prog ops Q (o :: rest) a w := by
  obtain ⟨i0, hi, hz0, hz1, hz2⟩ := info_parts info_int
  refine wpList_append_own w hgd s x 55 ho base 3 i0 _ 1 8 Tryz.underlying55 hi hz0 hz1 hz2 rfl (by decide) v l.length (l.map natVal) hs hown ad 1 1 [natVal y] hx rfl ?_ ?_ (by unfold maxLen; omega) (by omega) hbase ?_
  · intro j u hj
    match j, hj with
    | 0, hj => simp at hj; subst hj; exact hnews
  · intro u hu; simp at hu; subst hu; rfl
  · intro v' w' h2 h3 _
    refine h v' w' ?_ h3
    unfold OwnsI
    rw [List.map_append, List.length_append]
    exact h2
end Go.Proofs.YtjmacegibchplaaGreatDoor

/-
  The document's test of a directory (the statements' own): its contract.
-/
namespace Go.Proofs.YtjmacegibchplaaGreatDoor
open Go.RowKit
set_option linter.unusedVariables false
end Go.Proofs.YtjmacegibchplaaGreatDoor

/-
  The document's bytes of a directory (the statements' own): its contract.
-/
namespace Go.Proofs.YtjmacegibchplaaGreatDoor
open Go.RowKit
set_option linter.unusedVariables false
attribute [local go_sem ↓] Go.wp_at_zero Go.wp_at_succ
theorem add_ok (a b : ByteArray) (ha : a.size ≤ 100000) (hb : b.size ≤ 100000) : ∀ w, (Op.stringOp .add a b).run Tryz.prog w = .ok (.string (a ++ b)) w := fun w => run_string_add_sum w a b (by omega)
end Go.Proofs.YtjmacegibchplaaGreatDoor

/-
  The document's Decode (the statements' own): its contract.
-/
namespace Go.Proofs.YtjmacegibchplaaGreatDoor
open Go.RowKit
set_option linter.unusedVariables false
end Go.Proofs.YtjmacegibchplaaGreatDoor

/-
  The document's digest, as the statements have it: its contract.
-/
namespace Go.Proofs.YtjmacegibchplaaGreatDoor
open Go.RowKit
end Go.Proofs.YtjmacegibchplaaGreatDoor

/-
  The document's bytes of a directory of a tree: its contract.
-/
namespace Go.Proofs.YtjmacegibchplaaGreatDoor
open Go.RowKit
set_option linter.unusedVariables false
theorem OwnsIt.below {w w' : World} {base : Nat} {v : Value} {l : List P.It} (h : OwnsIt w base v l) (hb : Below w.heap.size w w') : OwnsIt w' base v l :=
  World.ownsRow.kept (row := none) h ⟨hb.os, hb.tape, hb.output, hb.size, fun k hk _ => hb.block k hk⟩ (by cases v.ownBlock <;> simp)
theorem OwnsIt.set {w : World} {base q j : Nat} {v u : Value} {l : List P.It} (h : OwnsIt w base v l) (hq : ∀ k, v.ownBlock = some k → k ≠ q) : OwnsIt (w.setCell ⟨q, j, none⟩ u) base v l := by
  refine World.ownsRow.kept (row := some q) h ⟨rfl, rfl, rfl, by simp [World.setCell], fun k hk hne => Below.heap_setCell _ _ _ _ (fun e => hne (by rw [e]))⟩ ?_
  cases hv : v.ownBlock with
  | none => exact .inl rfl
  | some k => exact .inr (fun e => hq k hv (Option.some.inj e))
theorem path_len (p : List UInt8) (h5 : (sp p).length ≤ 5) (hn : ∀ n ∈ sp p, P.isName n = true) : p.length ≤ 64 := by
  have key : ∀ (p : List UInt8), p.length + 1 = ((sp p).map (fun x => x.length + 1)).sum := by
    intro p
    induction p with
    | nil => rfl
    | cons c r ih =>
      simp only [sp]
      split
      · simp; omega
      · split
        · rename_i e; exact absurd e (sp_ne r)
        · rename_i h t e; rw [e] at ih; simp at ih ⊢; omega
  have hs : ∀ (S : List (List UInt8)), (∀ n ∈ S, P.isName n = true) → (S.map (fun x => x.length + 1)).sum ≤ 13 * S.length := by
    intro S
    induction S with
    | nil => intro _; simp
    | cons x S ih =>
      intro h
      have h1 := h x (by simp)
      have h2 := ih (fun y hy => h y (by simp [hy]))
      simp only [P.isName, Bool.and_eq_true, decide_eq_true_eq] at h1
      have := h1.1.1.1.1.2
      simp only [List.map_cons, List.sum_cons, List.length_cons]
      omega
  have h1 := key p
  have h2 := hs (sp p) hn
  omega
theorem tree_path (l : List En) (ht : Tree l) (i : Nat) (h : i < l.length) : l[i].path.data.toList.length ≤ 64 := path_len _ (fineP_deep l i h (ht.fine i h)) (fineP_name l i h (ht.fine i h))
end Go.Proofs.YtjmacegibchplaaGreatDoor

/-
  The document's blobs of a tree: its contract.
-/
namespace Go.Proofs.YtjmacegibchplaaGreatDoor
open Go.RowKit
set_option linter.unusedVariables false
theorem OwnsS.weak {w : World} {base base' : Nat} {v : Value} {l : List (List UInt8)} (h : OwnsS w base v l) (hb : base' ≤ base) : OwnsS w base' v l := by
  refine ⟨h.1, ?_⟩
  rcases h.2 with hn | ⟨g, cap, cur, e, hg, rest⟩
  · exact .inl hn
  · exact .inr ⟨g, cap, cur, e, Nat.le_trans hb hg, rest⟩
theorem str_eq2 (x y : List UInt8) : ((bs x).toList == (bs y).toList) = (x == y) := by rw [ByteArray.toList_eq, ByteArray.toList_eq, bs_data, bs_data]
end Go.Proofs.YtjmacegibchplaaGreatDoor

/-
  The program's tests of an entry, and how a path is parted: tree.Split, isPath, isData, isEntry, down, LeadsOut, byPath.
-/
namespace Go.Proofs.YtjmacegibchplaaGreatDoor
open Go.RowKit
set_option linter.unusedVariables false
set_option maxHeartbeats 1000000 in
theorem tsplit (p : List UInt8) (w : World) (h : p.length ≤ 1100000) :
    Calls Tryz.prog 99 #[.string (bs p)] w fun e w' => e = .returned (.tuple #[.string (bs (upPath p)), .string (bs (nameOf p))]) ∧ ∃ n, w' = w.drewN n := by
  have hc := Tryz.strings_LastIndexByte (bs p) 47 (by rw [bs_size]; omega) w
  have hsz := bs_size p
  rcases last_index p with ⟨h0, e⟩ | ⟨h1, e, hp⟩
  · rw [e] at hc
    obtain ⟨_, e2, e3⟩ := cut_none h0
    rw [e2, e3]
    clear e e2 e3 h0
    go_enter Tryz.func99, Tryz.ntmps99
    go_wp2_with (go_at_call 147; refine hc.mono ?_; rintro e w' ⟨rfl, rfl⟩)
    go_ret2
    exact ⟨rfl, 0, rfl⟩
  · rw [e] at hc
    generalize hu : upPath p = u at *
    generalize hn : nameOf p = n at *
    clear hu hn e h1
    have hl : p.length = u.length + n.length + 1 := by rw [hp]; simp; omega
    have x1 : (bs p).extract 0 u.length = bs u := by rw [extract_bs, hp]; simp
    have x2 : (bs p).extract (u.length + 1) p.length = bs n := by
      rw [extract_bs, hp]; simp
      rw [show u.length + (n.length + 1) - (u.length + 1) = n.length by omega, List.take_length]
    have q1 : (u.length : Int) ≤ (p.length : Int) := by omega
    have q2 : (u.length : Int) + 1 ≤ (p.length : Int) := by omega
    have q3 : ((u.length : Int) + 1).toNat = u.length + 1 := by omega
    have q4 : (0 : Int) ≤ (u.length : Int) + 1 := by omega
    clear hp hl
    go_enter Tryz.func99, Tryz.ntmps99
    go_wp2_with (go_at_call 147; refine hc.mono ?_; rintro e w' ⟨rfl, rfl⟩)
    go_quiet (fail)
    go_wp2
    go_ret2
    exact ⟨rfl, _, rfl⟩
def GlobOk (w : World) : Prop := ∃ m, w.cell? ⟨0, 0, none⟩ = some (.int .i64 m)
theorem GlobOk.below {B : Nat} {w w' : World} (h : GlobOk w) (hb : Below B w w') (hB : w.heap.size ≤ B) : GlobOk w' := by
  obtain ⟨m, hm⟩ := h
  exact ⟨m, (hb.cell (p := ⟨0, 0, none⟩) (Nat.lt_of_lt_of_le (World.block_lt_of_cell? _ _ hm) hB)).trans hm⟩
theorem pieces_bs (k : Nat) (s : List UInt8) : Lib.splitB ⟨#[47]⟩ 0 k (bs s) = (Lib.splitK [47] 0 k s).map bs := by
  have h := Lib.splitB_data ⟨#[47]⟩ 0 k (bs s)
  rw [bs_data] at h
  have h2 : (Lib.splitB ⟨#[47]⟩ 0 k (bs s)).map (fun x => bs x.data.toList) = (Lib.splitK [47] 0 k s).map bs := by
    rw [← h, List.map_map]; rfl
  simpa [bs_of] using h2
theorem countB_sp (s : List UInt8) : Lib.countB (bs s) ⟨#[47]⟩ + 1 = (sp s).length := by
  have : Lib.countB (bs s) ⟨#[47]⟩ = s.count 47 := by
    show Lib.count (bs s).data.toList [47] = _
    rw [bs_data, Lib.count_one]
  rw [this, sp_count]
theorem split_law (s : List UInt8) (w : World) (hg : GlobOk w) (hl : s.length ≤ 1100000) :
    Calls Tryz.prog 152 #[.string (bs s), .string ⟨#[47]⟩] w fun e w' => e = .returned (.slice (some ⟨w.heap.size, 0, none⟩) (sp s).length (sp s).length) ∧ TextsAt w' (some ⟨w.heap.size, 0, none⟩) (sp s) ∧ Below w.heap.size w w' := by
  obtain ⟨m, hm⟩ := hg
  have h := Tryz.strings_Split (bs s) ⟨#[47]⟩ m w (by rw [bs_size]; omega) hm (by decide)
  have hk := (splitK_sp (Lib.countB (bs s) ⟨#[47]⟩) s).2 (by rw [countB_sp]; exact Nat.le_refl _)
  rw [pieces_bs, hk, countB_sp] at h
  refine h.mono ?_
  rintro e w' ⟨rfl, rfl⟩
  refine ⟨rfl, .inr ⟨w.heap.size, 0, rfl, fun i hi => ?_⟩, (Below.refl _ _).alloc (Nat.le_refl _) _⟩
  rw [cell_of_block (heap_alloc_new w _)]
  simp [List.getElem?_eq_getElem hi, strVal]
theorem splitN_law (s : List UInt8) (w : World) (hg : GlobOk w) (hl : s.length ≤ 1100000) :
    Calls Tryz.prog 181 #[.string (bs s), .string ⟨#[47]⟩, .int .i64 6] w fun e w' => ∃ L cap, e = .returned (.slice (some ⟨w.heap.size, 0, none⟩) L.length cap) ∧ TextsAt w' (some ⟨w.heap.size, 0, none⟩) L ∧ Below w.heap.size w w' ∧ L.length = min 6 (sp s).length ∧ ((sp s).length ≤ 5 → L = sp s) := by
  obtain ⟨m, hm⟩ := hg
  have h := Tryz.strings_SplitN (bs s) ⟨#[47]⟩ 6 m w (by rw [bs_size]; omega) hm (by decide) (by decide) (by decide)
  rw [pieces_bs, bs_size] at h
  obtain ⟨h1, h2⟩ := splitK_sp (min 6 (s.length + 1) - 1) s
  have hle := sp_len s
  have hlen : (Lib.splitK [47] 0 (min 6 (s.length + 1) - 1) s).length = min 6 (sp s).length := by rw [h1]; omega
  have hL : (sp s).length ≤ 5 → Lib.splitK [47] 0 (min 6 (s.length + 1) - 1) s = sp s := fun h5 => h2 (by omega)
  have hcap : (Lib.splitK [47] 0 (min 6 (s.length + 1) - 1) s).length ≤ min 6 (s.length + 1) := by omega
  generalize Lib.splitK [47] 0 (min 6 (s.length + 1) - 1) s = L at *
  refine h.mono ?_
  rintro e w' ⟨rfl, rfl⟩
  refine ⟨L, min 6 (s.length + 1), by rw [List.length_map], .inr ⟨w.heap.size, 0, rfl, fun i hi => ?_⟩, (Below.refl _ _).alloc (Nat.le_refl _) _, hlen, hL⟩
  rw [cell_of_block (heap_alloc_new w _)]
  unfold Lib.cellsOf
  rw [Nat.zero_add, List.getElem?_toArray, List.getElem?_append_left (by simpa using hi)]
  simp [List.getElem?_eq_getElem hi, strVal]
def downP (x : List UInt8) : Int := if x = [] ∨ x = [46] then 0 else if x = [46, 46] then -1 else 1
theorem down_any (x : List UInt8) (w : World) :
    Calls Tryz.prog 153 #[.string (bs x)] w fun e w' => e = .returned (.int .i64 (downP x)) ∧ w' = w := by
  have s1 := str_eq x [46, 46]
  have s2 : (bs x).toList.isEmpty = x.isEmpty := by rw [ByteArray.toList_eq, bs_data]
  have s3 := str_eq x [46]
  by_cases h1 : x = []
  · subst h1
    have hd : downP [] = 0 := rfl
    rw [hd]
    go_enter Tryz.func153, Tryz.ntmps153
    go_wp2
    go_ret
    exact ⟨rfl, rfl⟩
  · have b2 : x.isEmpty = false := by cases x <;> simp_all
    rw [b2] at s2
    by_cases h3 : x = [46]
    · subst h3
      have hd : downP [46] = 0 := rfl
      rw [hd]
      go_enter Tryz.func153, Tryz.ntmps153
      go_wp2
      go_ret
      exact ⟨rfl, rfl⟩
    · have b3 : (x == [46]) = false := by simpa using h3
      rw [b3] at s3
      by_cases h4 : x = [46, 46]
      · subst h4
        have hd : downP [46, 46] = -1 := rfl
        rw [hd]
        go_enter Tryz.func153, Tryz.ntmps153
        go_wp2
        go_ret
        exact ⟨rfl, rfl⟩
      · have b4 : (x == [46, 46]) = false := by simpa using h4
        rw [b4] at s1
        have hd : downP x = 1 := by unfold downP; rw [if_neg (by simp [h1, h3]), if_neg h4]
        rw [hd]
        clear hd h1 h3 h4 b2 b3 b4
        go_enter Tryz.func153, Tryz.ntmps153
        go_wp2
        go_ret
        exact ⟨rfl, rfl⟩
end Go.Proofs.YtjmacegibchplaaGreatDoor

/-
  The listed variables: a world that holds them; the library's variable that is not listed.
-/
namespace Go.Proofs.YtjmacegibchplaaGreatDoor
open Go.ChangeShapes Go.WideShapes Go.ChangeAt Go.RowKit
set_option linter.unusedVariables false
theorem glob_of_shape {w : World} (h : w.ShapedOpen Tryz.prog) : GlobOk w :=
  cell_of_shapedOpen_int h (t := 3) (zero := #[.int .i64 0]) (k := .i64) (of_decide_eq_true (by kernel_rfl)) (by kernel_rfl) rfl (by kernel_rfl) (by kernel_rfl) Tryz.underlying3
def firstCells : List Value := Go.Pinned.utf8FirstZ.map fun (n : Nat) => Value.int .u8 (n : Int)
def acceptCells : List Value := (([128, 191, 160, 191, 128, 159, 144, 191, 128, 143] ++ List.replicate 22 0 : List Nat)).map fun (n : Nat) => Value.int .u8 (n : Int)
def putAt (cs : List Value) : Obj → Obj
  | .cells _ t frozen => .cells cs.toArray t frozen
  | o => o
def laidIn (w : World) : World :=
  { w with heap := (w.heap.modify 1 (putAt firstCells)).modify 2 (putAt acceptCells) }
theorem own : ownKnob Tryz.prog.godebug = none := by kernel_rfl
theorem laidOut : laidOutB Tryz.prog = true := by kernel_rfl
end Go.Proofs.YtjmacegibchplaaGreatDoor
