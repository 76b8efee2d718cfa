/-
  Lists of entries in memory; the statements' own copies of them, and how they are looked at again; a list of entries that comes in, opened.
-/
import Derived.Test.YtjmacegibchplaaGreatDoorTreeR
import Derived.Test.YtjmacegibchplaaGreatDoorItemO
namespace Go.Proofs.YtjmacegibchplaaGreatDoor
open Go.RowKit
set_option linter.unusedVariables false

/-- an entry in memory -/
def EntAt (w : World) (b p : Nat) (x : En) : Prop := w.cell? ⟨b, p, none⟩ = some (.string x.path) ∧ w.cell? ⟨b, p + 1, none⟩ = some (.int .i64 x.kind) ∧ w.cell? ⟨b, p + 2, none⟩ = some (.string x.data)
def EntsAt (w : World) (b o : Nat) (l : List En) : Prop := ∀ i (h : i < l.length), EntAt w b (o + i * 3) l[i]
def LiesE (w : World) (a : Option Addr) (l : List En) : Prop := l = [] ∨ ∃ b o, a = some ⟨b, o, none⟩ ∧ EntsAt w b o l
structure EFits (x : En) : Prop where
  path : x.path.size ≤ maxLen
  data : x.data.size ≤ maxLen
def EFitAll (l : List En) : Prop := ∀ i (h : i < l.length), EFits l[i]
def enCells (x : En) : List Value := [.string x.path, .int .i64 x.kind, .string x.data]
theorem enCells_len (x : En) : (enCells x).length = 3 := rfl
theorem enCells_one (l : List En) : ∀ v ∈ rowCells enCells l, v.oneCell' = true := by
  intro v hv
  simp only [rowCells, List.mem_flatten, List.mem_map] at hv
  obtain ⟨c, ⟨x, _, rfl⟩, hx⟩ := hv
  simp only [enCells, List.mem_cons, List.not_mem_nil, or_false] at hx
  rcases hx with rfl | rfl | rfl <;> rfl
theorem EntsAt.row {w : World} {b o : Nat} {l : List En} (h : EntsAt w b o l) : RowAt enCells 3 w b o l := by
  intro i hi j v hv
  obtain ⟨c0, c1, c2⟩ := h i hi
  match j, hv with
  | 0, hv => simp [enCells] at hv; rw [← hv]; exact c0
  | 1, hv => simp [enCells] at hv; rw [← hv]; exact c1
  | 2, hv => simp [enCells] at hv; rw [← hv]; exact c2
  | j + 3, hv => simp [enCells] at hv
theorem EntsAt.of_row {w : World} {b o : Nat} {l : List En} (h : RowAt enCells 3 w b o l) : EntsAt w b o l := by
  intro i hi
  exact ⟨h i hi 0 _ rfl, h i hi 1 _ rfl, h i hi 2 _ rfl⟩
theorem EntsAt.below {B : Nat} {w w' : World} {b o : Nat} {l : List En} (h : EntsAt w b o l) (hb : Below B w w') (hB : w.heap.size ≤ B) : EntsAt w' b o l := .of_row (h.row.below hb hB)
theorem LiesE.below {B : Nat} {w w' : World} {a : Option Addr} {l : List En} (h : LiesE w a l) (hb : Below B w w') (hB : w.heap.size ≤ B) : LiesE w' a l := by
  rcases h with h | ⟨b, o, e, h⟩
  · exact .inl h
  · exact .inr ⟨b, o, e, h.below hb hB⟩
def enMark : En := ⟨⟨#[]⟩, -77, ⟨#[]⟩⟩
theorem info_ent : (Tryz.prog.info? 32).map (fun i => (i.zero, i.size, i.bytes)) = some (some (.agg #[.string ⟨#[]⟩, .int .i64 0, .string ⟨#[]⟩]), 3, 40) := by kernel_rfl
/-- behind i marks -/
def emarked (l : List En) (i : Nat) : List En := l ++ (List.replicate i enMark ++ List.replicate (8 - i) en0)
theorem emarked_len (l : List En) (i : Nat) (h : i ≤ 8) : (emarked l i).length = l.length + 8 := by simp [emarked]; omega
theorem emarked_succ (l : List En) (i : Nat) (h : i < 8) : (emarked l i).set (l.length + i) enMark = emarked l (i + 1) := by
  unfold emarked
  rw [List.set_append_right _ _ (by omega), List.set_append_right _ _ (by simp)]
  congr 1
  rw [show (8 - i) = (8 - (i + 1)) + 1 by omega, List.replicate_succ]
  simp [List.replicate_succ']
theorem eqlE_nil (a : Option Addr) (n c : Nat) (w : World) : (binOp .eql 22 (.slice a n c) (.slice none 0 0)).run Tryz.prog w = .ok (.bool a.isNone) w :=
  Lib.run_eql_slice_nil w 22 32 a n c 0 0 Tryz.underlying22
theorem entriesOf_nil (w : World) :
    Calls Tryz.prog 15 #[.slice none 0 0] w fun e w' => e = .returned (.slice none 0 0) ∧ w' = w := by
  have hq := eqlE_nil
  go_enter Tryz.func15, Tryz.ntmps15
  go_wp2
  go_ret
  exact ⟨rfl, rfl⟩
theorem LiesE.src {w : World} {ad : Addr} {l : List En} (h : LiesE w (some ad) l) : ∀ j v, (rowCells enCells l)[j]? = some v → w.cell? (ad.add j) = some v := by
  rcases h with rfl | ⟨b, o, e, h⟩
  · intro j v hv; simp [rowCells] at hv
  · simp at e; subst e
    exact h.row.src enCells_len
theorem set3 (w : World) (b p : Nat) (x : En) : w.setCells b p (enCells x) = ((w.setCell ⟨b, p, none⟩ (.string x.path)).setCell ⟨b, p + 1, none⟩ (.int .i64 x.kind)).setCell ⟨b, p + 2, none⟩ (.string x.data) := rfl
set_option maxRecDepth 100000 in
set_option maxHeartbeats 1000000 in
theorem entriesOf_some (l : List En) (ad : Addr) (c : Nat) (w : World) (hl : l.length * 40 ≤ 140737488351232) (hi : LiesE w (some ad) l) :
    Calls Tryz.prog 15 #[.slice (some ad) l.length c] w fun e w' => e = .returned (.slice (some ⟨w.heap.size, 0, none⟩) l.length (l.length + 8)) ∧ EntsAt w' w.heap.size 0 (emarked l 8) ∧ Below w.heap.size w w' := by
  have hq := eqlE_nil
  have hlen := rowCells_length (n := 3) enCells_len l
  obtain ⟨W1, hmk, hrow, hbel, hfz⟩ : ∃ W1, (Instr.makeSlice 22 (.int .i64 ((l.length : Int) + 8)) (.int .i64 ((l.length : Int) + 8))).run Tryz.prog w = .ok (.slice (some ⟨w.heap.size, 0, none⟩) (l.length + 8) (l.length + 8)) W1
      ∧ RowAt enCells 3 W1 w.heap.size 0 (List.replicate (l.length + 8) en0) ∧ Below w.heap.size w W1 ∧ ∀ j, W1.frozen? ⟨w.heap.size, j, none⟩ = false := by
    obtain ⟨i0, hi0, hz0, hz1, hz2⟩ := info_parts info_ent
    have h := run_make (P := Tryz.prog) w 22 32 i0 _ Tryz.underlying22 hi0 hz0 .i64 .i64 ((l.length : Int) + 8) ((l.length : Int) + 8) (by omega) (by omega) (by rw [hz2]; omega) (by omega)
    rw [hz1, show ((l.length : Int) + 8).toNat = l.length + 8 by omega] at h
    exact ⟨_, h, RowAt.made enCells_len en0 _ rfl (l.length + 8) w 32, (Below.refl _ _).alloc (Nat.le_refl _) _, fun j => free_block (heap_alloc_new w _)⟩
  have hsrc := (hi.below hbel (Nat.le_refl _)).src
  have hcp := run_copy_rec (P := Tryz.prog) W1 22 22 3 32 w.heap.size 0 (l.length + 8) (l.length + 8) ad l.length c 3 (rowCells enCells l) Tryz.underlying22 (by kernel_rfl)
    (by rw [hlen]; congr 1; exact (Nat.min_eq_left (by omega)).symm) hsrc (fun j hj => hrow.there enCells_len j (by simp; omega)) (fun j _ => by rw [Nat.zero_add]; exact hfz j) (enCells_one l)
  have hrow2 : RowAt enCells 3 (W1.setCells w.heap.size 0 (rowCells enCells l)) w.heap.size 0 (emarked l 0) := by
    have := hrow.copied enCells_len l (by simp)
    unfold emarked
    simpa using this
  have hbel2 := below_setCells w.heap.size (Nat.le_refl _) (rowCells enCells l) 0 W1 hbel
  have hfz2 : ∀ j, (W1.setCells w.heap.size 0 (rowCells enCells l)).frozen? ⟨w.heap.size, j, none⟩ = false := fun j => by rw [World.frozen?_setCells]; exact hfz j
  generalize W1.setCells w.heap.size 0 (rowCells enCells l) = W2 at *
  clear hrow hfz hsrc hbel hi hlen
  go_enter Tryz.func15, Tryz.ntmps15
  go_wp2_with fail
  clear hcp hmk hq
  go_loopw [5] (fun i wr => ∃ k : Nat, k ≤ 8 ∧ i = .int .i64 k ∧ RowAt enCells 3 wr w.heap.size 0 (emarked l k) ∧ Below w.heap.size w wr ∧ ∀ j, wr.frozen? ⟨w.heap.size, j, none⟩ = false) (fun i _ => 8 - (intOf i).toNat)
  case atStart => exact ⟨0, by omega, rfl, hrow2, hbel2, hfz2⟩
  case round =>
    obtain ⟨k, hk, rfl, hr, hb, hf⟩ := hrel
    clear hrow2 hbel2 hfz2
    by_cases hlt : k < 8
    · obtain ⟨c0, c1, c2⟩ := EntsAt.of_row hr (l.length + k) (by rw [emarked_len l k hk]; omega)
      have hnew := hr.store enCells_len (l.length + k) (by rw [emarked_len l k hk]; omega) enMark
      rw [emarked_succ l k hlt] at hnew
      generalize (emarked l k)[l.length + k]'(by rw [emarked_len l k hk]; omega) = y at *
      obtain ⟨nm, kd, dg⟩ := y
      simp only [Nat.zero_add] at c0 c1 c2
      have f0 := hf ((l.length + k) * 3)
      have f1 := hf ((l.length + k) * 3 + 1)
      have f2 := hf ((l.length + k) * 3 + 2)
      have hb' := below_setCells w.heap.size (Nat.le_refl _) (enCells enMark) (0 + (l.length + k) * 3) wr hb
      have hf' : ∀ j, (wr.setCells w.heap.size (0 + (l.length + k) * 3) (enCells enMark)).frozen? ⟨w.heap.size, j, none⟩ = false := fun j => by rw [World.frozen?_setCells]; exact hf j
      rw [Nat.zero_add, set3] at hnew hb'
      simp only [Nat.zero_add, set3] at hf'
      simp only [enMark] at hnew hb' hf'
      have H := hide (And.intro hnew (And.intro hb' hf'))
      clear hnew hb' hf' hf
      go_wp2_with fail
      go_roundw
      case rel =>
        obtain ⟨hnew, hb', hf'⟩ := unhide H
        exact ⟨k + 1, by omega, by go_num, hnew, hb', hf'⟩
      case measure => simp [intOf]; omega
    · obtain rfl : k = 8 := by omega
      go_wp2_with fail
      go_ret
      exact ⟨rfl, EntsAt.of_row hr, hb⟩
theorem eq_ent (n1 d1 n2 d2 : ByteArray) (k1 k2 : Int) (w : World) :
    (Op.equalIn 10000 32 (.agg #[.string n1, .int .i64 k1, .string d1]) (.agg #[.string n2, .int .i64 k2, .string d2])).run Tryz.prog w
      = .ok (n1.toList == n2.toList && (k1 == k2 && d1.toList == d2.toList)) w := by
  have u3 := Tryz.underlying3
  have u9 := Tryz.underlying9
  have a3 := Tryz.isAgg3
  have a9 := Tryz.isAgg9
  have z3 := Tryz.sizeOf3
  have z9 := Tryz.sizeOf9
  have hS : Tryz.prog.underlying 32 = some (.struct (Tryz.prog.fieldsOf 32)) := by kernel_rfl
  have hp : Tryz.prog.stoodInHeld 32 = false := by kernel_rfl
  rw [show (10000 : Nat) = 9999 + 1 from rfl, run_equalIn_agg w 9999 32 _ _ hS hp]
  simp only [Program.fieldsOf, Tryz.underlying32]
  go_simp
  by_cases h1 : n1.toList = n2.toList <;> by_cases h2 : k1 = k2 <;> by_cases h3 : d1.toList = d2.toList <;> simp [h1, h2, h3]
set_option maxHeartbeats 1000000 in
theorem sameEntries_same (l : List En) (a1 a2 : Option Addr) (c1 c2 : Nat) (w : World) (hl : l.length ≤ maxLen) (h1 : LiesE w a1 l) (h2 : LiesE w a2 l) :
    Calls Tryz.prog 44 #[.slice a1 l.length c1, .slice a2 l.length c2] w fun e w' => e = .returned (.bool true) ∧ ∃ n, w' = w.drewN n := by
  unfold maxLen at hl
  have hb : ((l.length : Int) != (l.length : Int)) = false := by simp
  go_enter Tryz.func44, Tryz.ntmps44
  go_wp2_with fail
  go_loopw [5] (fun i wr => ∃ k : Nat, k ≤ l.length ∧ i = .int .i64 k ∧ ∃ n, wr = w.drewN n) (fun i _ => l.length - (intOf i).toNat)
  case atStart => exact ⟨0, by omega, rfl, 0, rfl⟩
  case round =>
    obtain ⟨k, hk, rfl, n, hwr⟩ := hrel
    subst hwr
    by_cases hlt : k < l.length
    · obtain ⟨b1, o1, rfl, i1⟩ : ∃ b o, a1 = some ⟨b, o, none⟩ ∧ EntsAt w b o l := by
        rcases h1 with h | h
        · subst h; simp at hlt
        · exact h
      obtain ⟨b2, o2, rfl, i2⟩ : ∃ b o, a2 = some ⟨b, o, none⟩ ∧ EntsAt w b o l := by
        rcases h2 with h | h
        · subst h; simp at hlt
        · exact h
      obtain ⟨p0, p1, p2⟩ := i1 k hlt
      obtain ⟨q0, q1, q2⟩ := i2 k hlt
      generalize l[k] = x at *
      obtain ⟨nm, kd, dg⟩ := x
      simp only at p0 p1 p2 q0 q1 q2
      have hlt' : (k : Int) < (l.length : Int) := by omega
      have heq : ∀ w, (Op.equalIn 10000 32 (.agg #[.string nm, .int .i64 kd, .string dg]) (.agg #[.string nm, .int .i64 kd, .string dg])).run Tryz.prog w = .ok true w := fun w => by
        rw [eq_ent]; simp
      go_wp2_with fail
      go_quiet (fail)
      go_wp2
      go_roundw
      case rel => exact ⟨k + 1, by omega, by go_num, _, rfl⟩
      case measure => simp [intOf]; omega
    · obtain rfl : k = l.length := by omega
      go_wp2_with fail
      go_ret
      exact ⟨rfl, n, rfl⟩
theorem emarked_at (l : List En) (j : Nat) (hj : l.length ≤ j) (h : j < (emarked l 8).length) : (emarked l 8)[j] = enMark := by
  have hl := emarked_len l 8 (by omega)
  have e : (emarked l 8)[j]? = some enMark := by
    unfold emarked
    rw [List.getElem?_append_right hj, List.getElem?_append_left (by simp; omega), List.getElem?_replicate, if_pos (by omega)]
  rw [List.getElem?_eq_getElem h] at e
  exact Option.some.inj e
theorem emarked_lo (l : List En) (j : Nat) (hj : j < l.length) (h : j < (emarked l 8).length) : (emarked l 8)[j] = l[j] := by
  have e : (emarked l 8)[j]? = some l[j] := by
    unfold emarked
    rw [List.getElem?_append_left hj, List.getElem?_eq_getElem hj]
  rw [List.getElem?_eq_getElem h] at e
  exact Option.some.inj e
theorem stillEntries_nil (w : World) :
    Calls Tryz.prog 16 #[.slice none 0 0, .slice none 0 0] w fun e w' => e = .returned (.bool true) ∧ ∃ n, w' = w.drewN n := by
  have hq := eqlE_nil
  go_enter Tryz.func16, Tryz.ntmps16
  go_wp2_with fail
  refine (sameEntries_same [] none none 0 0 w (by decide) (.inl rfl) (.inl rfl)).mono ?_
  rintro e w1 ⟨rfl, n, hw⟩
  subst hw
  go_wp2_with fail
  go_ret
  exact ⟨rfl, n, rfl⟩
set_option maxHeartbeats 1000000 in
theorem stillEntries_some (l : List En) (g : Nat) (a2 : Option Addr) (c2 : Nat) (w : World) (hl : l.length * 40 ≤ 140737488351232) (h1 : EntsAt w g 0 (emarked l 8)) (h2 : LiesE w a2 l) :
    Calls Tryz.prog 16 #[.slice (some ⟨g, 0, none⟩) l.length (l.length + 8), .slice a2 l.length c2] w fun e w' => e = .returned (.bool true) ∧ ∃ n, w' = w.drewN n := by
  have hq := eqlE_nil
  have h1l : EntsAt w g 0 l := fun i hi => by
    have := h1 i (by rw [emarked_len l 8 (by omega)]; omega)
    rw [emarked_lo l i hi] at this
    exact this
  go_enter Tryz.func16, Tryz.ntmps16
  go_wp2_with fail
  refine (sameEntries_same l (some ⟨g, 0, none⟩) a2 _ _ w (by unfold maxLen; omega) (.inr ⟨g, 0, rfl, h1l⟩) h2).mono ?_
  rintro e w1 ⟨rfl, n, hw⟩
  subst hw
  have hle : (l.length : Int) + 8 ≤ ((l.length + 8 : Nat) : Int) := by omega
  go_wp2_with fail
  clear hq
  go_loop [7] (fun i => ∃ j : Nat, l.length ≤ j ∧ j ≤ l.length + 8 ∧ i = .int .i64 j) (fun i => l.length + 8 - (intOf i).toNat)
  case atStart => exact ⟨l.length, by omega, by omega, rfl⟩
  case round =>
    obtain ⟨j, hj1, hj2, rfl⟩ := hrel
    by_cases hlt : j < l.length + 8
    · have hjm : j < (emarked l 8).length := by rw [emarked_len l 8 (by omega)]; exact hlt
      have hmk := emarked_at l j hj1 hjm
      obtain ⟨c0, c1, c2⟩ := h1 j hjm
      rw [hmk] at c0 c1 c2
      simp only [enMark, Nat.zero_add] at c0 c1 c2
      have hlt' : (j : Int) < ((l.length + 8 : Nat) : Int) := by omega
      clear hmk
      go_wp2_with fail
      go_round
      case rel => exact ⟨j + 1, by omega, by omega, by go_num⟩
      case measure => simp [intOf]; omega
    · obtain rfl : j = l.length + 8 := by omega
      go_wp2_with fail
      go_ret
      exact ⟨rfl, n, rfl⟩
theorem cells_ent : Tryz.prog.cellsOf 32 = 3 := by kernel_rfl
set_option maxRecDepth 100000 in
theorem open_entry {H : Type} {enc : TypeId × Value → H} {W : World} {base : Nat} {sp : Nat → Bool} {held : Bool} {fuel : Nat} {cs : List Value} {x : DataW H × List MemPlace}
    (h : DataW.trod enc Tryz.prog W base sp held fuel 32 cs = some x) : ∃ y : En, cs = enCells y ∧ EFits y := by
  obtain ⟨xs, n, _, rfl, hl, hlen, hf⟩ := DataW.trod_struct Tryz.underlying32 h
  rw [cells_ent] at hl
  match cs, hl with
  | [v0, v1, v2], _ =>
    have h0 : DataW.trod enc Tryz.prog W base sp held n 9 (([v0, v1, v2].drop 0).take (Tryz.prog.cellsOf 9)) = xs[0]? := hf 0 _ rfl
    have h1 : DataW.trod enc Tryz.prog W base sp held n 3 (([v0, v1, v2].drop 1).take (Tryz.prog.cellsOf 3)) = xs[1]? := hf 1 _ rfl
    have h2 : DataW.trod enc Tryz.prog W base sp held n 9 (([v0, v1, v2].drop 2).take (Tryz.prog.cellsOf 9)) = xs[2]? := hf 2 _ rfl
    rw [cells_str] at h0 h2
    rw [cells_int] at h1
    match xs, hlen with
    | [y0, y1, y2], _ =>
      obtain ⟨s0, e0, _, z0⟩ := DataW.trod_string Tryz.underlying9 h0
      obtain ⟨s1, e1, _, z1⟩ := DataW.trod_int Tryz.underlying3 h1
      obtain ⟨s2, e2, _, z2⟩ := DataW.trod_string Tryz.underlying9 h2
      simp at e0 e1 e2
      subst e0 e1 e2
      exact ⟨⟨s0, s1, s2⟩, rfl, z0, z2⟩
set_option maxRecDepth 100000 in
theorem open_entries {H : Type} {enc : TypeId × Value → H} {W : World} {base : Nat} {sp : Nat → Bool} {held : Bool} {fuel : Nat} {a : Option Addr} {len cap : Nat} {x : DataW H × List MemPlace}
    (h : DataW.trod enc Tryz.prog W base sp held fuel 22 [.slice a len cap] = some x) :
    ∃ l : List En, l.length = len ∧ LiesE W a l ∧ EFitAll l ∧ len ≤ maxLen ∧ (a = none → cap = 0) ∧ ((x.1 = .nil ∧ a = none ∧ len = 0) ∨ ∃ elems spare, x.1 = .slice elems spare ∧ elems.length = len) := by
  rcases Deep.open_slice Tryz.underlying22 h with ⟨hcs, rfl⟩ | ⟨ad, len', cap', m, n, D, Pl, hcs, _, hl, hm, hmm, rfl, hel⟩
  · simp at hcs
    obtain ⟨rfl, rfl, rfl⟩ := hcs
    exact ⟨[], rfl, .inl rfl, fun i hi => absurd hi (by simp), by decide, fun _ => rfl, .inl ⟨rfl, rfl, rfl⟩⟩
  · simp at hcs
    obtain ⟨rfl, rfl, rfl⟩ := hcs
    have hlm : len ≤ m := by rw [hmm]; split <;> omega
    have hex : ∀ i, i < len → ∃ y : En, EFits y ∧ ∀ j v, (enCells y)[j]? = some v → W.cell? ((ad.add (i * 3)).add j) = some v := by
      intro i hi
      obtain ⟨cs', hc, ht⟩ := hel i (by omega)
      obtain ⟨y, rfl, hy⟩ := open_entry ht
      rw [cells_ent] at hc
      obtain ⟨_, hlen, hcc⟩ := World.cells?_some hc
      refine ⟨y, hy, fun j v hv => ?_⟩
      have hj : j < 3 := (List.getElem?_eq_some_iff.1 hv).1
      rw [← hv]
      exact hcc j hj
    obtain ⟨l, hll, hp⟩ := list_choose hex
    refine ⟨l, hll, ?_, fun i hi => (hp i hi).1, by omega, fun h => by simp at h, .inr ⟨_, _, rfl, by simp⟩⟩
    rcases Nat.eq_zero_or_pos len with h0 | hpos
    · left; exact List.eq_nil_of_length_eq_zero (by omega)
    · right
      obtain ⟨b, o, spot⟩ := ad
      have hc := (hp 0 (by omega)).2 0 _ rfl
      have hspot : spot = none := by simpa [Addr.add] using World.cell?_spot hc
      subst hspot
      refine ⟨b, o, rfl, EntsAt.of_row ?_⟩
      intro i hi j v hv
      have := (hp i hi).2 j v hv
      rw [add_off, add_off] at this
      exact this
end Go.Proofs.YtjmacegibchplaaGreatDoor
