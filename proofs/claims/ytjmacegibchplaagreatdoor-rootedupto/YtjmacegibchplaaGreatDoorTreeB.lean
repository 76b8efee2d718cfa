import Derived.Test.YtjmacegibchplaaGreatDoorTreeR
import Derived.Test.YtjmacegibchplaaGreatDoorItemO
/-
  Lists of entries in memory; the statements' own copies of them, and how they are looked at again; a list of entries that comes in, opened.
-/
namespace Go.Proofs.YtjmacegibchplaaGreatDoor
open Go.RowKit
set_option linter.unusedVariables false

/-- an entry in memory -/
def EntAt (w : World) (b p : Nat) (x : En) : Prop := w.cell? ⟨b, p, none⟩ = some (.string x.path) ∧ w.cell? ⟨b, p + 1, none⟩ = some (.int .i64 x.kind) ∧ w.cell? ⟨b, p + 2, none⟩ = some (.string x.data)
def EntsAt (w : World) (b o : Nat) (l : List En) : Prop := ∀ i (h : i < l.length), EntAt w b (o + i * 3) l[i]
def LiesE (w : World) (a : Option Addr) (l : List En) : Prop := l = [] ∨ ∃ b o, a = some ⟨b, o, none⟩ ∧ EntsAt w b o l
structure EFits (x : En) : Prop where
  path : x.path.size ≤ maxLen
  data : x.data.size ≤ maxLen
def EFitAll (l : List En) : Prop := ∀ i (h : i < l.length), EFits l[i]
def enCells (x : En) : List Value := [.string x.path, .int .i64 x.kind, .string x.data]
theorem enCells_len (x : En) : (enCells x).length = 3 := rfl
theorem enCells_one (l : List En) : ∀ v ∈ rowCells enCells l, v.oneCell' = true := by
  intro v hv
  simp only [rowCells, List.mem_flatten, List.mem_map] at hv
  obtain ⟨c, ⟨x, _, rfl⟩, hx⟩ := hv
  simp only [enCells, List.mem_cons, List.not_mem_nil, or_false] at hx
  rcases hx with rfl | rfl | rfl <;> rfl
theorem EntsAt.row {w : World} {b o : Nat} {l : List En} (h : EntsAt w b o l) : RowAt enCells 3 w b o l := by
  intro i hi j v hv
  obtain ⟨c0, c1, c2⟩ := h i hi
  match j, hv with
  | 0, hv => simp [enCells] at hv; rw [← hv]; exact c0
  | 1, hv => simp [enCells] at hv; rw [← hv]; exact c1
  | 2, hv => simp [enCells] at hv; rw [← hv]; exact c2
  | j + 3, hv => simp [enCells] at hv
theorem EntsAt.of_row {w : World} {b o : Nat} {l : List En} (h : RowAt enCells 3 w b o l) : EntsAt w b o l := by
  intro i hi
  exact ⟨h i hi 0 _ rfl, h i hi 1 _ rfl, h i hi 2 _ rfl⟩
theorem EntsAt.below {B : Nat} {w w' : World} {b o : Nat} {l : List En} (h : EntsAt w b o l) (hb : Below B w w') (hB : w.heap.size ≤ B) : EntsAt w' b o l := .of_row (h.row.below hb hB)
theorem LiesE.below {B : Nat} {w w' : World} {a : Option Addr} {l : List En} (h : LiesE w a l) (hb : Below B w w') (hB : w.heap.size ≤ B) : LiesE w' a l := by
  rcases h with h | ⟨b, o, e, h⟩
  · exact .inl h
  · exact .inr ⟨b, o, e, h.below hb hB⟩
def enMark : En := ⟨⟨#[]⟩, -77, ⟨#[]⟩⟩
theorem info_ent : (Tryz.prog.info? 32).map (fun i => (i.zero, i.size, i.bytes)) = some (some (.agg #[.string ⟨#[]⟩, .int .i64 0, .string ⟨#[]⟩]), 3, 40) := by kernel_rfl
/-- behind i marks -/
def emarked (l : List En) (i : Nat) : List En := l ++ (List.replicate i enMark ++ List.replicate (8 - i) en0)
theorem emarked_len (l : List En) (i : Nat) (h : i ≤ 8) : (emarked l i).length = l.length + 8 := by simp [emarked]; omega
theorem emarked_succ (l : List En) (i : Nat) (h : i < 8) : (emarked l i).set (l.length + i) enMark = emarked l (i + 1) := by
  unfold emarked
  rw [List.set_append_right _ _ (by omega), List.set_append_right _ _ (by simp)]
  congr 1
  rw [show (8 - i) = (8 - (i + 1)) + 1 by omega, List.replicate_succ]
  simp [List.replicate_succ']
theorem eqlE_nil (a : Option Addr) (n c : Nat) (w : World) : (binOp .eql 22 (.slice a n c) (.slice none 0 0)).run Tryz.prog w = .ok (.bool a.isNone) w :=
  Lib.run_eql_slice_nil w 22 32 a n c 0 0 Tryz.underlying22
theorem entriesOf_nil (w : World) :
    Calls Tryz.prog 15 #[.slice none 0 0] w fun e w' => e = .returned (.slice none 0 0) ∧ w' = w := by
  have hq := eqlE_nil
  go_enter Tryz.func15, Tryz.ntmps15
  go_wp2
  go_ret
  exact ⟨rfl, rfl⟩
theorem LiesE.src {w : World} {ad : Addr} {l : List En} (h : LiesE w (some ad) l) : ∀ j v, (rowCells enCells l)[j]? = some v → w.cell? (ad.add j) = some v := by
  rcases h with rfl | ⟨b, o, e, h⟩
  · intro j v hv; simp [rowCells] at hv
  · simp at e; subst e
    exact h.row.src enCells_len
theorem set3 (w : World) (b p : Nat) (x : En) : w.setCells b p (enCells x) = ((w.setCell ⟨b, p, none⟩ (.string x.path)).setCell ⟨b, p + 1, none⟩ (.int .i64 x.kind)).setCell ⟨b, p + 2, none⟩ (.string x.data) := rfl
set_option maxRecDepth 100000 in
set_option maxHeartbeats 1000000 in
theorem entriesOf_some (l : List En) (ad : Addr) (c : Nat) (w : World) (hl : l.length * 40 ≤ 140737488351232) (hi : LiesE w (some ad) l) :
    Calls Tryz.prog 15 #[.slice (some ad) l.length c] w fun e w' => e = .returned (.slice (some ⟨w.heap.size, 0, none⟩) l.length (l.length + 8)) ∧ EntsAt w' w.heap.size 0 (emarked l 8) ∧ Below w.heap.size w w' := by
  have hq := eqlE_nil
  have hlen := rowCells_length (n := 3) enCells_len l
  obtain ⟨W1, hmk, hrow, hbel, hfz⟩ : ∃ W1, (Instr.makeSlice 22 (.int .i64 ((l.length : Int) + 8)) (.int .i64 ((l.length : Int) + 8))).run Tryz.prog w = .ok (.slice (some ⟨w.heap.size, 0, none⟩) (l.length + 8) (l.length + 8)) W1
      ∧ RowAt enCells 3 W1 w.heap.size 0 (List.replicate (l.length + 8) en0) ∧ Below w.heap.size w W1 ∧ ∀ j, W1.frozen? ⟨w.heap.size, j, none⟩ = false := by
    obtain ⟨i0, hi0, hz0, hz1, hz2⟩ := info_parts info_ent
    have h := run_make (P := Tryz.prog) w 22 32 i0 _ Tryz.underlying22 hi0 hz0 .i64 .i64 ((l.length : Int) + 8) ((l.length : Int) + 8) (by omega) (by omega) (by rw [hz2]; omega) (by omega)
    rw [hz1, show ((l.length : Int) + 8).toNat = l.length + 8 by omega] at h
    exact ⟨_, h, RowAt.made enCells_len en0 _ rfl (l.length + 8) w 32, (Below.refl _ _).alloc (Nat.le_refl _) _, fun j => free_block (heap_alloc_new w _)⟩
  have hsrc := (hi.below hbel (Nat.le_refl _)).src
  have hcp := run_copy_rec (P := Tryz.prog) W1 22 22 3 32 w.heap.size 0 (l.length + 8) (l.length + 8) ad l.length c 3 (rowCells enCells l) Tryz.underlying22 (by kernel_rfl)
    (by rw [hlen]; congr 1; exact (Nat.min_eq_left (by omega)).symm) hsrc (fun j hj => hrow.there enCells_len j (by simp; omega)) (fun j _ => by rw [Nat.zero_add]; exact hfz j) (enCells_one l)
  have hrow2 : RowAt enCells 3 (W1.setCells w.heap.size 0 (rowCells enCells l)) w.heap.size 0 (emarked l 0) := by
    have := hrow.copied enCells_len l (by simp)
    unfold emarked
    simpa using this
  have hbel2 := below_setCells w.heap.size (Nat.le_refl _) (rowCells enCells l) 0 W1 hbel
  have hfz2 : ∀ j, (W1.setCells w.heap.size 0 (rowCells enCells l)).frozen? ⟨w.heap.size, j, none⟩ = false := fun j => by rw [World.frozen?_setCells]; exact hfz j
  generalize W1.setCells w.heap.size 0 (rowCells enCells l) = W2 at *
  clear hrow hfz hsrc hbel hi hlen
  go_enter Tryz.func15, Tryz.ntmps15
  go_wp2_with fail
  clear hcp hmk hq
  go_loopw [5] (fun i wr => ∃ k : Nat, k ≤ 8 ∧ i = .int .i64 k ∧ RowAt enCells 3 wr w.heap.size 0 (emarked l k) ∧ Below w.heap.size w wr ∧ ∀ j, wr.frozen? ⟨w.heap.size, j, none⟩ = false) (fun i _ => 8 - (intOf i).toNat)
  case atStart => exact ⟨0, by omega, rfl, hrow2, hbel2, hfz2⟩
  case round =>
    obtain ⟨k, hk, rfl, hr, hb, hf⟩ := hrel
    clear hrow2 hbel2 hfz2
    by_cases hlt : k < 8
    · obtain ⟨c0, c1, c2⟩ := EntsAt.of_row hr (l.length + k) (by rw [emarked_len l k hk]; omega)
      have hnew := hr.store enCells_len (l.length + k) (by rw [emarked_len l k hk]; omega) enMark
      rw [emarked_succ l k hlt] at hnew
      generalize (emarked l k)[l.length + k]'(by rw [emarked_len l k hk]; omega) = y at *
      obtain ⟨nm, kd, dg⟩ := y
      simp only [Nat.zero_add] at c0 c1 c2
      have f0 := hf ((l.length + k) * 3)
      have f1 := hf ((l.length + k) * 3 + 1)
      have f2 := hf ((l.length + k) * 3 + 2)
      have hb' := below_setCells w.heap.size (Nat.le_refl _) (enCells enMark) (0 + (l.length + k) * 3) wr hb
      have hf' : ∀ j, (wr.setCells w.heap.size (0 + (l.length + k) * 3) (enCells enMark)).frozen? ⟨w.heap.size, j, none⟩ = false := fun j => by rw [World.frozen?_setCells]; exact hf j
      rw [Nat.zero_add, set3] at hnew hb'
      simp only [Nat.zero_add, set3] at hf'
      simp only [enMark] at hnew hb' hf'
      have H := hide (And.intro hnew (And.intro hb' hf'))
      clear hnew hb' hf' hf
      go_wp2_with fail
      go_roundw
      case rel =>
        obtain ⟨hnew, hb', hf'⟩ := unhide H
        exact ⟨k + 1, by omega, by go_num, hnew, hb', hf'⟩
      case measure => simp [intOf]; omega
    · obtain rfl : k = 8 := by omega
      go_wp2_with fail
      go_ret
      exact ⟨rfl, EntsAt.of_row hr, hb⟩
theorem eq_ent (n1 d1 n2 d2 : ByteArray) (k1 k2 : Int) (w : World) :
    (Op.equalIn 10000 32 (.agg #[.string n1, .int .i64 k1, .string d1]) (.agg #[.string n2, .int .i64 k2, .string d2])).run Tryz.prog w
      = .ok (n1.toList == n2.toList && (k1 == k2 && d1.toList == d2.toList)) w := by
  have u3 := Tryz.underlying3
  have u9 := Tryz.underlying9
  have a3 := Tryz.isAgg3
  have a9 := Tryz.isAgg9
  have z3 := Tryz.sizeOf3
  have z9 := Tryz.sizeOf9
  have hS : Tryz.prog.underlying 32 = some (.struct (Tryz.prog.fieldsOf 32)) := by kernel_rfl
  have hp : Tryz.prog.stoodInHeld 32 = false := by kernel_rfl
  rw [show (10000 : Nat) = 9999 + 1 from rfl, run_equalIn_agg w 9999 32 _ _ hS hp]
  simp only [Program.fieldsOf, Tryz.underlying32]
  go_simp
  by_cases h1 : n1.toList = n2.toList <;> by_cases h2 : k1 = k2 <;> by_cases h3 : d1.toList = d2.toList <;> simp [h1, h2, h3]
set_option maxHeartbeats 1000000 in
theorem sameEntries_same (l : List En) (a1 a2 : Option Addr) (c1 c2 : Nat) (w : World) (hl : l.length ≤ maxLen) (h1 : LiesE w a1 l) (h2 : LiesE w a2 l) :
    Calls Tryz.prog 44 #[.slice a1 l.length c1, .slice a2 l.length c2] w fun e w' => e = .returned (.bool true) ∧ ∃ n, w' = w.drewN n := by
  unfold maxLen at hl
  have hb : ((l.length : Int) != (l.length : Int)) = false := by simp
  go_enter Tryz.func44, Tryz.ntmps44
  go_wp2_with fail
  go_loopw [5] (fun i wr => ∃ k : Nat, k ≤ l.length ∧ i = .int .i64 k ∧ ∃ n, wr = w.drewN n) (fun i _ => l.length - (intOf i).toNat)
  case atStart => exact ⟨0, by omega, rfl, 0, rfl⟩
  case round =>
    obtain ⟨k, hk, rfl, n, hwr⟩ := hrel
    subst hwr
    by_cases hlt : k < l.length
    · obtain ⟨b1, o1, rfl, i1⟩ : ∃ b o, a1 = some ⟨b, o, none⟩ ∧ EntsAt w b o l := by
        rcases h1 with h | h
        · subst h; simp at hlt
        · exact h
      obtain ⟨b2, o2, rfl, i2⟩ : ∃ b o, a2 = some ⟨b, o, none⟩ ∧ EntsAt w b o l := by
        rcases h2 with h | h
        · subst h; simp at hlt
        · exact h
      obtain ⟨p0, p1, p2⟩ := i1 k hlt
      obtain ⟨q0, q1, q2⟩ := i2 k hlt
      generalize l[k] = x at *
      obtain ⟨nm, kd, dg⟩ := x
      simp only at p0 p1 p2 q0 q1 q2
      have hlt' : (k : Int) < (l.length : Int) := by omega
      have heq : ∀ w, (Op.equalIn 10000 32 (.agg #[.string nm, .int .i64 kd, .string dg]) (.agg #[.string nm, .int .i64 kd, .string dg])).run Tryz.prog w = .ok true w := fun w => by
        rw [eq_ent]; simp
      go_wp2_with fail
      go_quiet (fail)
      go_wp2
      go_roundw
      case rel => exact ⟨k + 1, by omega, by go_num, _, rfl⟩
      case measure => simp [intOf]; omega
    · obtain rfl : k = l.length := by omega
      go_wp2_with fail
      go_ret
      exact ⟨rfl, n, rfl⟩
theorem emarked_at (l : List En) (j : Nat) (hj : l.length ≤ j) (h : j < (emarked l 8).length) : (emarked l 8)[j] = enMark := by
  have hl := emarked_len l 8 (by omega)
  have e : (emarked l 8)[j]? = some enMark := by
    unfold emarked
    rw [List.getElem?_append_right hj, List.getElem?_append_left (by simp; omega), List.getElem?_replicate, if_pos (by omega)]
  rw [List.getElem?_eq_getElem h] at e
  exact Option.some.inj e
theorem emarked_lo (l : List En) (j : Nat) (hj : j < l.length) (h : j < (emarked l 8).length) : (emarked l 8)[j] = l[j] := by
  have e : (emarked l 8)[j]? = some l[j] := by
    unfold emarked
    rw [List.getElem?_append_left hj, List.getElem?_eq_getElem hj]
  rw [List.getElem?_eq_getElem h] at e
  exact Option.some.inj e
theorem stillEntries_nil (w : World) :
    Calls Tryz.prog 16 #[.slice none 0 0, .slice none 0 0] w fun e w' => e = .returned (.bool true) ∧ ∃ n, w' = w.drewN n := by
  have hq := eqlE_nil
  go_enter Tryz.func16, Tryz.ntmps16
  go_wp2_with fail
  refine (sameEntries_same [] none none 0 0 w (by decide) (.inl rfl) (.inl rfl)).mono ?_
  rintro e w1 ⟨rfl, n, hw⟩
  subst hw
  go_wp2_with fail
  go_ret
  exact ⟨rfl, n, rfl⟩
set_option maxHeartbeats 1000000 in
theorem stillEntries_some (l : List En) (g : Nat) (a2 : Option Addr) (c2 : Nat) (w : World) (hl : l.length * 40 ≤ 140737488351232) (h1 : EntsAt w g 0 (emarked l 8)) (h2 : LiesE w a2 l) :
    Calls Tryz.prog 16 #[.slice (some ⟨g, 0, none⟩) l.length (l.length + 8), .slice a2 l.length c2] w fun e w' => e = .returned (.bool true) ∧ ∃ n, w' = w.drewN n := by
  have hq := eqlE_nil
  have h1l : EntsAt w g 0 l := fun i hi => by
    have := h1 i (by rw [emarked_len l 8 (by omega)]; omega)
    rw [emarked_lo l i hi] at this
    exact this
  go_enter Tryz.func16, Tryz.ntmps16
  go_wp2_with fail
  refine (sameEntries_same l (some ⟨g, 0, none⟩) a2 _ _ w (by unfold maxLen; omega) (.inr ⟨g, 0, rfl, h1l⟩) h2).mono ?_
  rintro e w1 ⟨rfl, n, hw⟩
  subst hw
  have hle : (l.length : Int) + 8 ≤ ((l.length + 8 : Nat) : Int) := by omega
  go_wp2_with fail
  clear hq
  go_loop [7] (fun i => ∃ j : Nat, l.length ≤ j ∧ j ≤ l.length + 8 ∧ i = .int .i64 j) (fun i => l.length + 8 - (intOf i).toNat)
  case atStart => exact ⟨l.length, by omega, by omega, rfl⟩
  case round =>
    obtain ⟨j, hj1, hj2, rfl⟩ := hrel
    by_cases hlt : j < l.length + 8
    · have hjm : j < (emarked l 8).length := by rw [emarked_len l 8 (by omega)]; exact hlt
      have hmk := emarked_at l j hj1 hjm
      obtain ⟨c0, c1, c2⟩ := h1 j hjm
      rw [hmk] at c0 c1 c2
      simp only [enMark, Nat.zero_add] at c0 c1 c2
      have hlt' : (j : Int) < ((l.length + 8 : Nat) : Int) := by omega
      clear hmk
      go_wp2_with fail
      go_round
      case rel => exact ⟨j + 1, by omega, by omega, by go_num⟩
      case measure => simp [intOf]; omega
    · obtain rfl : j = l.length + 8 := by omega
      go_wp2_with fail
      go_ret
      exact ⟨rfl, n, rfl⟩
theorem cells_ent : Tryz.prog.cellsOf 32 = 3 := by kernel_rfl
set_option maxRecDepth 100000 in
theorem open_entry {H : Type} {enc : TypeId × Value → H} {W : World} {base : Nat} {sp : Nat → Bool} {held : Bool} {fuel : Nat} {cs : List Value} {x : DataW H × List MemPlace}
    (h : DataW.trod enc Tryz.prog W base sp held fuel 32 cs = some x) : ∃ y : En, cs = enCells y ∧ EFits y := by
  obtain ⟨xs, n, _, rfl, hl, hlen, hf⟩ := DataW.trod_struct Tryz.underlying32 h
  rw [cells_ent] at hl
  match cs, hl with
  | [v0, v1, v2], _ =>
    have h0 : DataW.trod enc Tryz.prog W base sp held n 9 (([v0, v1, v2].drop 0).take (Tryz.prog.cellsOf 9)) = xs[0]? := hf 0 _ rfl
    have h1 : DataW.trod enc Tryz.prog W base sp held n 3 (([v0, v1, v2].drop 1).take (Tryz.prog.cellsOf 3)) = xs[1]? := hf 1 _ rfl
    have h2 : DataW.trod enc Tryz.prog W base sp held n 9 (([v0, v1, v2].drop 2).take (Tryz.prog.cellsOf 9)) = xs[2]? := hf 2 _ rfl
    rw [cells_str] at h0 h2
    rw [cells_int] at h1
    match xs, hlen with
    | [y0, y1, y2], _ =>
      obtain ⟨s0, e0, _, z0⟩ := DataW.trod_string Tryz.underlying9 h0
      obtain ⟨s1, e1, _, z1⟩ := DataW.trod_int Tryz.underlying3 h1
      obtain ⟨s2, e2, _, z2⟩ := DataW.trod_string Tryz.underlying9 h2
      simp at e0 e1 e2
      subst e0 e1 e2
      exact ⟨⟨s0, s1, s2⟩, rfl, z0, z2⟩
set_option maxRecDepth 100000 in
theorem open_entries {H : Type} {enc : TypeId × Value → H} {W : World} {base : Nat} {sp : Nat → Bool} {held : Bool} {fuel : Nat} {a : Option Addr} {len cap : Nat} {x : DataW H × List MemPlace}
    (h : DataW.trod enc Tryz.prog W base sp held fuel 22 [.slice a len cap] = some x) :
    ∃ l : List En, l.length = len ∧ LiesE W a l ∧ EFitAll l ∧ len ≤ maxLen ∧ (a = none → cap = 0) ∧ ((x.1 = .nil ∧ a = none ∧ len = 0) ∨ ∃ elems spare, x.1 = .slice elems spare ∧ elems.length = len) := by
  rcases Deep.open_slice Tryz.underlying22 h with ⟨hcs, rfl⟩ | ⟨ad, len', cap', m, n, D, Pl, hcs, _, hl, hm, hmm, rfl, hel⟩
  · simp at hcs
    obtain ⟨rfl, rfl, rfl⟩ := hcs
    exact ⟨[], rfl, .inl rfl, fun i hi => absurd hi (by simp), by decide, fun _ => rfl, .inl ⟨rfl, rfl, rfl⟩⟩
  · simp at hcs
    obtain ⟨rfl, rfl, rfl⟩ := hcs
    have hlm : len ≤ m := by rw [hmm]; split <;> omega
    have hex : ∀ i, i < len → ∃ y : En, EFits y ∧ ∀ j v, (enCells y)[j]? = some v → W.cell? ((ad.add (i * 3)).add j) = some v := by
      intro i hi
      obtain ⟨cs', hc, ht⟩ := hel i (by omega)
      obtain ⟨y, rfl, hy⟩ := open_entry ht
      rw [cells_ent] at hc
      obtain ⟨_, hlen, hcc⟩ := World.cells?_some hc
      refine ⟨y, hy, fun j v hv => ?_⟩
      have hj : j < 3 := (List.getElem?_eq_some_iff.1 hv).1
      rw [← hv]
      exact hcc j hj
    obtain ⟨l, hll, hp⟩ := list_choose hex
    refine ⟨l, hll, ?_, fun i hi => (hp i hi).1, by omega, fun h => by simp at h, .inr ⟨_, _, rfl, by simp⟩⟩
    rcases Nat.eq_zero_or_pos len with h0 | hpos
    · left; exact List.eq_nil_of_length_eq_zero (by omega)
    · right
      obtain ⟨b, o, spot⟩ := ad
      have hc := (hp 0 (by omega)).2 0 _ rfl
      have hspot : spot = none := by simpa [Addr.add] using World.cell?_spot hc
      subst hspot
      refine ⟨b, o, rfl, EntsAt.of_row ?_⟩
      intro i hi j v hv
      have := (hp i hi).2 j v hv
      rw [add_off, add_off] at this
      exact this
end Go.Proofs.YtjmacegibchplaaGreatDoor

/-
  The document's search of paths, its test of an entry and of a tree: their contracts.
-/
namespace Go.Proofs.YtjmacegibchplaaGreatDoor
open Go.RowKit
set_option linter.unusedVariables false

theorem findP_hit (l : List En) (p : List UInt8) (k : Nat) (hk : k < l.length) (h : l[k].path.data.toList = p) (hn : ∀ j (h : j < l.length), j < k → l[j].path.data.toList ≠ p) : findP l p = k := by
  have : l.findIdx? (fun e => e.path.data.toList == p) = some k := by
    rw [List.findIdx?_eq_some_iff_getElem]
    exact ⟨hk, by simpa using h, fun j hj => by simpa using hn j (by omega) hj⟩
  unfold findP; rw [this]
theorem findP_none (l : List En) (p : List UInt8) (hn : ∀ j (h : j < l.length), l[j].path.data.toList ≠ p) : findP l p = -1 := by
  have : l.findIdx? (fun e => e.path.data.toList == p) = none := by
    rw [List.findIdx?_eq_none_iff]
    intro x hx
    obtain ⟨j, hj, rfl⟩ := List.getElem_of_mem hx
    simpa using hn j hj
  unfold findP; rw [this]
theorem findP_bd (l : List En) (p : List UInt8) : -1 ≤ findP l p ∧ findP l p < l.length := by
  unfold findP
  split
  · rename_i i h
    rw [List.findIdx?_eq_some_iff_getElem] at h
    obtain ⟨h, _⟩ := h
    omega
  · omega
theorem EntsAt.get {w : World} {a : Option Addr} {l : List En} (h : LiesE w a l) {k : Nat} (hk : k < l.length) : ∃ b o, a = some ⟨b, o, none⟩ ∧ EntsAt w b o l := by
  rcases h with h | h
  · subst h; simp at hk
  · exact h
set_option maxHeartbeats 1000000 in
theorem find_any (l : List En) (a : Option Addr) (c : Nat) (q : ByteArray) (w : World) (hl : l.length ≤ maxLen) (hi : LiesE w a l) :
    Calls Tryz.prog 48 #[.slice a l.length c, .string q] w fun e w' => e = .returned (.int .i64 (findP l q.data.toList)) ∧ w' = w := by
  unfold maxLen at hl
  go_enter Tryz.func48, Tryz.ntmps48
  go_wp2_with fail
  go_loop [5] (fun i => ∃ k : Nat, k ≤ l.length ∧ i = .int .i64 k ∧ ∀ j (h : j < l.length), j < k → l[j].path.data.toList ≠ q.data.toList) (fun i => l.length - (intOf i).toNat)
  case atStart => exact ⟨0, Nat.zero_le _, rfl, fun j _ h => absurd h (by omega)⟩
  case round =>
    obtain ⟨k, hk, rfl, hno⟩ := hrel
    have Hno := hide hno
    clear hno
    by_cases hlt : k < l.length
    · obtain ⟨b, o, rfl, hc⟩ := EntsAt.get hi hlt
      obtain ⟨c0, -, -⟩ := hc k hlt
      have q2 : (k : Int) < (l.length : Int) := by omega
      have hx : (l[k].path.toList == q.toList) = (l[k].path.data.toList == q.data.toList) := by rw [ByteArray.toList_eq, ByteArray.toList_eq]
      have Hk := hide (findP_hit l q.data.toList k hlt)
      have Hn := hide (show l[k].path.data.toList ≠ q.data.toList → ∀ j (h : j < l.length), j < k + 1 → l[j].path.data.toList ≠ q.data.toList from fun hne j h hj => by
        rcases Nat.lt_or_ge j k with h1 | h1
        · exact unhide Hno j h h1
        · obtain rfl : j = k := by omega
          exact hne)
      generalize l[k].path = x at *
      clear hc
      by_cases heq : x.data.toList = q.data.toList
      · have hxb : (x.toList == q.toList) = true := by rw [hx]; simpa using heq
        clear hx
        go_wp2_with fail
        go_ret
        exact ⟨ret_int (by rw [unhide Hk heq (unhide Hno)]), rfl⟩
      · have hxb : (x.toList == q.toList) = false := by rw [hx]; simpa using heq
        clear hx
        go_wp2_with fail
        go_round
        case rel => exact ⟨k + 1, by omega, by go_num, unhide Hn heq⟩
        case measure => simp [intOf]; omega
    · obtain rfl : k = l.length := by omega
      go_wp2_with fail
      go_ret
      exact ⟨ret_int (by rw [findP_none l _ (fun j h => unhide Hno j h h)]), rfl⟩
theorem allT_succ {α : Type} (f : α → Bool) (S : List α) (k : Nat) (h : k < S.length) : (S.take (k + 1)).all f = ((S.take k).all f && f S[k]) := by
  rw [List.take_succ_eq_append_getElem h, List.all_append]; simp
theorem all_at {α : Type} (f : α → Bool) (S : List α) (k : Nat) (h : k < S.length) (hf : f S[k] = false) : S.all f = false := by
  rw [List.all_eq_false]; exact ⟨S[k], List.getElem_mem h, by simp [hf]⟩
theorem sp_last (p : List UInt8) (k : Nat) (h : (sp p).length = k + 1) : (sp p)[k]? = some ((sp p).getLastD []) := by
  have e : (sp p)[(sp p).length - 1]? = (sp p)[k]? := by congr 1; omega
  rw [List.getLastD_eq_getLast?, List.getLast?_eq_getElem?, e, List.getElem?_eq_getElem (by omega)]; rfl
/-- a list with two names is longer than its last name -/
theorem sp_two (p : List UInt8) (h : 1 < (sp p).length) : ((sp p).getLastD []).length + 1 ≤ p.length := by
  induction p with
  | nil => simp [sp] at h
  | cons c r ih =>
    simp only [sp] at h ⊢
    by_cases hc : c = 47
    · simp only [if_pos hc] at h ⊢
      have h2 : (sp r).getLastD [] ∈ sp r := by
        rw [List.getLastD_eq_getLast?]
        cases hs : (sp r).getLast? with
        | none => simp [List.getLast?_eq_none_iff] at hs; exact absurd hs (sp_ne r)
        | some x => exact List.mem_of_getLast? hs
      have h3 := sp_part r _ h2
      cases hr : sp r with
      | nil => exact absurd hr (sp_ne r)
      | cons x t => rw [hr] at h3; simp [List.getLastD] at h3 ⊢; omega
    · simp only [if_neg hc] at h ⊢
      cases hr : sp r with
      | nil => exact absurd hr (sp_ne r)
      | cons x t =>
        rw [hr] at h ih
        simp only at h ⊢
        cases t with
        | nil => simp at h
        | cons y t' => have := ih (by simp); simp [List.getLastD] at this ⊢; omega
theorem kindBad_eq (p : ByteArray) (kd : Int) (dt : ByteArray) (tb : Bool) (htb : P.isTarget dt.data.toList = tb) :
    kindBad ⟨p, kd, dt⟩ = (decide (kd < 0) || decide (3 < kd) || (kd == 0 && !dt.toList.isEmpty) || ((kd == 1 || kd == 2) && decide ((60 : Int) < (dt.size : Int))) || (kd == 3 && !tb)) := by
  simp only [kindBad, htb]
theorem fineP_eq (l : List En) (i : Nat) (h : i < l.length) (p : List UInt8) (kd : Int) (dt : ByteArray) (hx : l[i] = ⟨bs p, kd, dt⟩) :
    fineP l i = (decide ((sp p).length ≤ 5) && (sp p).all P.isName && !kindBad ⟨bs p, kd, dt⟩ && !upBad l p && (findP l p == (i : Int))) := by
  have e : l.getD i en0 = ⟨bs p, kd, dt⟩ := by rw [List.getD_eq_getElem?_getD, List.getElem?_eq_getElem h, hx]; rfl
  simp only [fineP, e, bs_data]
set_option maxRecDepth 100000 in
set_option maxHeartbeats 2000000 in
theorem fine_any (l : List En) (a : Option Addr) (c i : Nat) (w : World) (hl : l.length ≤ maxLen) (hi : LiesE w a l) (hlt : i < l.length) (hp : l[i].path.size ≤ 1100000) (hd : l[i].data.size ≤ maxLen) :
    Calls Tryz.prog 69 #[.slice a l.length c, .int .i64 i] w fun e w' => e = .returned (.bool (fineP l i)) ∧ Below w.heap.size w w' := by
  unfold maxLen at hl
  obtain ⟨b, o, rfl, hc⟩ := EntsAt.get hi hlt
  obtain ⟨c0, c1, c2⟩ := hc i hlt
  obtain ⟨p, kd, dt, hx⟩ : ∃ p kd dt, l[i] = ⟨bs p, kd, dt⟩ := ⟨l[i].path.data.toList, l[i].kind, l[i].data, by rw [bs_of]⟩
  have Hf := hide (fineP_eq l i hlt p kd dt hx)
  rw [hx] at c0 c1 c2 hp hd
  simp only [bs_size] at c0 c1 c2 hp hd
  clear hx
  have q2 : (i : Int) < (l.length : Int) := by omega
  have Hc := hide hc
  clear hc
  go_enter Tryz.func69, Tryz.ntmps69
  go_wp2_with fail
  refine (split_any p _ hp).mono ?_
  rintro e w1 ⟨v, rfl, ho1, hb1⟩
  have hbw : Below w.heap.size w w1 := ((Below.refl _ _).alloc (Nat.le_refl _) _).trans (hb1.mono (by simp))
  have hc1 : EntsAt w1 b o l := (unhide Hc).below hbw (Nat.le_refl _)
  obtain ⟨d0, d1, d2⟩ : EntAt w1 w.heap.size 0 ⟨bs p, kd, dt⟩ := by
    have hn := heap_alloc_new w (Obj.cells #[Value.string (bs p), Value.int IntKind.i64 kd, Value.string dt] 32)
    have h2 := (hb1.block w.heap.size (by simp)).trans hn
    exact ⟨cell_of_block h2, cell_of_block h2, cell_of_block h2⟩
  simp only [Nat.zero_add] at d0 d1 d2
  clear hb1 c0 c1 c2 hi Hc
  obtain ⟨a1, cc, rfl, ht1, _⟩ := ho1.texts
  have hsl := sp_len p
  have Hlast := hide (sp_last p)
  have Htwo := hide (sp_two p)
  clear ho1
  generalize hS : sp p = S at *
  have HS := hide hS
  clear hS
  have Hc1 := hide hc1
  clear hc1
  by_cases h5 : (5 : Int) < (S.length : Int)
  · go_wp2_with fail
    go_ret
    refine ⟨ret_bool ?_, hbw⟩
    rw [unhide Hf, decide_eq_false (by omega)]; rfl
  have g5 : decide ((5 : Int) < (S.length : Int)) = false := by simpa using h5
  go_wp2_with fail
  go_loop [7] (fun i => ∃ k : Nat, k ≤ S.length ∧ i = .int .i64 k ∧ (S.take k).all P.isName = true) (fun i => S.length - (intOf i).toNat)
  case atStart => exact ⟨0, Nat.zero_le _, rfl, rfl⟩
  case round =>
    obtain ⟨k, hk, rfl, hall⟩ := hrel
    have Hall := hide hall
    clear hall
    by_cases hkl : k < S.length
    · obtain ⟨b1, o1, rfl, hct⟩ : ∃ b o, a1 = some ⟨b, o, none⟩ ∧ ∀ i (h : i < S.length), w1.cell? ⟨b, o + i, none⟩ = some (strVal S[i]) := by
        rcases ht1 with h | h
        · subst h; simp at hkl
        · exact h
      have ck := hct k hkl
      have Hs := hide (allT_succ P.isName S k hkl)
      have Ha := hide (all_at P.isName S k hkl)
      have hsz : S[k].length ≤ 1100000 := by
        have := sp_part p S[k] (by rw [unhide HS]; exact List.getElem_mem hkl)
        omega
      generalize S[k] = x at *
      unfold strVal at ck
      have q3 : (k : Int) < (S.length : Int) := by omega
      clear hct
      have hsz2 : (bs x).size ≤ maxLen := by rw [bs_size]; unfold maxLen; omega
      go_wp2_with fail
      refine (refName (bs x) _ hsz2).mono ?_
      rintro e w2 ⟨rfl, hw2⟩
      subst hw2
      rw [bs_data]
      generalize hnb : P.isName x = nb at *
      have Hnb := hide hnb
      clear hnb
      cases nb with
      | false =>
        go_wp2_with fail
        go_ret
        refine ⟨ret_bool ?_, hbw⟩
        rw [unhide Hf, unhide Ha trivial]; simp
      | true =>
        go_wp2_with fail
        go_round
        case rel => exact ⟨k + 1, by omega, by go_num, by rw [unhide Hs, unhide Hall]; rfl⟩
        case measure => simp [intOf]; omega
    · obtain rfl : k = S.length := by omega
      have Hnames := hide (show S.all P.isName = true by have := unhide Hall; rwa [List.take_length] at this)
      clear Hall
      go_wp2_with fail
      refine (refTarget dt _ hd).mono ?_
      rintro e w2 ⟨rfl, hw2⟩
      subst hw2
      have Hkb := hide (fun tb h => kindBad_eq (bs p) kd dt tb h)
      generalize htb : P.isTarget dt.data.toList = tb
      replace Hkb := hide (unhide Hkb tb htb)
      clear htb
      go_upto_region 12 with fail
      go_cut [79] (fun s79 wx => s79 = .bool (kindBad ⟨bs p, kd, dt⟩) ∧ w2 = wx)
      case first =>
        rcases (show kd < 0 ∨ (¬ kd < 0 ∧ 3 < kd) ∨ kd = 0 ∨ kd = 1 ∨ kd = 2 ∨ kd = 3 by omega) with h | ⟨h0, h⟩ | rfl | rfl | rfl | rfl
        · have g : decide (kd < 0) = true := by simpa using h
          go_wp2_with fail
          go_meet
          exact ⟨congrArg Value.bool (by rw [unhide Hkb, g]; rfl), rfl⟩
        · have g0 : decide (kd < 0) = false := by simpa using h0
          have g : decide (3 < kd) = true := by simpa using h
          go_wp2_with fail
          go_meet
          exact ⟨congrArg Value.bool (by rw [unhide Hkb, g0, g]; rfl), rfl⟩
        · cases hem : dt.toList.isEmpty with
          | true =>
            go_wp2_with fail
            go_meet
            exact ⟨congrArg Value.bool (by rw [unhide Hkb, hem]; rfl), rfl⟩
          | false =>
            go_wp2_with fail
            go_meet
            exact ⟨congrArg Value.bool (by rw [unhide Hkb, hem]; rfl), rfl⟩
        · cases hem : decide ((60 : Int) < (dt.size : Int)) with
          | true =>
            go_wp2_with fail
            go_meet
            exact ⟨congrArg Value.bool (by rw [unhide Hkb, hem]; rfl), rfl⟩
          | false =>
            go_wp2_with fail
            go_meet
            exact ⟨congrArg Value.bool (by rw [unhide Hkb, hem]; rfl), rfl⟩
        · cases hem : decide ((60 : Int) < (dt.size : Int)) with
          | true =>
            go_wp2_with fail
            go_meet
            exact ⟨congrArg Value.bool (by rw [unhide Hkb, hem]; rfl), rfl⟩
          | false =>
            go_wp2_with fail
            go_meet
            exact ⟨congrArg Value.bool (by rw [unhide Hkb, hem]; rfl), rfl⟩
        · cases tb with
          | true =>
            go_wp2_with fail
            go_meet
            exact ⟨congrArg Value.bool (by rw [unhide Hkb]; rfl), rfl⟩
          | false =>
            go_wp2_with fail
            go_meet
            exact ⟨congrArg Value.bool (by rw [unhide Hkb]; rfl), rfl⟩
      case rest =>
        obtain ⟨h79, hwc⟩ := hcut
        subst hwc
        subst h79
        clear Hkb
        cases hkb : kindBad ⟨bs p, kd, dt⟩ with
        | true =>
          have Hf2 := hide (show fineP l i = false by rw [unhide Hf, hkb]; simp)
          clear hkb
          go_wp2_with fail
          go_ret
          exact ⟨ret_bool (unhide Hf2).symm, hbw⟩
        | false =>
          have Hf2 := hide (show fineP l i = (!upBad l p && (findP l p == (i : Int))) by
            rw [unhide Hf, hkb, unhide Hnames, decide_eq_true (by omega)]; rfl)
          clear hkb Hf
          have hle : LiesE w2 (some ⟨b, o, none⟩) l := .inr ⟨b, o, rfl, unhide Hc1⟩
          have hlm : l.length ≤ maxLen := hl
          by_cases h1 : (1 : Int) < (S.length : Int)
          · obtain ⟨n, hn⟩ : ∃ n, S.length = n + 1 := ⟨S.length - 1, by omega⟩
            obtain ⟨b1, o1, rfl, hct⟩ : ∃ b o, a1 = some ⟨b, o, none⟩ ∧ ∀ i (h : i < S.length), w2.cell? ⟨b, o + i, none⟩ = some (strVal S[i]) := by
              rcases ht1 with h | h
              · subst h; simp at hn
              · exact h
            have hla := unhide Hlast n hn
            have htw := unhide Htwo (by omega)
            have ck : w2.cell? ⟨b1, o1 + n, none⟩ = some (strVal (S.getLastD [])) := by
              have := hct n (by omega)
              rw [List.getElem?_eq_getElem (by omega)] at hla
              rw [this, Option.some.inj hla]
            have Hu := hide (show upBad l p = if findP l (upPath p) < 0 then true else (l.getD (findP l (upPath p)).toNat en0).kind != 0 by unfold upBad; rw [unhide HS, if_neg (by omega)])
            have hup : upPath p = p.take (p.length - (S.getLastD []).length - 1) := by unfold upPath; rw [unhide HS]
            clear hct hla Hlast Htwo HS Hnames
            generalize S.getLastD [] = la at *
            unfold strVal at ck
            have z1 := bs_size p
            have z2 := bs_size la
            have q4 : (n : Int) ≤ 4 := by omega
            have q5 : (n : Int) < ((n + 1 : Nat) : Int) := by omega
            have q6 : (1 : Int) < ((n + 1 : Nat) : Int) := by omega
            have q7 : 0 ≤ (p.length : Int) - (la.length : Int) - 1 := by omega
            have q8 : (p.length : Int) - (la.length : Int) - 1 ≤ (p.length : Int) := by omega
            have x1 : (bs p).extract 0 ((p.length : Int) - (la.length : Int) - 1).toNat = bs (upPath p) := by
              rw [extract_bs, hup]; congr 2; omega
            clear hup
            rw [hn]
            clear hn h1 h5 g5 hsl ht1 hk hkl
            go_upto_region 15 with fail
            go_quiet ((go_at_call 48; refine Calls.quiet_of_same (find_any l _ _ _ _ hlm ?_); exact hle.below (below_drewN (Below.refl _ _) _) (Nat.le_refl _)))
            rw [show (bs p).extract 0 (p.length - la.length - 1) = bs (upPath p) by rw [← x1]; congr 1; omega, bs_data]
            have hbq := below_drewN hbw nq
            have hc3 : EntsAt (w2.drewN nq) b o l := (unhide Hc1).below (below_drewN (Below.refl _ _) _) (Nat.le_refl _)
            have d0' : (w2.drewN nq).cell? ⟨w.heap.size, 0, none⟩ = some (.string (bs p)) := by rw [← d0]; rfl
            have hbd := findP_bd l (upPath p)
            clear x1 d0 d1 d2 ck hbw Hc1 hle q4 q5 q6 q7 q8 z1 z2
            generalize w2.drewN nq = w3 at *
            generalize findP l (upPath p) = f at *
            have hle3 : LiesE w3 (some ⟨b, o, none⟩) l := .inr ⟨b, o, rfl, hc3⟩
            by_cases hf0 : f < 0
            · have Hf3 := hide (show fineP l i = false by rw [unhide Hf2, unhide Hu, if_pos hf0]; rfl)
              have g0 : decide (f < 0) = true := by simpa using hf0
              go_wp2_with fail
              go_ret
              exact ⟨ret_bool (unhide Hf3).symm, hbq⟩
            · obtain ⟨m, rfl⟩ : ∃ m : Nat, f = (m : Int) := ⟨f.toNat, by omega⟩
              have hm : m < l.length := by omega
              have hm' : (m : Int) < (l.length : Int) := by omega
              obtain ⟨-, e1, -⟩ := hc3 m hm
              have hkm : (l.getD (m : Int).toNat en0).kind = l[m].kind := by rw [Int.toNat_natCast, List.getD_eq_getElem?_getD, List.getElem?_eq_getElem hm]; rfl
              have Hu2 := hide (show upBad l p = (l[m].kind != 0) by rw [unhide Hu, if_neg hf0, hkm])
              clear Hu hkm hc3 hbd
              generalize l[m].kind = km at *
              cases hk0 : (km != 0) with
              | true =>
                have Hf3 := hide (show fineP l i = false by rw [unhide Hf2, unhide Hu2, hk0]; rfl)
                go_wp2_with fail
                go_ret
                exact ⟨ret_bool (unhide Hf3).symm, hbq⟩
              | false =>
                have Hf3 := hide (show fineP l i = (findP l p == (i : Int)) by rw [unhide Hf2, unhide Hu2, hk0]; rfl)
                go_wp2_with fail
                refine (find_any l _ _ (bs p) w3 hlm hle3).mono ?_
                rintro e w4 ⟨rfl, hw4⟩
                subst hw4
                rw [bs_data]
                generalize findP l p = fd at *
                go_wp2_with fail
                go_ret
                exact ⟨ret_bool (unhide Hf3).symm, hbq⟩
          · have Hu := hide (show upBad l p = false by unfold upBad; rw [unhide HS, if_pos (by omega)])
            go_wp2_with fail
            refine (find_any l _ _ (bs p) w2 hlm hle).mono ?_
            rintro e w3 ⟨rfl, hw3⟩
            subst hw3
            rw [bs_data]
            generalize hfd : findP l p = fd at *
            go_wp2_with fail
            go_ret
            exact ⟨ret_bool (by rw [unhide Hf2, unhide Hu]; simp), hbw⟩
end Go.Proofs.YtjmacegibchplaaGreatDoor
