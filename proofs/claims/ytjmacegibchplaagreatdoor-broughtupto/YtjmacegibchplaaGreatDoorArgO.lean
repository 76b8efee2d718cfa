import Derived.Test.YtjmacegibchplaaGreatDoorRows
import Derived.Test.YtjmacegibchplaaGreatDoorTreeD
import Derived.Test.YtjmacegibchplaaGreatDoorLnB
/-
  A list of entries that comes in and is of bounded bulk: its paths and data are.
-/
namespace Go.Proofs.YtjmacegibchplaaGreatDoor
open Go.RowKit
set_option linter.unusedVariables false

theorem bulk_pos {H : Type} (d : DataW H) : 0 < Rows.uptoBulk d := by
  unfold Rows.uptoBulk
  split <;> omega
theorem bulk_len {H : Type} : ∀ l : List (DataW H), l.length ≤ Rows.uptoBulkAll l
  | [] => Nat.zero_le _
  | d :: l => by
    have h1 := bulk_pos d
    have h2 := bulk_len l
    rw [Rows.uptoBulkAll, List.length_cons]
    omega
theorem bulk_part {H : Type} {d : DataW H} {l : List (DataW H)} (h : d ∈ l) : Rows.uptoBulk d ≤ Rows.uptoBulkAll l := by
  obtain ⟨r, t, rfl⟩ := List.append_of_mem h
  clear h
  induction r with
  | nil => rw [List.nil_append, Rows.uptoBulkAll]; omega
  | cons e r ih => rw [List.cons_append, Rows.uptoBulkAll]; omega
set_option maxRecDepth 100000 in
theorem open_entryB {H : Type} {enc : TypeId × Value → H} {W : World} {base : Nat} {sp : Nat → Bool} {held : Bool} {fuel : Nat} {cs : List Value} {x : DataW H × List MemPlace}
    (h : DataW.trod enc Tryz.prog W base sp held fuel 32 cs = some x) : ∃ y : En, cs = enCells y ∧ EFits y ∧ y.path.size + y.data.size ≤ Rows.uptoBulk x.1 := by
  obtain ⟨xs, n, _, rfl, hl, hlen, hf⟩ := DataW.trod_struct Tryz.underlying32 h
  rw [cells_ent] at hl
  match cs, hl with
  | [v0, v1, v2], _ =>
    have h0 : DataW.trod enc Tryz.prog W base sp held n 9 (([v0, v1, v2].drop 0).take (Tryz.prog.cellsOf 9)) = xs[0]? := hf 0 _ rfl
    have h1 : DataW.trod enc Tryz.prog W base sp held n 3 (([v0, v1, v2].drop 1).take (Tryz.prog.cellsOf 3)) = xs[1]? := hf 1 _ rfl
    have h2 : DataW.trod enc Tryz.prog W base sp held n 9 (([v0, v1, v2].drop 2).take (Tryz.prog.cellsOf 9)) = xs[2]? := hf 2 _ rfl
    rw [cells_str] at h0 h2
    rw [cells_int] at h1
    match xs, hlen with
    | [y0, y1, y2], _ =>
      obtain ⟨s0, e0, r0, z0⟩ := DataW.trod_string Tryz.underlying9 h0
      obtain ⟨s1, e1, r1, z1⟩ := DataW.trod_int Tryz.underlying3 h1
      obtain ⟨s2, e2, r2, z2⟩ := DataW.trod_string Tryz.underlying9 h2
      simp at e0 e1 e2
      subst e0 e1 e2
      subst r0 r2
      refine ⟨⟨s0, s1, s2⟩, rfl, ⟨z0, z2⟩, ?_⟩
      simp only [List.map_cons, List.map_nil, Rows.uptoBulk, Rows.uptoBulkAll, Array.length_toList]
      show s0.data.size + s2.data.size ≤ _
      omega
set_option maxRecDepth 100000 in
theorem open_entriesB {H : Type} {enc : TypeId × Value → H} {W : World} {base : Nat} {sp : Nat → Bool} {held : Bool} {fuel : Nat} {a : Option Addr} {len cap : Nat} {x : DataW H × List MemPlace}
    (h : DataW.trod enc Tryz.prog W base sp held fuel 22 [.slice a len cap] = some x) (hk : Rows.uptoBulk x.1 ≤ 1048576) :
    ∃ l : List En, l.length = len ∧ LiesE W a l ∧ TFit l ∧ len ≤ 1048576 ∧ (a = none → l = [] ∧ cap = 0) := by
  rcases Deep.open_slice Tryz.underlying22 h with ⟨hcs, rfl⟩ | ⟨ad, len', cap', m, n, D, Pl, hcs, _, hl, hm, hmm, rfl, hel⟩
  · simp at hcs
    obtain ⟨rfl, rfl, rfl⟩ := hcs
    exact ⟨[], rfl, .inl rfl, fun i hi => absurd hi (by simp), by decide, fun _ => ⟨rfl, rfl⟩⟩
  · simp at hcs
    obtain ⟨rfl, rfl, rfl⟩ := hcs
    have hlm : len ≤ m := by rw [hmm]; split <;> omega
    simp only [Rows.uptoBulk] at hk
    have hln := bulk_len ((List.range len).map D)
    rw [List.length_map, List.length_range] at hln
    have hex : ∀ i, i < len → ∃ y : En, (EFits y ∧ y.path.size + y.data.size ≤ 1048576) ∧ ∀ j v, (enCells y)[j]? = some v → W.cell? ((ad.add (i * 3)).add j) = some v := by
      intro i hi
      obtain ⟨cs', hc, ht⟩ := hel i (by omega)
      obtain ⟨y, rfl, hy, hb⟩ := open_entryB ht
      rw [cells_ent] at hc
      obtain ⟨_, hlen, hcc⟩ := World.cells?_some hc
      have hp := bulk_part (d := D i) (l := (List.range len).map D) (List.mem_map.2 ⟨i, by simpa using hi, rfl⟩)
      simp only at hb
      refine ⟨y, ⟨hy, by omega⟩, fun j v hv => ?_⟩
      have hj : j < 3 := (List.getElem?_eq_some_iff.1 hv).1
      rw [← hv]
      exact hcc j hj
    obtain ⟨l, hll, hp⟩ := list_choose hex
    refine ⟨l, hll, ?_, fun i hi => ⟨by have := (hp i hi).1.2; omega, (hp i hi).1.1.data⟩, by omega, fun h => by simp at h⟩
    rcases Nat.eq_zero_or_pos len with h0 | hpos
    · left; exact List.eq_nil_of_length_eq_zero (by omega)
    · right
      obtain ⟨b, o, spot⟩ := ad
      have hc := (hp 0 (by omega)).2 0 _ rfl
      have hspot : spot = none := by simpa [Addr.add] using World.cell?_spot hc
      subst hspot
      refine ⟨b, o, rfl, EntsAt.of_row ?_⟩
      intro i hi j v hv
      have := (hp i hi).2 j v hv
      rw [add_off, add_off] at this
      exact this
end Go.Proofs.YtjmacegibchplaaGreatDoor

/-
  Lists of texts and of numbers that come in and are of bounded bulk, opened.
-/
namespace Go.Proofs.YtjmacegibchplaaGreatDoor
open Go.RowKit
set_option linter.unusedVariables false

set_option maxRecDepth 100000 in
theorem open_textsB {H : Type} {enc : TypeId × Value → H} {W : World} {base : Nat} {sp : Nat → Bool} {held : Bool} {fuel : Nat} {a : Option Addr} {len cap : Nat} {x : DataW H × List MemPlace}
    (h : DataW.trod enc Tryz.prog W base sp held fuel 23 [.slice a len cap] = some x) (hk : Rows.uptoBulk x.1 ≤ 1048576) :
    ∃ l : List (List UInt8), l.length = len ∧ TextsAt W a l ∧ (∀ y ∈ l, y.length ≤ 1048576) ∧ len ≤ 1048576 ∧ (a = none → l = [] ∧ cap = 0) := by
  rcases Deep.open_slice Tryz.underlying23 h with ⟨hcs, rfl⟩ | ⟨ad, len', cap', m, n, D, Pl, hcs, _, hl, hm, hmm, rfl, hel⟩
  · simp at hcs
    obtain ⟨rfl, rfl, rfl⟩ := hcs
    exact ⟨[], rfl, .inl rfl, by simp, by decide, fun _ => ⟨rfl, rfl⟩⟩
  · simp at hcs
    obtain ⟨rfl, rfl, rfl⟩ := hcs
    have hlm : len ≤ m := by rw [hmm]; split <;> omega
    simp only [Rows.uptoBulk] at hk
    have hln := bulk_len ((List.range len).map D)
    rw [List.length_map, List.length_range] at hln
    have hex : ∀ i, i < len → ∃ y : List UInt8, y.length ≤ 1048576 ∧ W.cell? (ad.add i) = some (strVal y) := by
      intro i hi
      obtain ⟨cs', hc, ht⟩ := hel i (by omega)
      obtain ⟨s0, e0, r0, z0⟩ := DataW.trod_string Tryz.underlying9 ht
      rw [cells_str] at hc
      obtain ⟨_, hlen, hcc⟩ := World.cells?_some hc
      have hp := bulk_part (d := D i) (l := (List.range len).map D) (List.mem_map.2 ⟨i, by simpa using hi, rfl⟩)
      have hcs : cs' = [.string s0] := e0
      have hD : D i = .lit (.string s0.data.toList) := by simpa using congrArg Prod.fst r0
      rw [hD] at hp
      refine ⟨s0.data.toList, ?_, ?_⟩
      · simp only [Rows.uptoBulk] at hp
        omega
      · have := hcc 0 (by omega)
        rw [hcs] at this
        rw [show strVal s0.data.toList = .string s0 by unfold strVal; rw [bs_of]]
        have h2 : ((ad.add i).add 0) = ad.add i := by unfold Addr.add; split <;> simp_all
        simp only [Nat.mul_one] at this
        rw [h2] at this
        simpa using this
    obtain ⟨l, hll, hp⟩ := list_choose hex
    refine ⟨l, hll, ?_, fun y hy => ?_, by omega, fun h => by simp at h⟩
    · rcases Nat.eq_zero_or_pos len with h0 | hpos
      · left; exact List.eq_nil_of_length_eq_zero (by omega)
      · right
        obtain ⟨b, o, spot⟩ := ad
        have hc := (hp 0 (by omega)).2
        have hspot : spot = none := by simpa [Addr.add] using World.cell?_spot hc
        subst hspot
        refine ⟨b, o, rfl, fun i hi => ?_⟩
        have := (hp i hi).2
        rw [add_off] at this
        exact this
    · obtain ⟨i, hi, rfl⟩ := List.getElem_of_mem hy
      exact (hp i hi).1
set_option maxRecDepth 100000 in
theorem open_intsB {H : Type} {enc : TypeId × Value → H} {W : World} {base : Nat} {sp : Nat → Bool} {held : Bool} {fuel : Nat} {a : Option Addr} {len cap : Nat} {x : DataW H × List MemPlace}
    (h : DataW.trod enc Tryz.prog W base sp held fuel 55 [.slice a len cap] = some x) (hk : Rows.uptoBulk x.1 ≤ 1048576) :
    ∃ l : List Int, l.length = len ∧ IntsAt W a l ∧ (∀ r ∈ l, -9223372036854775808 ≤ r ∧ r ≤ 9223372036854775807) ∧ len ≤ 1048576 ∧ (a = none → l = [] ∧ cap = 0) := by
  rcases Deep.open_slice Tryz.underlying55 h with ⟨hcs, rfl⟩ | ⟨ad, len', cap', m, n, D, Pl, hcs, _, hl, hm, hmm, rfl, hel⟩
  · simp at hcs
    obtain ⟨rfl, rfl, rfl⟩ := hcs
    exact ⟨[], rfl, .inl rfl, by simp, by decide, fun _ => ⟨rfl, rfl⟩⟩
  · simp at hcs
    obtain ⟨rfl, rfl, rfl⟩ := hcs
    have hlm : len ≤ m := by rw [hmm]; split <;> omega
    simp only [Rows.uptoBulk] at hk
    have hln := bulk_len ((List.range len).map D)
    rw [List.length_map, List.length_range] at hln
    have hmin : IntKind.i64.min = -9223372036854775808 := by decide
    have hmax : IntKind.i64.max = 9223372036854775807 := by decide
    have hex : ∀ i, i < len → ∃ y : Int, (-9223372036854775808 ≤ y ∧ y ≤ 9223372036854775807) ∧ W.cell? (ad.add i) = some (.int .i64 y) := by
      intro i hi
      obtain ⟨cs', hc, ht⟩ := hel i (by omega)
      obtain ⟨s0, e0, r0, z0⟩ := DataW.trod_int Tryz.underlying3 ht
      rw [cells_int] at hc
      obtain ⟨_, hlen, hcc⟩ := World.cells?_some hc
      have hcs : cs' = [.int .i64 s0] := e0
      refine ⟨s0, ?_, ?_⟩
      · have h1 := z0
        simp [Lit.wf] at h1
        omega
      · have := hcc 0 (by omega)
        rw [hcs] at this
        have h2 : ((ad.add i).add 0) = ad.add i := by unfold Addr.add; split <;> simp_all
        simp only [Nat.mul_one] at this
        rw [h2] at this
        simpa using this
    obtain ⟨l, hll, hp⟩ := list_choose hex
    refine ⟨l, hll, ?_, fun y hy => ?_, by omega, fun h => by simp at h⟩
    · rcases Nat.eq_zero_or_pos len with h0 | hpos
      · left; exact List.eq_nil_of_length_eq_zero (by omega)
      · right
        obtain ⟨b, o, spot⟩ := ad
        have hc := (hp 0 (by omega)).2
        have hspot : spot = none := by simpa [Addr.add] using World.cell?_spot hc
        subst hspot
        refine ⟨b, o, rfl, fun i hi => ?_⟩
        have := (hp i hi).2
        rw [add_off] at this
        exact this
    · obtain ⟨i, hi, rfl⟩ := List.getElem_of_mem hy
      exact (hp i hi).1
end Go.Proofs.YtjmacegibchplaaGreatDoor
