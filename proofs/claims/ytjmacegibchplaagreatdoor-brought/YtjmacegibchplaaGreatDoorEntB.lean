import Derived.Test.YtjmacegibchplaaGreatDoorTreeQ
import Derived.Test.YtjmacegibchplaaGreatDoorReadC
import Derived.Laws.StructEq
import Derived.Deep.Slices
import Derived.ProofKit
import Derived.OpenShut
import Derived.SizedLaws
/-
  The document's cutting of texts, its search of paths (the statements' own): their contracts.
-/
namespace Go.Proofs.YtjmacegibchplaaGreatDoor
open Go.RowKit
set_option linter.unusedVariables false
theorem info_str : (Tryz.prog.info? 9).map (fun i => (i.zero, i.size, i.bytes)) = some (some (.string ⟨#[]⟩), 1, 16) := by kernel_rfl
def strVal (l : List UInt8) : Value := .string (bs l)
def OwnsS (w : World) (base : Nat) (v : Value) (l : List (List UInt8)) : Prop := w.ownsRow base 9 1 v l.length (l.map strVal)
theorem OwnsS.alloc {w : World} {base : Nat} {v : Value} {l : List (List UInt8)} (h : OwnsS w base v l) (o : Obj) : OwnsS (w.alloc o) base v l := World.ownsRow.alloc h o
theorem OwnsS.below {w w' : World} {base : Nat} {v : Value} {l : List (List UInt8)} (h : OwnsS w base v l) (hb : Below w.heap.size w w') : OwnsS w' base v l :=
  World.ownsRow.kept (row := none) h ⟨hb.os, hb.tape, hb.output, hb.size, fun k hk _ => hb.block k hk⟩ (by cases v.ownBlock <;> simp)
def TextsAt (w : World) (a : Option Addr) (l : List (List UInt8)) : Prop := l = [] ∨ ∃ b o, a = some ⟨b, o, none⟩ ∧ ∀ i (h : i < l.length), w.cell? ⟨b, o + i, none⟩ = some (strVal l[i])
theorem TextsAt.below {B : Nat} {w w' : World} {a : Option Addr} {l : List (List UInt8)} (h : TextsAt w a l) (hb : Below B w w') (hB : w.heap.size ≤ B) : TextsAt w' a l := by
  rcases h with h | ⟨b, o, e, h⟩
  · exact .inl h
  · exact .inr ⟨b, o, e, fun i hi => (hb.cell (p := ⟨b, _, none⟩) (Nat.lt_of_lt_of_le (block_lt (h i hi)) hB)).trans (h i hi)⟩
theorem OwnsS.texts {w : World} {base : Nat} {v : Value} {l : List (List UInt8)} (h : OwnsS w base v l) : ∃ a c, v = .slice a l.length c ∧ TextsAt w a l ∧ (a = none → c = 0) ∧ l.length ≤ c := by
  rcases h.2 with ⟨rfl, hn⟩ | ⟨g, cap, cur, rfl, _, hg, hnc, hcm, hcs, htake⟩
  · exact ⟨none, 0, by rw [hn], .inl (List.eq_nil_of_length_eq_zero hn), fun _ => rfl, by omega⟩
  · refine ⟨some ⟨g, 0, none⟩, cap, rfl, .inr ⟨g, 0, rfl, fun i hi => ?_⟩, fun h => by simp at h, hnc⟩
    have := World.ownsRow.cells h (g := g) rfl i (strVal l[i]) (by simp [List.getElem?_eq_getElem hi])
    rw [add_off0] at this
    rw [Nat.zero_add]
    exact this
theorem app_text {w : World} {ops : Array Oper} {rest : List Oper} {o : Oper} {a : Act} {Q : Exit → Act → World → Prop} (hgd : o.guard = none) (s x : Operand)
    (ho : o.op = .call { callee := .builtin .append, args := #[s, x], argTypes := #[23, 23] }) (base : Nat) (v : Value) (l : List (List UInt8)) (hs : a.eval s = v) (hown : OwnsS w base v l)
    (ad : Addr) (y : List UInt8) (hx : a.eval x = .slice (some ad) 1 1) (hnews : w.cell? (ad.add 0) = some (strVal y))
    (hlen : l.length ≤ 2000000) (hbase : base ≤ w.heap.size)
    (h : ∀ v' w', OwnsS w' base v' (l ++ [y]) → w.grownBy w' v.ownBlock → wpList Tryz.prog ops Q rest (a.put o.dst v') w') : wpList Tryz.prog ops Q (o :: rest) a w := by
  obtain ⟨i0, hi, hz0, hz1, hz2⟩ := info_parts info_str
  refine wpList_append_own w hgd s x 23 ho base 9 i0 _ 1 16 Tryz.underlying23 hi hz0 hz1 hz2 rfl (by decide) v l.length (l.map strVal) hs hown ad 1 1 [strVal y] hx rfl ?_ ?_ (by unfold maxLen; omega) (by omega) hbase ?_
  · intro j u hj
    match j, hj with
    | 0, hj => simp at hj; subst hj; exact hnews
  · intro u hu; simp at hu; subst hu; rfl
  · intro v' w' h2 h3 _
    refine h v' w' ?_ h3
    unfold OwnsS
    rw [List.map_append, List.length_append]
    exact h2
theorem str_eq (x y : List UInt8) : ((bs x).toList == y) = (x == y) := by rw [ByteArray.toList_eq, bs_data]
end Go.Proofs.YtjmacegibchplaaGreatDoor

/-
  The statements' own comparisons of lists of items, where they are the same.
-/
namespace Go.Proofs.YtjmacegibchplaaGreatDoor
open Go.RowKit
set_option linter.unusedVariables false
end Go.Proofs.YtjmacegibchplaaGreatDoor

/-
  A list of items that comes in, opened.
-/
namespace Go.Proofs.YtjmacegibchplaaGreatDoor
open Go.RowKit
set_option linter.unusedVariables false
theorem list_choose {α : Type} {n : Nat} {p : Nat → α → Prop} (h : ∀ i, i < n → ∃ x, p i x) : ∃ l : List α, l.length = n ∧ ∀ i (hi : i < l.length), p i l[i] := by
  induction n with
  | zero => exact ⟨[], rfl, fun i hi => absurd hi (by simp)⟩
  | succ n ih =>
    obtain ⟨l, hl, hp⟩ := ih (fun i hi => h i (by omega))
    obtain ⟨x, hx⟩ := h n (by omega)
    refine ⟨l ++ [x], by simp [hl], fun i hi => ?_⟩
    by_cases hin : i < l.length
    · rw [List.getElem_append_left hin]; exact hp i hin
    · have : i = n := by simp at hi; omega
      subst this
      rw [List.getElem_append_right (by omega)]
      simpa using hx
theorem cells_str : Tryz.prog.cellsOf 9 = 1 := by kernel_rfl
theorem cells_int : Tryz.prog.cellsOf 3 = 1 := by kernel_rfl
theorem add_off (b o i : Nat) : (⟨b, o, none⟩ : Addr).add i = ⟨b, o + i, none⟩ := by unfold Addr.add; split <;> simp_all
end Go.Proofs.YtjmacegibchplaaGreatDoor

/-
  Lists of entries in memory; the statements' own copies of them, and how they are looked at again; a list of entries that comes in, opened.
-/
namespace Go.Proofs.YtjmacegibchplaaGreatDoor
open Go.RowKit
set_option linter.unusedVariables false
def EntAt (w : World) (b p : Nat) (x : En) : Prop := w.cell? ⟨b, p, none⟩ = some (.string x.path) ∧ w.cell? ⟨b, p + 1, none⟩ = some (.int .i64 x.kind) ∧ w.cell? ⟨b, p + 2, none⟩ = some (.string x.data)
def EntsAt (w : World) (b o : Nat) (l : List En) : Prop := ∀ i (h : i < l.length), EntAt w b (o + i * 3) l[i]
def LiesE (w : World) (a : Option Addr) (l : List En) : Prop := l = [] ∨ ∃ b o, a = some ⟨b, o, none⟩ ∧ EntsAt w b o l
def enCells (x : En) : List Value := [.string x.path, .int .i64 x.kind, .string x.data]
theorem enCells_len (x : En) : (enCells x).length = 3 := rfl
theorem enCells_one (l : List En) : ∀ v ∈ rowCells enCells l, v.oneCell' = true := by
  intro v hv
  simp only [rowCells, List.mem_flatten, List.mem_map] at hv
  obtain ⟨c, ⟨x, _, rfl⟩, hx⟩ := hv
  simp only [enCells, List.mem_cons, List.not_mem_nil, or_false] at hx
  rcases hx with rfl | rfl | rfl <;> rfl
theorem EntsAt.row {w : World} {b o : Nat} {l : List En} (h : EntsAt w b o l) : RowAt enCells 3 w b o l := by
  intro i hi j v hv
  obtain ⟨c0, c1, c2⟩ := h i hi
  match j, hv with
  | 0, hv => simp [enCells] at hv; rw [← hv]; exact c0
  | 1, hv => simp [enCells] at hv; rw [← hv]; exact c1
  | 2, hv => simp [enCells] at hv; rw [← hv]; exact c2
  | j + 3, hv => simp [enCells] at hv
theorem EntsAt.of_row {w : World} {b o : Nat} {l : List En} (h : RowAt enCells 3 w b o l) : EntsAt w b o l := by
  intro i hi
  exact ⟨h i hi 0 _ rfl, h i hi 1 _ rfl, h i hi 2 _ rfl⟩
theorem EntsAt.below {B : Nat} {w w' : World} {b o : Nat} {l : List En} (h : EntsAt w b o l) (hb : Below B w w') (hB : w.heap.size ≤ B) : EntsAt w' b o l := .of_row (h.row.below hb hB)
theorem LiesE.below {B : Nat} {w w' : World} {a : Option Addr} {l : List En} (h : LiesE w a l) (hb : Below B w w') (hB : w.heap.size ≤ B) : LiesE w' a l := by
  rcases h with h | ⟨b, o, e, h⟩
  · exact .inl h
  · exact .inr ⟨b, o, e, h.below hb hB⟩
theorem info_ent : (Tryz.prog.info? 32).map (fun i => (i.zero, i.size, i.bytes)) = some (some (.agg #[.string ⟨#[]⟩, .int .i64 0, .string ⟨#[]⟩]), 3, 40) := by kernel_rfl
theorem set3 (w : World) (b p : Nat) (x : En) : w.setCells b p (enCells x) = ((w.setCell ⟨b, p, none⟩ (.string x.path)).setCell ⟨b, p + 1, none⟩ (.int .i64 x.kind)).setCell ⟨b, p + 2, none⟩ (.string x.data) := rfl
theorem eq_ent (n1 d1 n2 d2 : ByteArray) (k1 k2 : Int) (w : World) :
    (Op.equalIn 10000 32 (.agg #[.string n1, .int .i64 k1, .string d1]) (.agg #[.string n2, .int .i64 k2, .string d2])).run Tryz.prog w
      = .ok (n1.toList == n2.toList && (k1 == k2 && d1.toList == d2.toList)) w := by
  have u3 := Tryz.underlying3
  have u9 := Tryz.underlying9
  have a3 := Tryz.isAgg3
  have a9 := Tryz.isAgg9
  have z3 := Tryz.sizeOf3
  have z9 := Tryz.sizeOf9
  have hS : Tryz.prog.underlying 32 = some (.struct (Tryz.prog.fieldsOf 32)) := by kernel_rfl
  have hp : Tryz.prog.stoodInHeld 32 = false := by kernel_rfl
  rw [show (10000 : Nat) = 9999 + 1 from rfl, run_equalIn_agg w 9999 32 _ _ hS hp]
  simp only [Program.fieldsOf, Tryz.underlying32]
  go_simp
  by_cases h1 : n1.toList = n2.toList <;> by_cases h2 : k1 = k2 <;> by_cases h3 : d1.toList = d2.toList <;> simp [h1, h2, h3]
end Go.Proofs.YtjmacegibchplaaGreatDoor
