/-
  A map by text of lists of records, each list in a row of its own: looked up, appended to, kept.
-/
import Derived.Test.YtjmacegibchplaaGreatDoorTWc
import Derived.Maps.AppendAt
import Derived.Deep.RegionHeld3
namespace Go.Proofs.YtjmacegibchplaaGreatDoor
open Go.RowKit
set_option linter.unusedVariables false
theorem ownsRow_same {w w' : World} {base e size n : Nat} {v : Value} {xs : List Value} (h : w.ownsRow base e size v n xs) (hs : ∀ g, v.ownBlock = some g → w'.heap[g]? = w.heap[g]?) : w'.ownsRow base e size v n xs := by
  obtain ⟨h1, h2⟩ := h
  refine ⟨h1, ?_⟩
  rcases h2 with h2 | ⟨g, cap, cur, rfl, hb, hg, h3⟩
  · exact .inl h2
  · exact .inr ⟨g, cap, cur, rfl, hb, (hs g rfl).trans hg, h3⟩
structure Grp {α : Type} (e size : Nat) (enc : α → List Value) (w : World) (base mb n : Nat) (Own : Nat → Prop) (F : List UInt8 → Option Value) (G : List UInt8 → List α) : Prop where
  map : MapIs w mb n F
  some : ∀ d v, F d = some v → w.ownsRow base e size v (G d).length (rowCells enc (G d))
  none : ∀ d, F d = none → G d = []
  apart : ∀ d d' v v' g, F d = Option.some v → F d' = Option.some v' → v.ownBlock = Option.some g → v'.ownBlock = Option.some g → d = d'
  ownM : Own mb
  ownR : ∀ d v g, F d = Option.some v → v.ownBlock = Option.some g → Own g
section
variable {α : Type} {e size : Nat} {enc : α → List Value} {w : World} {base mb n : Nat} {Own : Nat → Prop} {F : List UInt8 → Option Value} {G : List UInt8 → List α}
theorem Grp.made (e size : Nat) (enc : α → List Value) (w : World) (base : Nat) (Own : Nat → Prop) (h : Own w.heap.size) : Grp e size enc (w.alloc (.map #[] 0)) base w.heap.size 0 Own (fun _ => Option.none) (fun _ => []) :=
  ⟨MapIs.made w, fun d v h => by simp at h, fun _ _ => rfl, fun d d' v v' g h => by simp at h, h, fun d v g h => by simp at h⟩
theorem Grp.at (h : Grp e size enc w base mb n Own F G) (d : List UInt8) : w.ownsRow base e size ((F d).getD (.slice Option.none 0 0)) (G d).length (rowCells enc (G d)) := by
  cases hf : F d with
  | none => rw [h.none d hf]; exact World.ownsRow_nil _ _ _ _
  | some v => exact h.some d v hf
theorem Grp.ownAt (h : Grp e size enc w base mb n Own F G) (d : List UInt8) (g : Nat) (hg : ((F d).getD (.slice Option.none 0 0)).ownBlock = Option.some g) : Own g := by
  cases hf : F d with
  | none => rw [hf] at hg; simp [Value.ownBlock] at hg
  | some v => rw [hf] at hg; exact h.ownR d v g hf hg
theorem own_lt {w : World} {base e size n g : Nat} {v : Value} {xs : List Value} (h : w.ownsRow base e size v n xs) (hg : v.ownBlock = Option.some g) : g < w.heap.size := (World.ownsRow.lt h g hg).2
theorem Grp.kept {w' : World} (h : Grp e size enc w base mb n Own F G) (hs : ∀ b, Own b → b < w.heap.size → w'.heap[b]? = w.heap[b]?) : Grp e size enc w' base mb n Own F G :=
  ⟨h.map.same (hs mb h.ownM h.map.lt), fun d v hv => ownsRow_same (h.some d v hv) (fun g hg => hs g (h.ownR d v g hv hg) (own_lt (h.some d v hv) hg)), h.none, h.apart, h.ownM, h.ownR⟩
theorem Grp.own {Own' : Nat → Prop} (h : Grp e size enc w base mb n Own F G) (hs : ∀ b, Own b → b < w.heap.size → Own' b) : Grp e size enc w base mb n Own' F G :=
  ⟨h.map, h.some, h.none, h.apart, hs mb h.ownM h.map.lt, fun d v g hv hg => hs g (h.ownR d v g hv hg) (own_lt (h.some d v hv) hg)⟩
theorem map_not_row {w : World} {base mb n e size k : Nat} {F : List UInt8 → Option Value} {v : Value} {xs : List Value} (h : MapIs w mb n F) (hr : w.ownsRow base e size v k xs) : Option.some mb ≠ v.ownBlock := by
  obtain ⟨D, ⟨es, clock, hb, _⟩, _⟩ := h
  rcases hr.2 with ⟨rfl, _⟩ | ⟨g, cap, cur, rfl, _, hg, _⟩
  · simp [Value.ownBlock]
  · simp only [Value.ownBlock]
    intro e
    obtain rfl := Option.some.inj e
    rw [hb] at hg; simp at hg
def updG (G : List UInt8 → List α) (d : List UInt8) (x : α) : List UInt8 → List α := fun y => if y = d then G d ++ [x] else G y
theorem Grp.put {w1 : World} (h : Grp e size enc w base mb n Own F G) (t E : TypeId) (ht : Tryz.prog.underlying t = Option.some (.map 9 E)) (hn : n < maxLen) (d : List UInt8) (hd : d.length ≤ maxLen) (x : α) (v' : Value)
    (hg : w.grownBy w1 ((F d).getD (.slice Option.none 0 0)).ownBlock) (ho : w1.ownsRow base e size v' ((G d).length + 1) (rowCells enc (G d ++ [x])))
    (hloc : v'.ownBlock = ((F d).getD (.slice Option.none 0 0)).ownBlock ∨ ∃ g, v'.ownBlock = Option.some g ∧ w.heap.size ≤ g) (hnew : ∀ b, w.heap.size ≤ b → Own b) :
    ∃ w2, (Instr.mapUpdate t (.map (Option.some mb)) (.string (bs d)) v').run Tryz.prog w1 = .ok () w2 ∧ Grp e size enc w2 base mb (n + 1) Own (updF F d v') (updG G d x) ∧ w1.grownBy w2 (Option.some mb) := by
  have hat := h.at d
  have hne := map_not_row h.map hat
  obtain ⟨w2, hrun, hm2, hg2⟩ := (h.map.kept hg hne).store t E ht hn d hd v'
  have hne2 := map_not_row (h.map.kept hg hne) ho
  refine ⟨w2, hrun, ⟨hm2, fun y u hu => ?_, fun y hy => ?_, fun y z u u' g hu hu' hug hug' => ?_, h.ownM, fun y u g hu hug => ?_⟩, hg2⟩
  · unfold updF at hu
    unfold updG
    by_cases hy : y = d
    · rw [if_pos hy] at hu ⊢
      obtain rfl := Option.some.inj hu
      rw [List.length_append]
      exact ownsRow_same ho (fun g hgg => hg2.block g (own_lt ho hgg) (fun e => hne2 (by rw [hgg, e])))
    · rw [if_neg hy] at hu ⊢
      have hu0 := h.some y u hu
      refine ownsRow_same hu0 (fun g hgg => ?_)
      have hlt := own_lt hu0 hgg
      have h1 : Option.some g ≠ ((F d).getD (.slice Option.none 0 0)).ownBlock := by
        intro e
        cases hf : F d with
        | none => rw [hf] at e; simp [Value.ownBlock] at e
        | some v0 => rw [hf] at e; exact hy (h.apart y d u v0 g hu hf hgg e.symm)
      have e1 := hg.block g hlt h1
      have hgm : Option.some g ≠ Option.some mb := fun e => map_not_row h.map hu0 (by rw [hgg, e])
      exact (hg2.block g (Nat.lt_of_lt_of_le hlt hg.size) hgm).trans e1
  · unfold updF at hy
    unfold updG
    by_cases hyd : y = d
    · rw [if_pos hyd] at hy; simp at hy
    · rw [if_neg hyd] at hy ⊢; exact h.none y hy
  · unfold updF at hu hu'
    have key : ∀ y u g, y ≠ d → F y = Option.some u → u.ownBlock = Option.some g → v'.ownBlock ≠ Option.some g := by
      intro y u g hy hu hug e
      rcases hloc with hl | ⟨g', hg', hle⟩
      · rw [hl] at e
        cases hf : F d with
        | none => rw [hf] at e; simp [Value.ownBlock] at e
        | some v0 => rw [hf] at e; exact hy (h.apart y d u v0 g hu hf hug e)
      · rw [hg'] at e
        obtain rfl := Option.some.inj e
        have := own_lt (h.some y u hu) hug
        omega
    by_cases hy : y = d
    · by_cases hz : z = d
      · rw [hy, hz]
      · rw [if_pos hy] at hu
        rw [if_neg hz] at hu'
        obtain rfl := Option.some.inj hu
        exact absurd hug (key z u' g hz hu' hug')
    · rw [if_neg hy] at hu
      by_cases hz : z = d
      · rw [if_pos hz] at hu'
        obtain rfl := Option.some.inj hu'
        exact absurd hug' (key y u g hy hu hug)
      · rw [if_neg hz] at hu'
        exact h.apart y z u u' g hu hu' hug hug'
  · unfold updF at hu
    by_cases hy : y = d
    · rw [if_pos hy] at hu
      obtain rfl := Option.some.inj hu
      rcases hloc with hl | ⟨g', hg', hle⟩
      · rw [hl] at hug; exact h.ownAt d g hug
      · rw [hg'] at hug
        obtain rfl := Option.some.inj hug
        exact hnew _ hle
    · rw [if_neg hy] at hu
      exact h.ownR y u g hu hug
end
theorem step_app {α : Type} {e size bytes : Nat} {enc : α → List Value} {ops : Array Oper} {o : Oper} {a : Act} {w : World} {K : Act → World → Prop} {Q : Exit → Act → World → Prop} {E : Prop}
    (hg : o.guard = none) (s x : Operand) (t : TypeId) (hop : o.op = Op.call { callee := Callee.builtin Builtin.append, args := #[s, x], argTypes := #[t, t] })
    (i : TypeInfo) (z : Value) (h1 : Tryz.prog.underlying t = some (.slice e)) (h2 : Tryz.prog.info? e = some i) (h3 : i.zero = some z) (h4 : i.size = size) (h5 : i.bytes = bytes) (h6 : z.cells.size = size) (h7 : 0 < size)
    (henc : ∀ y : α, (enc y).length = size) (hone : ∀ (y : α), ∀ u ∈ enc y, u.oneCell' = true)
    (base : Nat) (v : Value) (l : List α) (hs : a.eval s = v) (hown : w.ownsRow base e size v l.length (rowCells enc l)) (ad : Addr) (y : α) (hx : a.eval x = .slice (some ad) 1 1)
    (hnews : ∀ j u, (enc y)[j]? = some u → w.cell? (ad.add j) = some u) (hlen : l.length + 1 ≤ maxLen) (hby : (l.length + 1) * bytes ≤ 140737488355328) (hbase : base ≤ w.heap.size)
    (hK : ∀ v' w', w'.ownsRow base e size v' (l.length + 1) (rowCells enc (l ++ [y])) → w.grownBy w' v.ownBlock → (v'.ownBlock = v.ownBlock ∨ v'.ownBlock = some w.heap.size) → K (a.put o.dst v') w') :
    if Region.wanted o (yielded ops a.tmps) = true then Oper.wp Tryz.prog o a w K Q else E := by
  have hw : Region.wanted o (yielded ops a.tmps) = true := by simp [Region.wanted, hg]
  rw [if_pos hw]
  obtain ⟨v', w', hrun, r1, r2, _, r4⟩ := run_append_own_at (P := Tryz.prog) w base t o.type e i z size bytes h1 h2 h3 h4 h5 h6 h7 v l.length (rowCells enc l) hown ad 1 1 (enc y) (by rw [henc]; omega) hnews (hone y) hlen hby hbase
  unfold Oper.wp
  simp [execOp, hop, resolve, invoke, builtin, hs, hx, hrun, Result.andThen]
  refine hK v' w' ?_ r2 r4
  have : rowCells enc (l ++ [y]) = rowCells enc l ++ enc y := by simp [rowCells]
  rw [this]; exact r1
end Go.Proofs.YtjmacegibchplaaGreatDoor
