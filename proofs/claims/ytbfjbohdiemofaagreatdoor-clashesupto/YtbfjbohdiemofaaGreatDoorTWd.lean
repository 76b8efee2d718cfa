/-
  The program's Walk: its recursion, for any visitor.
-/
import Derived.Test.YtbfjbohdiemofaaGreatDoorSortV
import Derived.Test.YtbfjbohdiemofaaGreatDoorWalkQ
namespace Go.Proofs.YtbfjbohdiemofaaGreatDoor
open Go.RowKit
set_option linter.unusedVariables false

/-- the visitor's own blocks stand -/
structure OwnK (Own : Nat → Prop) (w w' : World) : Prop where
  os : w'.os = w.os
  tape : w'.tape = w.tape
  output : w'.output = w.output
  size : w.heap.size ≤ w'.heap.size
  block : ∀ b, Own b → w'.heap[b]? = w.heap[b]?
/-- what a visitor leaves: all but its own blocks stand -/
structure VisK (Own Own' : Nat → Prop) (w w' : World) : Prop where
  size : w.heap.size ≤ w'.heap.size
  block : ∀ b, b < w.heap.size → ¬ Own b → w'.heap[b]? = w.heap[b]?
  own : ∀ b, Own' b → Own b ∨ w.heap.size ≤ b
/-- what the recursion leaves: all but the visitor's blocks and Walk's own (from B0 up to B1) stand -/
structure ThrK (B0 B1 : Nat) (Own Own' : Nat → Prop) (w w' : World) : Prop where
  size : w.heap.size ≤ w'.heap.size
  block : ∀ b, b < w.heap.size → ¬ Own b → ¬ (B0 ≤ b ∧ b < B1) → w'.heap[b]? = w.heap[b]?
  own : ∀ b, Own' b → Own b ∨ w.heap.size ≤ b
theorem ThrK.refl (B0 B1 : Nat) (Own : Nat → Prop) (w : World) : ThrK B0 B1 Own Own w w := ⟨Nat.le_refl _, fun _ _ _ _ => rfl, fun _ h => .inl h⟩
theorem ThrK.trans {B0 B1 : Nat} {O1 O2 O3 : Nat → Prop} {w1 w2 w3 : World} (h : ThrK B0 B1 O1 O2 w1 w2) (k : ThrK B0 B1 O2 O3 w2 w3) : ThrK B0 B1 O1 O3 w1 w3 :=
  ⟨Nat.le_trans h.size k.size, fun b hb ho hn => (k.block b (Nat.lt_of_lt_of_le hb h.size) (fun h2 => (h.own b h2).elim ho (fun h3 => by omega)) hn).trans (h.block b hb ho hn),
    fun b hb => (k.own b hb).elim (fun h2 => h.own b h2) (fun h2 => .inr (Nat.le_trans h.size h2))⟩
theorem VisK.thr {B0 B1 : Nat} {Own Own' : Nat → Prop} {w w' : World} (h : VisK Own Own' w w') : ThrK B0 B1 Own Own' w w' := ⟨h.size, fun b hb ho _ => h.block b hb ho, h.own⟩
theorem ThrK.below {B0 B1 : Nat} {Own : Nat → Prop} {w w' : World} (h : Below w.heap.size w w') : ThrK B0 B1 Own Own w w' := ⟨h.size, fun b hb _ _ => h.block b hb, fun _ h => .inl h⟩
/-- a function that is handed each entry -/
structure Visitor (l : List En) (k : Nat) (cap : Array Value) (I : (Nat → Prop) → List Nat → World → Prop) : Prop where
  enters : ∀ args w, (callFunc k args).run Tryz.prog w = .ok (.enter k args) w
  lt : ∀ Own done w, I Own done w → ∀ b, Own b → b < w.heap.size
  stable : ∀ Own done w w', I Own done w → OwnK Own w w' → I Own done w'
  visit : ∀ Own done i w, i < l.length → done.length < 5000000000 → I Own done w → (kindAt l i = 0 → done.filter (fun j => upAt l j == pathAt l i) = kidsP l (pathAt l i)) →
    Calls Tryz.prog k (#[entV (l.getD i en0)] ++ cap) w fun e w' => e = .returned (.tuple #[]) ∧ ∃ Own', I Own' (done ++ [i]) w' ∧ VisK Own Own' w w'
def ptr (b : Nat) : Value := .pointer (some ⟨b, 0, none⟩)
/-- Walk's own memory -/
structure Wlk (l : List En) (k : Nat) (cap : Array Value) (B0 B1 bi bt bv mb n : Nat) (F : List UInt8 → Option Value) (w : World) (G : List UInt8 → List En) : Prop where
  ci : w.heap[bi]? = some (.cells #[.map (some mb)] 82 (0, 0))
  ct : w.heap[bt]? = some (.cells #[.func (.func 56) #[] #[ptr bi, ptr bt, ptr bv]] 83 (0, 0))
  cv : w.heap[bv]? = some (.cells #[.func (.func k) #[] cap] 71 (0, 0))
  li : B0 ≤ bi ∧ bi < B1
  lt : B0 ≤ bt ∧ bt < B1
  lv : B0 ≤ bv ∧ bv < B1
  size : B1 ≤ w.heap.size
  grp : Grp 32 3 enCells w B0 mb n (fun b => B0 ≤ b ∧ b < B1) F G
  perm : ∀ d, (G d).Perm (inDir l d)
section
variable {l : List En} {k : Nat} {cap : Array Value} {B0 B1 bi bt bv mb n : Nat} {F : List UInt8 → Option Value} {w : World} {G : List UInt8 → List En}
theorem Wlk.kept {w' : World} (h : Wlk l k cap B0 B1 bi bt bv mb n F w G) (hs : w.heap.size ≤ w'.heap.size) (hv : ∀ b, B0 ≤ b → b < B1 → w'.heap[b]? = w.heap[b]?) : Wlk l k cap B0 B1 bi bt bv mb n F w' G :=
  ⟨(hv bi h.li.1 h.li.2).trans h.ci, (hv bt h.lt.1 h.lt.2).trans h.ct, (hv bv h.lv.1 h.lv.2).trans h.cv, h.li, h.lt, h.lv, Nat.le_trans h.size hs, h.grp.kept (fun b hb _ => hv b hb.1 hb.2), h.perm⟩
theorem Wlk.below {w' : World} (h : Wlk l k cap B0 B1 bi bt bv mb n F w G) (hb : Below w.heap.size w w') : Wlk l k cap B0 B1 bi bt bv mb n F w' G := h.kept hb.size (fun b _ h2 => hb.block b (by have := h.size; omega))
theorem row_not_cell {w : World} {base e size n b t : Nat} {v : Value} {xs : List Value} {cur : Array Value} (hr : w.ownsRow base e size v n xs) (hb : w.heap[b]? = some (.cells cur t (0, 0))) (hne : t ≠ e) : Option.some b ≠ v.ownBlock := by
  rcases hr.2 with ⟨rfl, _⟩ | ⟨g, cap, cur', rfl, _, hg, _⟩
  · simp [Value.ownBlock]
  · intro e
    simp only [Value.ownBlock, Option.some.injEq] at e
    subst e
    rw [hb] at hg
    simp at hg
    exact hne hg.2
/-- a row sorted in its place -/
theorem Grp.sorted {e size : Nat} {enc : En → List Value} {base mb n : Nat} {Own : Nat → Prop} {w w' : World} (h : Grp e size enc w base mb n Own F G) (d : List UInt8) (ys : List En) (hys : G d = [] → ys = [])
    (ho : w'.ownsRow base e size ((F d).getD (.slice Option.none 0 0)) ys.length (rowCells enc ys)) (hg : w.grownBy w' ((F d).getD (.slice Option.none 0 0)).ownBlock) :
    Grp e size enc w' base mb n Own F (fun y => if y = d then ys else G y) := by
  refine ⟨h.map.kept hg (map_not_row h.map (h.at d)), fun y v hv => ?_, fun y hy => ?_, h.apart, h.ownM, h.ownR⟩
  · by_cases hy : y = d
    · subst hy; rw [if_pos rfl]; rw [hv] at ho; exact ho
    · rw [if_neg hy]
      refine ownsRow_same (h.some y v hv) (fun g hgg => hg.block g (own_lt (h.some y v hv) hgg) (fun e => ?_))
      cases hf : F d with
      | none => rw [hf] at e; simp [Value.ownBlock] at e
      | some v0 => rw [hf] at e; exact hy (h.apart y d v v0 g hv hf hgg e.symm)
  · by_cases hyd : y = d
    · subst hyd; rw [if_pos rfl]; exact hys (h.none y hy)
    · rw [if_neg hyd]; exact h.none y hy
theorem Wlk.sorted {w' : World} (h : Wlk l k cap B0 B1 bi bt bv mb n F w G) (d : List UInt8) (ys : List En) (hp : ys.Perm (G d))
    (ho : w'.ownsRow B0 32 3 ((F d).getD (.slice Option.none 0 0)) ys.length (rowCells enCells ys)) (hg : w.grownBy w' ((F d).getD (.slice Option.none 0 0)).ownBlock) :
    Wlk l k cap B0 B1 bi bt bv mb n F w' (fun y => if y = d then ys else G y) := by
  have hat := h.grp.at d
  have hlt : ∀ (b : Nat) (cur : Array Value) (t : TypeId), w.heap[b]? = some (Obj.cells cur t (0, 0)) → t ≠ 32 → w'.heap[b]? = some (Obj.cells cur t (0, 0)) := fun b cur t hb ht =>
    (hg.block b (Array.getElem?_eq_some_iff.1 hb).1 (row_not_cell hat hb ht)).trans hb
  refine ⟨hlt _ _ _ h.ci (by decide), hlt _ _ _ h.ct (by decide), hlt _ _ _ h.cv (by decide), h.li, h.lt, h.lv, Nat.le_trans h.size hg.size, h.grp.sorted d ys (fun e => by rw [e] at hp; exact hp.eq_nil) ho hg, fun y => ?_⟩
  by_cases hy : y = d
  · subst hy; rw [if_pos rfl]; exact hp.trans (h.perm y)
  · rw [if_neg hy]; exact h.perm y
end
theorem under82 : Tryz.prog.underlying 82 = some (.map 9 22) := by kernel_rfl
theorem zero_ents (w : World) : (zeroValue 22).run Tryz.prog w = .ok (.slice none 0 0) w := by kernel_rfl
/-- the cells of one entry of a row -/
theorem row_ent {w : World} {base g cap : Nat} {ys : List En} (h : w.ownsRow base 32 3 (.slice (some ⟨g, 0, none⟩) ys.length cap) ys.length (rowCells enCells ys)) (j : Nat) (hj : j < ys.length) :
    w.cell? ⟨g, j * 3, none⟩ = some (.string ys[j].path) ∧ w.cell? ⟨g, j * 3 + 1, none⟩ = some (.int .i64 ys[j].kind) ∧ w.cell? ⟨g, j * 3 + 2, none⟩ = some (.string ys[j].data) := by
  have key : ∀ c v, c < 3 → (enCells ys[j])[c]? = some v → w.cell? ⟨g, j * 3 + c, none⟩ = some v := by
    intro c v hc hv
    have h1 := rowCells_at (n := 3) enCells_len ys j hj c hc
    rw [hv] at h1
    have := World.ownsRow.cells h (g := g) rfl (j * 3 + c) v h1
    rwa [add_off0] at this
  exact ⟨key 0 _ (by omega) rfl, key 1 _ (by omega) rfl, key 2 _ (by omega) rfl⟩
end Go.Proofs.YtbfjbohdiemofaaGreatDoor
