/-
  Maps by text that hold values as they are: made, looked up, stored.
-/
import Derived.Test.YtjmacegibchplaaGreatDoorTreeA
import Derived.Maps.OwnSet
namespace Go.Proofs.YtjmacegibchplaaGreatDoor
open Go.RowKit Go.Maps Go.WideMaps
set_option linter.unusedVariables false

def rawElem (v : Value) : Option (DataW Value × List MemPlace) := some (.held v, [])
theorem strKeyed : Keyed Tryz.prog 9 := string_keyed Tryz.underlying9
theorem key_bs (k : List UInt8) (h : k.length ≤ maxLen) : keyOf Tryz.prog 9 (.string (bs k)) = some (.string k) := by
  rw [keyOf_string_mk Tryz.underlying9 (by rw [bs_size]; exact h), bs_data]
/-- block b is a map of at most n texts that holds f -/
def MapIs (w : World) (b n : Nat) (f : List UInt8 → Option Value) : Prop :=
  ∃ D, w.ownsMap Tryz.prog 9 rawElem b n D ∧ ∀ k, Maps.has D (.string k) = (f k).isSome ∧ ∀ v, f k = some v → ∀ z, D.atKey (.string k) z = .held v
theorem MapIs.lt {w : World} {b n : Nat} {f : List UInt8 → Option Value} (h : MapIs w b n f) : b < w.heap.size := by
  obtain ⟨D, h, _⟩ := h
  exact h.lt
theorem MapIs.made (w : World) : MapIs (w.alloc (.map #[] 0)) w.heap.size 0 (fun _ => none) :=
  ⟨_, World.ownsMap_made w _ _ _, fun k => ⟨rfl, fun v hv => by simp at hv⟩⟩
theorem MapIs.kept {w w' : World} {b n : Nat} {f : List UInt8 → Option Value} {row : Option Nat} (h : MapIs w b n f) (hg : w.grownBy w' row) (hne : some b ≠ row) : MapIs w' b n f := by
  obtain ⟨D, h, hf⟩ := h
  exact ⟨D, h.kept hg hne, hf⟩
theorem MapIs.same {w w' : World} {b n : Nat} {f : List UInt8 → Option Value} (h : MapIs w b n f) (hg : w'.heap[b]? = w.heap[b]?) : MapIs w' b n f := by
  obtain ⟨D, ⟨es, clock, hb, F, hs, hD⟩, hf⟩ := h
  exact ⟨D, ⟨es, clock, hg.trans hb, F, hs, hD⟩, hf⟩
theorem MapIs.alloc {w : World} {b n : Nat} {f : List UInt8 → Option Value} (h : MapIs w b n f) (o : Obj) : MapIs (w.alloc o) b n f := h.kept (World.grownBy_alloc w o none) (by simp)
theorem MapIs.drew {w : World} {b n : Nat} {f : List UInt8 → Option Value} (h : MapIs w b n f) : MapIs w.drew b n f := h
theorem MapIs.at {w : World} {b n : Nat} {f : List UInt8 → Option Value} {D : DataW Value} (hf : ∀ k, Maps.has D (.string k) = (f k).isSome ∧ ∀ v, f k = some v → ∀ z, D.atKey (.string k) z = .held v) (k : List UInt8) (z : Value) : D.atKey (.string k) (.held z) = .held ((f k).getD z) := by
  cases hk : f k with
  | none =>
    have h1 := (hf k).1
    rw [hk] at h1
    rw [atKey_of_not_has h1]; rfl
  | some v => rw [(hf k).2 v hk]; rfl
theorem MapIs.look {w : World} {b n : Nat} {f : List UInt8 → Option Value} (h : MapIs w b n f) (t e : TypeId) (ht : Tryz.prog.underlying t = some (.map 9 e)) (z : Value) (hz : (zeroValue e).run Tryz.prog w = .ok z w) (k : List UInt8) (hk : k.length ≤ maxLen) :
    (Instr.lookup t (.map (some b)) (.string (bs k)) false).run Tryz.prog w = .ok ((f k).getD z) w := by
  obtain ⟨D, h, hf⟩ := h
  obtain ⟨v, ps, hrun, hv⟩ := h.lookup strKeyed ht hz (zd := .held z) (zp := []) rfl (key_bs k hk)
  rw [MapIs.at (w := w) (b := b) (n := n) hf] at hv
  simp only [rawElem, Option.some.injEq, Prod.mk.injEq, DataW.held.injEq] at hv
  rw [hrun, hv.1]
theorem MapIs.look_ok {w : World} {b n : Nat} {f : List UInt8 → Option Value} (h : MapIs w b n f) (t e : TypeId) (ht : Tryz.prog.underlying t = some (.map 9 e)) (z : Value) (hz : (zeroValue e).run Tryz.prog w = .ok z w) (k : List UInt8) (hk : k.length ≤ maxLen) :
    (Instr.lookup t (.map (some b)) (.string (bs k)) true).run Tryz.prog w = .ok (.tuple #[(f k).getD z, .bool (f k).isSome]) w := by
  obtain ⟨D, h, hf⟩ := h
  obtain ⟨v, ps, hrun, hv⟩ := h.look_ok strKeyed ht hz (zd := .held z) (zp := []) rfl (key_bs k hk)
  rw [MapIs.at (w := w) (b := b) (n := n) hf] at hv
  simp only [rawElem, Option.some.injEq, Prod.mk.injEq, DataW.held.injEq] at hv
  rw [hrun, hv.1, (hf k).1]
def updF (f : List UInt8 → Option Value) (k : List UInt8) (v : Value) : List UInt8 → Option Value := fun x => if x = k then some v else f x
theorem MapIs.store {w : World} {b n : Nat} {f : List UInt8 → Option Value} (h : MapIs w b n f) (t e : TypeId) (ht : Tryz.prog.underlying t = some (.map 9 e)) (hn : n < maxLen) (k : List UInt8) (hk : k.length ≤ maxLen) (v : Value) :
    ∃ w', (Instr.mapUpdate t (.map (some b)) (.string (bs k)) v).run Tryz.prog w = .ok () w' ∧ MapIs w' b (n + 1) (updF f k v) ∧ w.grownBy w' (some b) := by
  obtain ⟨D, h, hf⟩ := h
  have hM := h.isMap
  obtain ⟨w', hrun, h', hg⟩ := h.update strKeyed ht hn (d := .held v) (ps := []) (key_bs k hk) rfl
  refine ⟨w', hrun, ⟨_, h', fun x => ?_⟩, hg⟩
  unfold updF
  by_cases hx : x = k
  · subst hx
    rw [if_pos rfl]
    exact ⟨has_put_same (k := .string x) hM trivial _, fun u hu z => by simp at hu; subst hu; exact atKey_put_same (k := .string x) hM trivial _ _⟩
  · rw [if_neg hx]
    have hne : (Lit.string x) ≠ (Lit.string k) := by simpa using hx
    exact ⟨by rw [has_put_other hne]; exact (hf x).1, fun u hu z => by rw [atKey_put_other hne]; exact (hf x).2 u hu z⟩
end Go.Proofs.YtjmacegibchplaaGreatDoor
