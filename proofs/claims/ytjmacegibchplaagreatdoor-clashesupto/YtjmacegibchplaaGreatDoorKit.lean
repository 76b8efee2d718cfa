/-
  Small helpers for the walks: hidden equations, worlds below a bound.
-/
import Derived.Test.YtjmacegibchplaaGreatDoorRows
import Derived.WalkKit
import Derived.WalkSpells
import Derived.WalkLawsBesides
import Derived.Deep.QuietTactic
import Derived.BigQuiet
namespace Go.Proofs.YtjmacegibchplaaGreatDoor
open Go.RowKit

theorem hide {p : Prop} (h : p) : Hid p := h
theorem unhide {p : Prop} (h : Hid p) : p := h
theorem bcell {W w1 : World} (hb : Below W.heap.size W w1) : (∀ b o, b < W.heap.size → w1.cell? ⟨b, o, none⟩ = W.cell? ⟨b, o, none⟩) ∧ (∀ b o, b < W.heap.size → w1.frozen? ⟨b, o, none⟩ = W.frozen? ⟨b, o, none⟩) :=
  ⟨fun b o h => hb.cell (p := ⟨b, o, none⟩) h, fun b o h => hb.frozen (p := ⟨b, o, none⟩) h⟩
theorem ret_int {k : IntKind} {a b : Int} (h : a = b) : Ending.returned (.int k a) = .returned (.int k b) := by rw [h]
theorem ret_string {a b : ByteArray} (h : a = b) : Ending.returned (.string a) = .returned (.string b) := by rw [h]
theorem ret_bool {a b : Bool} (h : a = b) : Ending.returned (.bool a) = .returned (.bool b) := by rw [h]

/-- What was there is as it was, but for rows of type e from block 'base' on. -/
structure Keeps (base : Nat) (e : TypeId) (w w' : World) : Prop where
  os : w'.os = w.os
  tape : w'.tape = w.tape
  output : w'.output = w.output
  size : w.heap.size ≤ w'.heap.size
  block : ∀ k, k < w.heap.size → (k < base ∨ ∀ cur fz, w.heap[k]? ≠ some (.cells cur e fz)) → w'.heap[k]? = w.heap[k]?
theorem Keeps.refl (base : Nat) (e : TypeId) (w : World) : Keeps base e w w := ⟨rfl, rfl, rfl, Nat.le_refl _, fun _ _ _ => rfl⟩
theorem Keeps.trans {base : Nat} {e : TypeId} {a b c : World} (h : Keeps base e a b) (k : Keeps base e b c) : Keeps base e a c :=
  ⟨k.os.trans h.os, k.tape.trans h.tape, k.output.trans h.output, Nat.le_trans h.size k.size, fun j hj hc => by
    have e1 := h.block j hj hc
    refine (k.block j (Nat.lt_of_lt_of_le hj h.size) ?_).trans e1
    rw [e1]; exact hc⟩
theorem Keeps.alloc {base : Nat} {e : TypeId} {a w : World} (h : Keeps base e a w) (o : Obj) : Keeps base e a (w.alloc o) :=
  h.trans ⟨rfl, rfl, rfl, by simp, fun k hk _ => Below.heap_alloc w o k hk⟩
theorem Keeps.drew {base : Nat} {e : TypeId} {a w : World} (h : Keeps base e a w) : Keeps base e a w.drew := ⟨h.os, h.tape, h.output, h.size, h.block⟩
theorem Keeps.below {base : Nat} {e : TypeId} {a w : World} (h : Keeps base e a w) (hb : base ≤ a.heap.size) : Below base a w :=
  ⟨h.os, h.tape, h.output, h.size, fun k hk => h.block k (by omega) (.inl hk)⟩
theorem Keeps.of_below {base : Nat} {e : TypeId} {a w : World} (h : Below a.heap.size a w) : Keeps base e a w :=
  ⟨h.os, h.tape, h.output, h.size, fun k hk _ => h.block k hk⟩
theorem Keeps.grown {base : Nat} {e : TypeId} {size n : Nat} {v : Value} {xs : List Value} {w w' : World} (ho : w.ownsRow base e size v n xs) (hg : w.grownBy w' v.ownBlock) : Keeps base e w w' :=
  ⟨hg.os, hg.tape, hg.output, hg.size, fun k hk hc => hg.block k hk (fun hk2 => by
    rcases ho.2 with ⟨rfl, _⟩ | ⟨g, cap, cur, rfl, hb, hgg, _⟩
    · simp [Value.ownBlock] at hk2
    · simp [Value.ownBlock] at hk2
      subst hk2
      rcases hc with h | h
      · omega
      · exact h _ _ hgg)⟩
/-- a block of another type stands -/
theorem Keeps.other {base : Nat} {e : TypeId} {w w' : World} (h : Keeps base e w w') {k : Nat} {cur : Array Value} {t : TypeId} {fz : Nat × Nat} (hk : w.heap[k]? = some (.cells cur t fz)) (ht : t ≠ e) : w'.heap[k]? = some (.cells cur t fz) := by
  have hl : k < w.heap.size := (Array.getElem?_eq_some_iff.1 hk).1
  rw [h.block k hl (.inr (fun c f hc => by rw [hk] at hc; simp at hc; exact ht hc.2.1)), hk]
theorem cell_of_block {w : World} {k j : Nat} {cur : Array Value} {t : TypeId} {fz : Nat × Nat} (h : w.heap[k]? = some (.cells cur t fz)) : w.cell? ⟨k, j, none⟩ = cur[j]? := cell_of_row w k j cur t fz h
theorem free_block {w : World} {k j : Nat} {cur : Array Value} {t : TypeId} (h : w.heap[k]? = some (.cells cur t (0, 0))) : w.frozen? ⟨k, j, none⟩ = false := by simp [World.frozen?, h]
theorem add_off0 (b i : Nat) : (⟨b, 0, none⟩ : Addr).add i = ⟨b, i, none⟩ := by unfold Addr.add; split <;> simp_all
def byteVal (b : UInt8) : Value := .int .u8 b.toNat
/-- the value owns the bytes l -/
def Owns (w : World) (base : Nat) (v : Value) (l : List UInt8) : Prop := w.ownsRow base 5 1 v l.length (l.map byteVal)
theorem info_u8 : (Tryz.prog.info? 5).map (fun i => (i.zero, i.size, i.bytes)) = some (some (.int .u8 0), 1, 1) := by kernel_rfl
end Go.Proofs.YtjmacegibchplaaGreatDoor
