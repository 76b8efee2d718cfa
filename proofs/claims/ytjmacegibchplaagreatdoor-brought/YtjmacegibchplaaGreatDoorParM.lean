import Derived.Test.YtjmacegibchplaaGreatDoorFtA
import Derived.Test.YtjmacegibchplaaGreatDoorAwkA
import Derived.Test.YtjmacegibchplaaGreatDoorKeepD
import Derived.Test.YtjmacegibchplaaGreatDoorEntB
import Derived.Test.YtjmacegibchplaaGreatDoorStoA
import Derived.Test.YtjmacegibchplaaGreatDoorTrP
import Derived.Laws.AppendOwnNone
import Derived.Deep.CutBlock
import Derived.Deep.RegionHeld3
import Derived.Test.YtjmacegibchplaaGreatDoorUpA
import Derived.Test.YtjmacegibchplaaGreatDoorLnB
import Derived.Test.YtjmacegibchplaaGreatDoorCardA
import Derived.Deep.DrawnRows
import Derived.Deep.RegionHeld
/-
  The document's examples: the first four.
-/
namespace Go.Proofs.YtjmacegibchplaaGreatDoor
open Go.RowKit Go.Maps Go.WideMaps
set_option linter.unusedVariables false
end Go.Proofs.YtjmacegibchplaaGreatDoor

/-
  The statement on fetched trees (Rooted): its body.
-/
namespace Go.Proofs.YtjmacegibchplaaGreatDoor
open Go.RowKit Go.Maps Go.WideMaps
set_option linter.unusedVariables false
theorem row_neS {w : World} {base e1 s1 n1 b : Nat} {v1 : Value} {xs1 : List Value} {cur : Array Value} {e2 : TypeId} {fz : Nat × Nat} (h1 : w.ownsRow base e1 s1 v1 n1 xs1) (hb : w.heap[b]? = some (.cells cur e2 fz)) (hne : e1 ≠ e2) : v1.ownBlock ≠ some b := by
  intro hg
  rcases h1.2 with ⟨rfl, _⟩ | ⟨g', cap, cur', rfl, hb', hgg, _⟩
  · simp [Value.ownBlock] at hg
  · simp [Value.ownBlock] at hg
    subst hg
    rw [hb] at hgg
    simp at hgg
    exact hne hgg.2.1.symm
theorem CS.grown {w w' : World} {sb pb um n : Nat} {room : Int} {st : List (List UInt8 × List UInt8)} {base s1 n1 : Nat} {v1 : Value} {xs1 : List Value} (h : CS w sb pb um n room st) (ho : w.ownsRow base 9 s1 v1 n1 xs1) (hg : w.grownBy w' v1.ownBlock) : CS w' sb pb um n room st := by
  refine h.fr (S := fun x => v1.ownBlock = some x) (Fr.grown hg (fun g e => e)) (row_neS ho h.c (by decide)) (row_neS ho h.p.s (by decide)) ?_
  intro e
  rcases ho.2 with ⟨rfl, _⟩ | ⟨g', cap, cur', rfl, hb', hgg, _⟩
  · simp [Value.ownBlock] at e
  · simp [Value.ownBlock] at e
    subst e
    exact map_ne_cells h.p.m hgg rfl
theorem bytes_take1 (l : List (List UInt8)) (k : Nat) (h : k < l.length) : bytesP (l.take (k + 1)) = bytesP (l.take k) + l[k].length := by
  rw [List.take_add_one, List.getElem?_eq_getElem h, bytes_app]
  simp [bytesP]
theorem bytes_take_le (l : List (List UInt8)) (k : Nat) : bytesP (l.take k) ≤ bytesP l := by
  have h := bytes_app (l.take k) (l.drop k)
  rw [List.take_append_drop] at h
  omega
theorem bytes_mem (l : List (List UInt8)) (x : List UInt8) (h : x ∈ l) : x.length ≤ bytesP l := by
  induction l with
  | nil => simp at h
  | cons y r ih =>
    simp only [bytesP]
    rcases List.mem_cons.1 h with rfl | h
    · omega
    · have := ih h; omega
end Go.Proofs.YtjmacegibchplaaGreatDoor

/-
  Numbers owned: appended to, read.
-/
namespace Go.Proofs.YtjmacegibchplaaGreatDoor
open Go.RowKit
set_option linter.unusedVariables false
def OwnsN (w : World) (base : Nat) (v : Value) (l : List Int) : Prop := w.ownsRow base 3 1 v l.length (l.map (Value.int .i64))
theorem app_num {w : World} {ops : Array Oper} {rest : List Oper} {o : Oper} {a : Act} {Q : Exit → Act → World → Prop} (hgd : o.guard = none) (s x : Operand)
    (ho : o.op = .call { callee := .builtin .append, args := #[s, x], argTypes := #[55, 55] }) (base : Nat) (v : Value) (l : List Int) (hs : a.eval s = v) (hown : OwnsN w base v l)
    (ad : Addr) (y : Int) (hx : a.eval x = .slice (some ad) 1 1) (hnews : w.cell? (ad.add 0) = some (.int .i64 y))
    (hlen : l.length ≤ 2000000) (hbase : base ≤ w.heap.size)
    (h : ∀ v' w', OwnsN w' base v' (l ++ [y]) → w.grownBy w' v.ownBlock → wpList Tryz.prog ops Q rest (a.put o.dst v') w') : wpList Tryz.prog ops Q (o :: rest) a w := by
  obtain ⟨i0, hi, hz0, hz1, hz2⟩ := info_parts info_int
  refine wpList_append_own w hgd s x 55 ho base 3 i0 _ 1 8 Tryz.underlying55 hi hz0 hz1 hz2 rfl (by decide) v l.length (l.map (Value.int .i64)) hs hown ad 1 1 [.int .i64 y] hx rfl ?_ ?_ (by unfold maxLen; omega) (by omega) hbase ?_
  · intro j u hj
    match j, hj with
    | 0, hj => simp at hj; subst hj; exact hnews
  · intro u hu; simp at hu; subst hu; rfl
  · intro v' w' h2 h3 _
    refine h v' w' ?_ h3
    unfold OwnsN
    rw [List.length_append, List.map_append]
    exact h2
theorem OwnsN.ints {w : World} {base : Nat} {v : Value} {l : List Int} (h : OwnsN w base v l) : ∃ a c, v = .slice a l.length c ∧ IntsAt w a l ∧ (∀ b o q, a = some ⟨b, o, q⟩ → base ≤ b) := by
  rcases h.2 with ⟨hv, hx⟩ | ⟨g, cap, cur, hv, hb, hgg, _⟩
  · have hl : l = [] := by simpa using hx
    subst hl
    exact ⟨none, 0, hv, .inl rfl, fun b o q e => by simp at e⟩
  · refine ⟨some ⟨g, 0, none⟩, cap, hv, ?_, fun b o q e => by simp at e; omega⟩
    rcases Nat.eq_zero_or_pos l.length with h0 | hp
    · exact .inl (List.eq_nil_of_length_eq_zero h0)
    · refine .inr ⟨g, 0, rfl, fun i hi => ?_⟩
      obtain ⟨g', cap', cur', hv', _, hb', hc'⟩ := row_at h i (by simpa using hi)
      have hgg' : g' = g := by rw [hv] at hv'; simp at hv'; exact hv'.1.symm
      subst hgg'
      have := cell_of_block (j := i) hb'
      rw [hc'] at this
      rw [Nat.zero_add]
      simpa using this
theorem bw0 {wr w9 : World} (h : Below wr.drew.heap.size wr.drew w9) : Below wr.heap.size wr w9 := ⟨h.os, h.tape, h.output, h.size, h.block⟩
theorem bw1 {wr w9 : World} {x : Obj} (h : Below ((wr.alloc x).drew).heap.size ((wr.alloc x).drew) w9) : Below wr.heap.size wr w9 := by
  have h1 : Below ((wr.alloc x)).heap.size (wr.alloc x) w9 := ⟨h.os, h.tape, h.output, h.size, h.block⟩
  have h0 : Below wr.heap.size wr (wr.alloc x) := (Below.refl _ _).alloc (Nat.le_refl _) _
  exact h0.trans (h1.mono h0.size)
theorem bw2 {wr w9 : World} {x y : Obj} (h : Below (((wr.alloc x).alloc y).drew).heap.size (((wr.alloc x).alloc y).drew) w9) : Below wr.heap.size wr w9 := by
  have h1 : Below (((wr.alloc x).alloc y)).heap.size ((wr.alloc x).alloc y) w9 := ⟨h.os, h.tape, h.output, h.size, h.block⟩
  have h0 : Below wr.heap.size wr ((wr.alloc x).alloc y) := ((Below.refl _ _).alloc (Nat.le_refl _) _).alloc (by simp) _
  exact h0.trans (h1.mono h0.size)
end Go.Proofs.YtjmacegibchplaaGreatDoor

/-
  The statement on a tree brought into a store and fetched again (Brought): its body.
-/
namespace Go.Proofs.YtjmacegibchplaaGreatDoor
open Go.RowKit Go.Maps Go.WideMaps
set_option linter.unusedVariables false
def PlanB (b : Nat) (W : World) (B : Int) (v : Value) : Prop := W.heap[b]? = some (.cells #[.int .i64 9, .int .i64 B, v] 57 (0, 0))
theorem PlanB.below {b : Nat} {W W' : World} {B : Int} {v : Value} {n : Nat} (h : PlanB b W B v) (hb : Below n W W') (hn : b < n) : PlanB b W' B v := (hb.block b hn).trans h
theorem PlanB.c0 {b : Nat} {W : World} {B : Int} {v : Value} (h : PlanB b W B v) : W.cell? ⟨b, 0, none⟩ = some (.int .i64 9) := by simpa using cell_of_block (j := 0) h
theorem PlanB.c1 {b : Nat} {W : World} {B : Int} {v : Value} (h : PlanB b W B v) : W.cell? ⟨b, 1, none⟩ = some (.int .i64 B) := by simpa using cell_of_block (j := 1) h
theorem PlanB.c2 {b : Nat} {W : World} {B : Int} {v : Value} (h : PlanB b W B v) : W.cell? ⟨b, 2, none⟩ = some v := by simpa using cell_of_block (j := 2) h
theorem PlanB.lt {b : Nat} {W : World} {B : Int} {v : Value} (h : PlanB b W B v) : b < W.heap.size := (Array.getElem?_eq_some_iff.1 h).1
theorem plan_step {W0 W W7 : World} {b : Nat} {B : Int} {v v' : Value} {L : List Int} {y : Int} {X : Obj} (hp : PlanB b W B v) (hbb : b = W0.heap.size) (ho : OwnsN W b v L) (hbel : Below W0.heap.size W0 W)
    (ho7 : OwnsN W7 b v' (L ++ [y])) (g7 : (W.alloc X).grownBy W7 v.ownBlock) : PlanB b W7 B v ∧ PlanB b (W7.setCell ⟨b, 2, none⟩ v') B v' ∧ OwnsN (W7.setCell ⟨b, 2, none⟩ v') b v' (L ++ [y]) ∧ Below W0.heap.size W0 (W7.setCell ⟨b, 2, none⟩ v') := by
  have K7 := Keeps.grown (World.ownsRow.alloc ho X) g7
  have e1 : (W.alloc X).heap[b]? = some (.cells #[.int .i64 9, .int .i64 B, v] 57 (0, 0)) := (Below.heap_alloc _ _ _ hp.lt).trans hp
  have e2 : PlanB b W7 B v := K7.other e1 (by decide)
  have b7 : Below W0.heap.size W0 W7 := (hbel.alloc hbel.size _).grown g7 (by simp; have := hbel.size; omega) (fun k hk => by have := (World.ownsRow.lt ho k hk).1; omega)
  refine ⟨e2, heap_setCell_same W7 b 2 _ _ v' e2, ?_, b7.setCell (by show W0.heap.size ≤ b; omega) _⟩
  refine ownsRow_same ho7 (fun g e => (grown_setCell W7 b 2 v').block g (own_lt ho7 e) (fun h2 => ?_))
  have h2' : g = b := by simpa using h2
  exact row_neS ho7 e2 (by decide) (by rw [e, h2'])
def SentB (b : Nat) (W : World) (s : Nat × Nat × Nat) : Prop := W.heap[b]? = some (.cells #[.int .i64 (s.1 : Int), .int .i64 (s.2.1 : Int), .int .i64 (s.2.2 : Int)] 52 (0, 0))
theorem take_snoc (L : List Int) (k : Nat) (h : k < L.length) : L.take (k + 1) = L.take k ++ [L[k]] := by rw [List.take_add_one, List.getElem?_eq_getElem h]; rfl
theorem bad_snoc (L : List Int) (y : Int) : (L ++ [y]).countP badK = L.countP badK + (if badK y = true then 1 else 0) := by
  rw [List.countP_append, List.countP_cons, List.countP_nil, Nat.zero_add]
section
variable {wr w10 : World} {sb pb um n' : Nat} {st : List (List UInt8 × List UInt8)}
theorem up_done (hf : Fr (fun x => x = pb ∨ x = um) wr w10) (hc : CS w10 sb pb um n' 100000 st) (s : Nat × Nat × Nat) :
    SentB w10.heap.size (w10.alloc (.cells #[.int .i64 (s.1 : Int), .int .i64 (s.2.1 : Int), .int .i64 (s.2.2 : Int)] 52)) s ∧ wr.heap.size ≤ w10.heap.size ∧
    CS (w10.alloc (.cells #[.int .i64 (s.1 : Int), .int .i64 (s.2.1 : Int), .int .i64 (s.2.2 : Int)] 52)) sb pb um n' 100000 st ∧
    Fr (fun x => x = pb ∨ x = um) wr (w10.alloc (.cells #[.int .i64 (s.1 : Int), .int .i64 (s.2.1 : Int), .int .i64 (s.2.2 : Int)] 52)) := by
  have hb : Below w10.heap.size w10 (w10.alloc (.cells #[.int .i64 (s.1 : Int), .int .i64 (s.2.1 : Int), .int .i64 (s.2.2 : Int)] 52)) := (Below.refl _ _).alloc (Nat.le_refl _) _
  exact ⟨heap_alloc_new w10 _, hf.size, hc.below hb (Nat.le_refl _), hf.trans (Fr.below hb)⟩
theorem up_done2 (hf : Fr (fun x => x = pb ∨ x = um) wr w10) (hc : CS w10 sb pb um n' 100000 st) (hlw : sb < wr.heap.size ∧ pb < wr.heap.size ∧ um < wr.heap.size) (s : Nat × Nat × Nat) {b : Nat} (hb : wr.heap.size ≤ b) (hz : w10.heap[b]? = some (.cells #[.int .i64 0, .int .i64 0, .int .i64 0] 52 (0, 0))) :
    SentB b (((w10.setCell ⟨b, 0, none⟩ (.int .i64 (s.1 : Int))).setCell ⟨b, 1, none⟩ (.int .i64 (s.2.1 : Int))).setCell ⟨b, 2, none⟩ (.int .i64 (s.2.2 : Int))) s ∧ wr.heap.size ≤ b ∧
    CS (((w10.setCell ⟨b, 0, none⟩ (.int .i64 (s.1 : Int))).setCell ⟨b, 1, none⟩ (.int .i64 (s.2.1 : Int))).setCell ⟨b, 2, none⟩ (.int .i64 (s.2.2 : Int))) sb pb um n' 100000 st ∧
    Fr (fun x => x = pb ∨ x = um) wr (((w10.setCell ⟨b, 0, none⟩ (.int .i64 (s.1 : Int))).setCell ⟨b, 1, none⟩ (.int .i64 (s.2.1 : Int))).setCell ⟨b, 2, none⟩ (.int .i64 (s.2.2 : Int))) := by
  have h1 := heap_setCell_same w10 b 0 _ _ (.int .i64 (s.1 : Int)) hz
  have h2 := heap_setCell_same _ b 1 _ _ (.int .i64 (s.2.1 : Int)) h1
  have h3 := heap_setCell_same _ b 2 _ _ (.int .i64 (s.2.2 : Int)) h2
  have f1 : Fr (fun x => x = b) w10 (((w10.setCell ⟨b, 0, none⟩ (.int .i64 (s.1 : Int))).setCell ⟨b, 1, none⟩ (.int .i64 (s.2.1 : Int))).setCell ⟨b, 2, none⟩ (.int .i64 (s.2.2 : Int))) := ((Fr.set (S := fun x => x = b) w10 b 0 _ rfl).trans (Fr.set (S := fun x => x = b) _ b 1 _ rfl)).trans (Fr.set (S := fun x => x = b) _ b 2 _ rfl)
  exact ⟨h3, hb, hc.fr f1 (by omega) (by omega) (by omega), ((hf.setNew b 0 _ hb).setNew b 1 _ hb).setNew b 2 _ hb⟩
end
theorem lies_fr {S : Nat → Prop} {w w' : World} {a : Option Addr} {l : List En} (h : LiesE w a l) (hf : Fr S w w') (hn : ∀ b o, a = some ⟨b, o, none⟩ → l ≠ [] → ¬ S b) : LiesE w' a l := by
  by_cases hl : l = []
  · exact .inl hl
  · rcases h with h | ⟨b, o, e, h⟩
    · exact absurd h hl
    · exact .inr ⟨b, o, e, h.fr hf (hn b o e hl)⟩
theorem lies_lt {w : World} {a : Option Addr} {l : List En} (h : LiesE w a l) : ∀ b o, a = some ⟨b, o, none⟩ → l ≠ [] → b < w.heap.size := by
  intro b o e hl
  rcases h with h | ⟨b', o', e', h⟩
  · exact absurd h hl
  · rw [e] at e'
    obtain ⟨rfl, rfl⟩ : b = b' ∧ o = o' := by simpa using e'
    exact block_lt (h 0 (List.length_pos_iff.2 hl)).1
theorem texts_ge {w : World} {base : Nat} {a : Option Addr} {n c : Nat} {l : List (List UInt8)} (h : OwnsS w base (.slice a n c) l) : ∀ b o q, a = some ⟨b, o, q⟩ → base ≤ b := by
  intro b o q e
  rcases h.2 with ⟨hv, _⟩ | ⟨g, cap, cur, hv, hb, _⟩
  · rw [e] at hv; simp at hv
  · rw [e] at hv
    simp at hv
    omega
theorem SentB.c1 {b : Nat} {W : World} {s : Nat × Nat × Nat} (h : SentB b W s) : W.cell? ⟨b, 1, none⟩ = some (.int .i64 (s.2.1 : Int)) := by simpa using cell_of_block (j := 1) h
theorem SentB.c2 {b : Nat} {W : World} {s : Nat × Nat × Nat} (h : SentB b W s) : W.cell? ⟨b, 2, none⟩ = some (.int .i64 (s.2.2 : Int)) := by simpa using cell_of_block (j := 2) h
theorem SentB.lt {b : Nat} {W : World} {s : Nat × Nat × Nat} (h : SentB b W s) : b < W.heap.size := (Array.getElem?_eq_some_iff.1 h).1
end Go.Proofs.YtjmacegibchplaaGreatDoor

/-
  The statement on a tree brought into a store and fetched again (Brought): its body, walked.
-/
namespace Go.Proofs.YtjmacegibchplaaGreatDoor
open Go.RowKit Go.Maps Go.WideMaps
set_option linter.unusedVariables false
end Go.Proofs.YtjmacegibchplaaGreatDoor

/-
  A text cut to a length, of whatever size it was (cellarkeep.cut).
-/
namespace Go.Proofs.YtjmacegibchplaaGreatDoor
open Go.RowKit
set_option linter.unusedVariables false
theorem keepCutM (s : List UInt8) (n : Nat) (w : World) (hs : s.length ≤ 9223372036854775807) (hn : n ≤ 100) :
    Calls Tryz.prog 31 #[.string (bs s), .int .i64 n] w fun e w' => e = .returned (.string (bs (s.take n))) ∧ w' = w := by
  have hz : (bs s).size = s.length := by simp [bs, ByteArray.size]
  by_cases hlt : n < s.length
  · have he := extract_take s n
    have q1 : (n : Int) < (s.length : Int) := by omega
    go_enter Tryz.func31, Tryz.ntmps31
    go_wp2_with fail
    go_ret
    exact ⟨by rw [← he]; rfl, rfl⟩
  · have he : s.take n = s := List.take_of_length_le (by omega)
    have q1 : ¬ (n : Int) < (s.length : Int) := by omega
    rw [he]
    go_enter Tryz.func31, Tryz.ntmps31
    go_wp2_with fail
    go_ret
    exact ⟨rfl, rfl⟩
end Go.Proofs.YtjmacegibchplaaGreatDoor

/-
  Two trees that differ in one file, by two files of one digest: their roots are the same. No walk.
-/
namespace Go.Proofs.YtjmacegibchplaaGreatDoor
set_option linter.unusedVariables false
end Go.Proofs.YtjmacegibchplaaGreatDoor

/-
  Two trees of one root, each without a clash: the same, or two blobs of one digest differ. Plain lists, no walk.
-/
namespace Go.Proofs.YtjmacegibchplaaGreatDoor
set_option linter.unusedVariables false
end Go.Proofs.YtjmacegibchplaaGreatDoor

/-
  The program's Clash answers as the document asks: what it answers, and that this is right.
-/
namespace Go.Proofs.YtjmacegibchplaaGreatDoor
open Go.RowKit Go.Maps
set_option linter.unusedVariables false
end Go.Proofs.YtjmacegibchplaaGreatDoor

/-
  The program's Clash: the walk.
-/
namespace Go.Proofs.YtjmacegibchplaaGreatDoor
open Go.RowKit Go.Maps
set_option linter.unusedVariables false
end Go.Proofs.YtjmacegibchplaaGreatDoor

/-
  The program's Clash answers as the document asks.
-/
namespace Go.Proofs.YtjmacegibchplaaGreatDoor
open Go.RowKit Go.Maps
set_option linter.unusedVariables false
end Go.Proofs.YtjmacegibchplaaGreatDoor

/-
  Small functions of the statements without the document's answer: one, digits.
-/
namespace Go.Proofs.YtjmacegibchplaaGreatDoor
open Go.RowKit
set_option linter.unusedVariables false
def digM (a b : Value) : Nat := match a, b with
  | .int _ m, .string s => 2 * m.toNat + (if s.size = 0 then 1 else 0)
  | _, _ => 0
theorem dig_num : ∀ r : Fin 10, strOfNums [48 + (r.val : Int)] = bs [UInt8.ofNat (48 + r.val)] := by decide
theorem dig_small (n : Nat) (h : n < 10) : digP n = [UInt8.ofNat (48 + n % 10)] := by unfold digP; rw [if_pos h, Nat.mod_eq_of_lt h]
theorem dig_great (n : Nat) (h : ¬ n < 10) (h2 : n < 30) : digP n = UInt8.ofNat (48 + n / 10 % 10) :: [UInt8.ofNat (48 + n % 10)] := by unfold digP; rw [if_neg h, Nat.mod_eq_of_lt (show n / 10 < 10 by omega)]
theorem bs_add (a b : List UInt8) : bs a ++ bs b = bs (a ++ b) := by
  apply ByteArray.ext
  simp [bs]
def DigSt (n m : Nat) (s : List UInt8) : Prop := (s = [] ∧ m = n) ∨ (s ≠ [] ∧ m = 0 ∧ s = digP n) ∨ (s ≠ [] ∧ 10 ≤ n ∧ m = n / 10 ∧ s = [UInt8.ofNat (48 + n % 10)])
theorem dig_round (n m : Nat) (s : List UInt8) (hn : n < 30) (hm : m < 30) (h : DigSt n m s) (hend : ¬ (s ≠ [] ∧ m = 0)) :
    (∃ m1 s1, Value.int .i64 ((m : Int) / 10) = Value.int .i64 (m1 : Nat) ∧ Value.string (strOfNums [48 + (m : Int) % 10] ++ bs s) = Value.string (bs s1) ∧ m1 < 30 ∧ DigSt n m1 s1) ∧
    digM (Value.int .i64 ((m : Int) / 10)) (Value.string (strOfNums [48 + (m : Int) % 10] ++ bs s)) < digM (Value.int .i64 (m : Nat)) (Value.string (bs s)) := by
  have hd := dig_num ⟨m % 10, by omega⟩
  simp only at hd
  rw [show ((m % 10 : Nat) : Int) = (m : Int) % 10 by omega] at hd
  rw [hd, bs_add, show (m : Int) / 10 = ((m / 10 : Nat) : Int) by omega]
  refine ⟨⟨m / 10, [UInt8.ofNat (48 + m % 10)] ++ s, rfl, rfl, by omega, ?_⟩, ?_⟩
  · rcases h with ⟨rfl, rfl⟩ | ⟨h1, h2, _⟩ | ⟨h1, h2, rfl, rfl⟩
    · by_cases h10 : m < 10
      · exact .inr (.inl ⟨by simp, by omega, (dig_small m h10).symm⟩)
      · exact .inr (.inr ⟨by simp, by omega, rfl, rfl⟩)
    · exact absurd ⟨h1, h2⟩ hend
    · exact .inr (.inl ⟨by simp, by omega, (dig_great n (by omega) hn).symm⟩)
  · have e1 : (bs ([UInt8.ofNat (48 + m % 10)] ++ s)).size = s.length + 1 := by rw [bs_size]; rfl
    have e2 := bs_size s
    simp only [digM, e1, e2, Int.toNat_natCast]
    rw [if_neg (by omega)]
    by_cases hs : s = []
    · subst hs
      simp
      try omega
    · have : ¬ m = 0 := fun e => hend ⟨hs, e⟩
      have hl : ¬ s.length = 0 := fun e => hs (List.eq_nil_of_length_eq_zero e)
      rw [if_neg hl]
      omega
set_option maxHeartbeats 1000000 in
theorem keepDigits (n : Nat) (w : World) (hn : n < 30) :
    Calls Tryz.prog 58 #[.int .i64 n] w fun e w' => e = .returned (.string (bs (digP n))) ∧ Below w.heap.size w w' := by
  have hcv := conv_one
  go_enter Tryz.func58, Tryz.ntmps58
  go_wp2_with fail
  go_loopw [0, 3] (fun mv sv wr => Below w.heap.size w wr ∧ ∃ (m : Nat) (s : List UInt8), mv = .int .i64 m ∧ sv = .string (bs s) ∧ m < 30 ∧ DigSt n m s) (fun mv sv _ => digM mv sv)
  case atStart => exact ⟨Below.refl _ _, n, [], rfl, rfl, hn, .inl ⟨rfl, rfl⟩⟩
  case round =>
    obtain ⟨hbel, m, s, rfl, rfl, hm, hst⟩ := hrel
    have Hst := hide hst
    clear hst
    have hsz := bs_size s
    have hz1 : ((bs s).toList == ([] : List UInt8)) = (s == []) := by rw [ByteArray.toList_eq, bs_data]
    have hz2 : ((bs s).toList == (⟨#[]⟩ : ByteArray).toList) = (s == []) := by rw [ByteArray.toList_eq, ByteArray.toList_eq, bs_data]
    by_cases hend : s ≠ [] ∧ m = 0
    · obtain ⟨hs, rfl⟩ := hend
      have he : (s == []) = false := by simpa using hs
      rw [he] at hz1 hz2
      have Hs := hide (show s = digP n by
        rcases unhide Hst with h | h | h
        · exact absurd h.1 hs
        · exact h.2.2
        · omega)
      go_wp2_with fail
      go_ret
      exact ⟨by rw [unhide Hs]; rfl, hbel⟩
    · have Hr := hide (dig_round n m s hn hm (unhide Hst) hend)
      have hal : ∀ x, Below w.heap.size w (wr.alloc x) := fun x => hbel.alloc hbel.size x
      by_cases h0 : m = 0
      · subst h0
        obtain rfl : s = [] := by
          by_cases e : s = []
          · exact e
          · exact absurd ⟨e, rfl⟩ hend
        have e0 : (bs ([] : List UInt8)) = ⟨#[]⟩ := rfl
        obtain rfl : n = 0 := by
          rcases unhide Hst with h | h | h
          · exact h.2.symm
          · exact absurd rfl h.1
          · exact absurd rfl h.1
        clear hend hz1 hz2
        go_wp2_with fail
        exact ⟨⟨hal _, 0, [48], rfl, rfl, by omega, .inr (.inl ⟨by simp, rfl, rfl⟩)⟩, by decide⟩
      · have hp : (0 : Int) < (m : Int) := by omega
        have hsl : s.length ≤ 2 := by
          rcases unhide Hst with h | h | h
          · rw [h.1]; simp
          · have := (dig_name ⟨n, hn⟩).1
            rw [h.2.2]; exact this
          · rw [h.2.2.2]; simp
        have hq : (strOfNums [48 + (m : Int) % 10]).size = 1 := rfl
        clear hend hz1 hz2
        go_wp2_with fail
        exact ⟨⟨hal _, (unhide Hr).1⟩, (unhide Hr).2⟩
end Go.Proofs.YtjmacegibchplaaGreatDoor

/-
  The statement on two trees of one root (Parted): its body.
-/
namespace Go.Proofs.YtjmacegibchplaaGreatDoor
open Go.RowKit Go.Maps Go.WideMaps
set_option linter.unusedVariables false
end Go.Proofs.YtjmacegibchplaaGreatDoor

/-
  Two trees of one root (Parted), for arguments of whatever size.
-/
namespace Go.Proofs.YtjmacegibchplaaGreatDoor
open Go.RowKit Go.Maps Go.WideMaps
set_option linter.unusedVariables false
def KeepTreeM : Prop := ∀ (raw : List Int) (texts : List (List UInt8)) (ar : Option Addr) (cr : Nat) (at' : Option Addr) (ct : Nat) (w : World), raw.length ≤ 9223372036854775807 → texts.length ≤ 9223372036854775807 →
    IntsAt w ar raw → (∀ r ∈ raw, -9223372036854775808 ≤ r ∧ r ≤ 9223372036854775807) → TextsAt w at' texts → (∀ x ∈ texts, x.length ≤ 9223372036854775807) →
    Calls Tryz.prog 33 #[.slice ar raw.length cr, .slice at' texts.length ct] w fun e w' => ∃ v, e = .returned v ∧ OwnsE w' w.heap.size v (treeP raw texts) ∧ Below w.heap.size w w'
end Go.Proofs.YtjmacegibchplaaGreatDoor
