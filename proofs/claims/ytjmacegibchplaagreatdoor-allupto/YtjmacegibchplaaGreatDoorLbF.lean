import Derived.Test.YtjmacegibchplaaGreatDoorLawD
import Derived.Test.YtjmacegibchplaaGreatDoorFtB
import Derived.Test.YtjmacegibchplaaGreatDoorPrC
import Derived.Test.YtjmacegibchplaaGreatDoorLawM
import Derived.Test.YtjmacegibchplaaGreatDoorUpF
import Derived.Test.YtjmacegibchplaaGreatDoorMapV
import Derived.Deep.QuietTactic
import Derived.BigQuiet
import Derived.Deep.CutBlock
import Derived.Deep.DrawnRows
import Derived.Test.YtjmacegibchplaaGreatDoorLcA
namespace Go.Proofs.YtjmacegibchplaaGreatDoor
open Go.RowKit Go.Maps Go.WideMaps
set_option linter.unusedVariables false
structure PR where
 pp : Nat
 sb : Nat
 pb : Nat
 um : Nat
 n : Nat
 rb : Nat
 v1 : Value
 v2 : Value
 room : Int
 st : List (List UInt8 × List UInt8)
def PR.set (p : PR) (x : Nat) : Prop := PSet p.pp p.sb p.pb p.um p.rb p.v1 p.v2 x
def PR.ptr (p : PR) : Value := .pointer (some ⟨p.pp, 0, none⟩)
structure PR.Ok (w : World) (base K : Nat) (p : PR) : Prop where
 pair : Pair w p.pp p.sb p.pb p.um p.n p.rb p.v1 p.v2 base p.room p.st
 r0 : 0 ≤ p.room
 r1 : p.room ≤ 100000
 len : p.st.length ≤ 1000 * K
 cnt : p.n ≤ 100000 * K
 sum : sumP p.st ≤ 1100000 * K
 big : ∀ d b, atP p.st d = some b → b.length ≤ 1100000
theorem PR.Ok.mono {w : World} {base K K' : Nat} {p : PR} (h : p.Ok w base K) (hk : K ≤ K') : p.Ok w base K' := ⟨h.pair, h.r0, h.r1, Nat.le_trans h.len (by omega), Nat.le_trans h.cnt (by omega), Nat.le_trans h.sum (by omega), h.big⟩
theorem PR.Ok.fr {S : Nat → Prop} {w w' : World} {base K : Nat} {p : PR} (h : p.Ok w base K) (hf : Fr S w w') (hn : ∀ x, p.set x → ¬ S x) : p.Ok w' base K := ⟨h.pair.fr hf hn, h.r0, h.r1, h.len, h.cnt, h.sum, h.big⟩
theorem PR.Ok.lt {w : World} {base K : Nat} {p : PR} (h : p.Ok w base K) (x : Nat) (hx : p.set x) : x < w.heap.size := h.pair.lt x hx
structure Sd (w : World) (wb base : Nat) (ps : Value) (B : Nat → Prop) (N K : Nat) (L : List PR) : Prop where
 kp : Kp w wb base ps B N
 row : w.ownsRow base 114 1 ps L.length (L.map PR.ptr)
 off : ∀ x, ps.ownBlock = some x → ¬ B x
 ok : ∀ i (hi : i < L.length), (L[i]).Ok w base K
 apart : ∀ i j (hi : i < L.length) (hj : j < L.length), i ≠ j → ∀ x, (L[i]).set x → ¬ (L[j]).set x
 away : ∀ i (hi : i < L.length), ∀ x, (L[i]).set x → ¬ B x ∧ ps.ownBlock ≠ some x
 low : (∀ x, B x → base ≤ x) ∧ ∀ i (hi : i < L.length), ∀ x, (L[i]).set x → base ≤ x
section
variable {w w' : World} {wb base N K : Nat} {ps : Value} {B : Nat → Prop} {L : List PR}
theorem Sd.fr {S : Nat → Prop} (h : Sd w wb base ps B N K L) (hf : Fr S w w') (h1 : ∀ x, B x → ¬ S x) (h2 : ∀ x, ps.ownBlock = some x → ¬ S x) (h3 : ∀ i (hi : i < L.length), ∀ x, (L[i]).set x → ¬ S x) : Sd w' wb base ps B N K L :=
 ⟨h.kp.fr hf h1, ownsRow_same h.row (fun g e => hf.block g (own_lt h.row e) (h2 g e)), h.off, fun i hi => (h.ok i hi).fr hf (h3 i hi), h.apart, h.away, h.low⟩
theorem Sd.below (h : Sd w wb base ps B N K L) (hb : Below w.heap.size w w') : Sd w' wb base ps B N K L := h.fr (S := fun _ => False) (Fr.below hb) (fun _ _ h => h) (fun _ _ h => h) (fun _ _ _ _ h => h)
theorem Sd.mono {N' K' : Nat} (h : Sd w wb base ps B N K L) (hN : N ≤ N') (hK : K ≤ K') : Sd w wb base ps B N' K' L := ⟨h.kp.mono hN, h.row, h.off, fun i hi => (h.ok i hi).mono hK, h.apart, h.away, h.low⟩
theorem Sd.base_le (h : Sd w wb base ps B N K L) : base ≤ w.heap.size := by
 have h1 := h.low.1 wb h.kp.wa.1
 have h2 := h.kp.setLt wb h.kp.wa.1
 omega
theorem Sd.put {K' : Nat} (h : Sd w wb base ps B N K L) (i : Nat) (hi : i < L.length) (q : PR) (hq : q.Ok w' base K') (hK : K ≤ K') (hp : q.ptr = (L[i]).ptr) (hf : Fr (L[i]).set w w') (hs : ∀ x, q.set x → (L[i]).set x ∨ w.heap.size ≤ x) : Sd w' wb base ps B N K' (L.set i q) := by
 have hl : (L.set i q).length = L.length := by simp
 have hm : (L.set i q).map PR.ptr = L.map PR.ptr := by
  apply List.ext_getElem (by simp)
  intro k h1 h2
  simp only [List.getElem_map, List.getElem_set]
  split
  ·rename_i e; subst e; exact hp
  ·rfl
 refine ⟨h.kp.fr hf (fun x hx hs => (h.away i hi x hs).1 hx), ?_, h.off, fun j hj => ?_, fun j k hj hk hne x hx hx2 => ?_, fun j hj x hx => ?_, h.low.1, fun j hj x hx => ?_⟩
 ·rw [hl, hm]
  exact ownsRow_same h.row (fun g e => hf.block g (own_lt h.row e) (fun hs => (h.away i hi g hs).2 e))
 ·rw [List.getElem_set]
  split
  ·exact hq
  ·rename_i hne
   exact ((h.ok j (by omega)).fr hf (fun x hx hs => h.apart i j hi (by omega) hne x hs hx)).mono hK
 ·rw [List.getElem_set] at hx hx2
  split at hx
  ·rename_i e
   split at hx2
   ·rename_i e2; omega
   ·rename_i hne2
    rcases hs x hx with h1 | h1
    ·exact h.apart i k hi (by omega) hne2 x h1 hx2
    ·have := (h.ok k (by omega)).lt x hx2
     omega
  ·rename_i hne1
   split at hx2
   ·rcases hs x hx2 with h1 | h1
    ·exact h.apart i j hi (by omega) hne1 x h1 hx
    ·have := (h.ok j (by omega)).lt x hx
     omega
   ·exact h.apart j k (by omega) (by omega) hne x hx hx2
 ·rw [List.getElem_set] at hx
  split at hx
  ·rcases hs x hx with h1 | h1
   ·exact h.away i hi x h1
   ·refine ⟨fun e => ?_, fun e => ?_⟩
    ·have := h.kp.setLt x e; omega
    ·have := own_lt h.row e; omega
  ·exact h.away j (by omega) x hx
 ·rw [List.getElem_set] at hx
  split at hx
  ·rcases hs x hx with h1 | h1
   ·exact h.low.2 i hi x h1
   ·have := h.base_le; omega
  ·exact h.low.2 j (by omega) x hx
theorem Sd.took {v : Value} {M : Nat} (h : Sd w wb base ps B N K L) (hk : Kp w' wb base ps (fun x => (B x ∨ v.ownBlock = some x ∨ w.heap.size ≤ x) ∧ x < w'.heap.size) M) (hf : Fr (fun x => B x ∨ v.ownBlock = some x) w w') (h2 : ∀ x, v.ownBlock = some x → ps.ownBlock ≠ some x) (h3 : ∀ i (hi : i < L.length), ∀ x, (L[i]).set x → v.ownBlock ≠ some x) (h4 : ∀ x, v.ownBlock = some x → base ≤ x) :
  Sd w' wb base ps (fun x => (B x ∨ v.ownBlock = some x ∨ w.heap.size ≤ x) ∧ x < w'.heap.size) M K L := by
 refine ⟨hk, ownsRow_same h.row (fun g e => hf.block g (own_lt h.row e) (fun hs => ?_)), fun x hx hs => ?_, fun i hi => (h.ok i hi).fr hf (fun x hx hs => ?_), h.apart, fun i hi x hx => ⟨fun hs => ?_, (h.away i hi x hx).2⟩, fun x hx => ?_, h.low.2⟩
 ·rcases hs with hs | hs
  ·exact h.off g e hs
  ·exact h2 g hs e
 ·rcases hs.1 with hs | hs | hs
  ·exact h.off x hx hs
  ·exact h2 x hs hx
  ·have := own_lt h.row hx; omega
 ·rcases hs with hs | hs
  ·exact (h.away i hi x hx).1 hs
  ·exact h3 i hi x hx hs
 ·rcases hs.1 with hs | hs | hs
  ·exact (h.away i hi x hx).1 hs
  ·exact h3 i hi x hx hs
  ·have := (h.ok i hi).lt x hx; omega
 ·rcases hx.1 with hx | hx | hx
  ·exact h.low.1 x hx
  ·exact h4 x hx
  ·have := h.base_le; omega
theorem Sd.push {w1 w2 : World} {ps' : Value} {q : PR} (h : Sd w wb base ps B N K L) (hb : Below w.heap.size w w1) (hq : q.Ok w1 base K) (hqs : ∀ x, q.set x → w.heap.size ≤ x)
  (ho : w2.ownsRow base 114 1 ps' (L.length + 1) (L.map PR.ptr ++ [q.ptr])) (hg : Fr (fun x => ps.ownBlock = some x) w1 w2) (hp : ∀ x, ps'.ownBlock = some x → ps.ownBlock = some x ∨ w1.heap.size ≤ x) : Sd (w2.setCell ⟨wb, 8, none⟩ ps') wb base ps' B N K (L ++ [q]) := by
 have h1 := h.below hb
 have hs1 := hb.size
 have hwb := h.kp.wa.1
 have hwbl := h.kp.setLt wb hwb
 have k2 := h1.kp.fr hg (fun x hx e => h.off x e hx)
 have hqp : ∀ x, q.set x → ps.ownBlock ≠ some x := fun x hx e => by
  have h1 := hqs x hx
  have h2 := own_lt h.row e
  omega
 have hf : Fr (fun x => x = wb) w2 (w2.setCell ⟨wb, 8, none⟩ ps') := Fr.set w2 wb 8 ps' rfl
 have hpw : ps'.ownBlock ≠ some wb := fun e => by
  rcases hp wb e with e | e
  ·exact h.off wb e hwb
  ·omega
 refine ⟨k2.put8 ps', ?_, fun x hx hs => ?_, fun i hi => ?_, fun i j hi hj hne x hx hx2 => ?_, fun i hi x hx => ?_, h.low.1, fun i hi x hx => ?_⟩
 ·rw [List.length_append, List.map_append]
  exact ownsRow_same ho (fun g e => hf.block g (own_lt ho e) (fun e2 => hpw (by rw [e, e2])))
 ·rcases hp x hx with e | e
  ·exact h.off x e hs
  ·have := h.kp.setLt x hs; omega
 ·rw [List.getElem_append]
  split
  ·rename_i hlt
   exact ((h1.ok i hlt).fr hg (fun x hx e => (h.away i hlt x hx).2 e)).fr hf (fun x hx e => (h.away i hlt x hx).1 (by rw [e]; exact hwb))
  ·simp only [List.getElem_singleton]
   exact (hq.fr hg (fun x hx e => hqp x hx e)).fr hf (fun x hx e => by have := hqs x hx; omega)
 ·rw [List.getElem_append] at hx hx2
  split at hx
  ·rename_i hi'
   split at hx2
   ·rename_i hj'
    exact h.apart i j hi' hj' hne x hx hx2
   ·simp only [List.getElem_singleton] at hx2
    have h1 := hqs x hx2
    have h2 := (h.ok i hi').lt x hx
    omega
  ·simp only [List.getElem_singleton] at hx
   split at hx2
   ·rename_i hj'
    have h1 := hqs x hx
    have h2 := (h.ok j hj').lt x hx2
    omega
   ·simp at hi hj; omega
 ·rw [List.getElem_append] at hx
  split at hx
  ·rename_i hi'
   refine ⟨(h.away i hi' x hx).1, fun e => ?_⟩
   rcases hp x e with e | e
   ·exact (h.away i hi' x hx).2 e
   ·have := (h.ok i hi').lt x hx; omega
  ·simp only [List.getElem_singleton] at hx
   have h1 := hqs x hx
   refine ⟨fun e => ?_, fun e => ?_⟩
   ·have := h.kp.setLt x e; omega
   ·rcases hp x e with e | e
    ·exact hqp x hx e
    ·have := hq.lt x hx; omega
 ·rw [List.getElem_append] at hx
  split at hx
  ·rename_i hi'
   exact h.low.2 i hi' x hx
  ·simp only [List.getElem_singleton] at hx
   have h1 := hqs x hx
   have h2 := h.base_le
   omega
end
theorem put_len (room : Int) (st : List (List UInt8 × List UInt8)) (b : List UInt8) : (putP room st b).2.length ≤ st.length + 1 := by
 unfold putP
 split
 ·simp
 ·split <;> simp
theorem plant_len (st : List (List UInt8 × List UInt8)) (d b : List UInt8) : (plantP st d b).length ≤ st.length + 1 := by
 unfold plantP
 have := List.length_filter_le (fun p : List UInt8 × List UInt8 => !(p.1 == d)) st
 rw [List.length_append]
 split
 ·simp; omega
 ·simp; omega
theorem app_big {M : Nat} {st : List (List UInt8 × List UInt8)} {k b : List UInt8} (hb : b.length ≤ M) (h : ∀ d c, atP st d = some c → c.length ≤ M) (d c : List UInt8) (hc : atP (st ++ [(k, b)]) d = some c) : c.length ≤ M := by
 rw [atP_app] at hc
 split at hc
 ·exact h d c hc
 ·split at hc
  ·obtain rfl := Option.some.inj hc
   exact hb
  ·simp at hc
theorem put_big {M : Nat} {room : Int} {st : List (List UInt8 × List UInt8)} {b : List UInt8} (hb : b.length ≤ M) (h : ∀ d c, atP st d = some c → c.length ≤ M) (d c : List UInt8) (hc : atP (putP room st b).2 d = some c) : c.length ≤ M := by
 unfold putP at hc
 split at hc
 ·exact h d c hc
 ·split at hc
  ·exact h d c hc
  ·exact app_big hb h d c hc
theorem plant_big {M : Nat} {st : List (List UInt8 × List UInt8)} {k b : List UInt8} (hb : b.length ≤ M) (h : ∀ d c, atP st d = some c → c.length ≤ M) (d c : List UInt8) (hc : atP (plantP st k b) d = some c) : c.length ≤ M := by
 have hf : ∀ d c, atP (st.filter (fun p => !(p.1 == k))) d = some c → c.length ≤ M := fun d c hc => by
  rw [at_filter] at hc
  split at hc
  ·simp at hc
  ·exact h d c hc
 unfold plantP at hc
 split at hc
 ·rw [List.append_nil] at hc
  exact hf d c hc
 ·exact app_big hb hf d c hc
theorem PR.Ok.put {w w' : World} {base K : Nat} {p : PR} (h : p.Ok w base K) {b : List UInt8} (hb : b.length ≤ 1100000) {v1' v2' : Value} (hp : Pair w' p.pp p.sb p.pb p.um (p.n + 1) p.rb v1' v2' base p.room (putP p.room p.st b).2) :
  PR.Ok w' base (K + 1) ⟨p.pp, p.sb, p.pb, p.um, p.n + 1, p.rb, v1', v2', p.room, (putP p.room p.st b).2⟩ := by
 have h1 := put_len p.room p.st b
 have h2 := sum_put_le p.room p.st b
 have h3 := h.len
 have h4 := h.cnt
 have h5 := h.sum
 exact ⟨hp, h.r0, h.r1, by simp only; omega, by simp only; omega, by simp only; omega, fun d c hc => put_big hb h.big d c hc⟩
theorem PR.Ok.plant {w w' : World} {base K : Nat} {p : PR} (h : p.Ok w base K) {d b : List UInt8} (hb : b.length ≤ 1100000) {v1' v2' : Value} (hp : Pair w' p.pp p.sb p.pb p.um (p.n + 1) p.rb v1' v2' base p.room (plantP p.st d b)) :
  PR.Ok w' base (K + 1) ⟨p.pp, p.sb, p.pb, p.um, p.n + 1, p.rb, v1', v2', p.room, plantP p.st d b⟩ := by
 have h1 := plant_len p.st d b
 have h2 := sum_plant_le p.st d b
 have h3 := h.len
 have h4 := h.cnt
 have h5 := h.sum
 exact ⟨hp, h.r0, h.r1, by simp only; omega, by simp only; omega, by simp only; omega, fun d' c hc => plant_big hb h.big d' c hc⟩
def opC (kind store A B : Int) (S T : List UInt8) (X E L : Value) (tr ba : Int) : Array Value :=
 #[.int .i64 kind, .int .i64 store, .int .i64 A, .int .i64 B, .string (bs S), .string (bs T), X, E, .int .i64 tr, .int .i64 ba, L]
theorem pick_at (c : Int) (n : Nat) (hn : 0 < n) : ∃ i : Nat, i < n ∧ pickP c n = (i : Int) := by
 have h1 : 0 ≤ pickP c n ∧ pickP c n < n := by
  unfold pickP
  split
  ·exact ⟨Int.emod_nonneg _ (by omega), Int.emod_lt_of_pos _ (by omega)⟩
  ·exact ⟨Int.emod_nonneg _ (by omega), Int.emod_lt_of_pos _ (by omega)⟩
 exact ⟨(pickP c n).toNat, by omega, by omega⟩
theorem Sd.at {w : World} {wb base N K : Nat} {ps : Value} {B : Nat → Prop} {L : List PR} (h : Sd w wb base ps B N K L) (i : Nat) (hi : i < L.length) : ∃ g c, ps = .slice (some ⟨g, 0, none⟩) L.length c ∧ w.cell? ⟨g, i, none⟩ = some (L[i]).ptr := by
 have hr := h.row
 have hl : (L.map PR.ptr).length = L.length := by simp
 rw [← hl] at hr
 obtain ⟨g, c, e, hc⟩ := own_at hr i (by rw [hl]; exact hi)
 rw [hl] at e
 exact ⟨g, c, e, by simpa using hc⟩
set_option maxRecDepth 100000 in
set_option maxHeartbeats 4000000 in
theorem uses_get {w : World} {wb base N K : Nat} {ps : Value} {B : Nat → Prop} {L : List PR} (h : Sd w wb base ps B N K L) (hL : 0 < L.length) (hL2 : L.length ≤ 1000000) (hK : K ≤ 500000) (store A B' tr ba : Int) (S T : List UInt8) (X E Li : Value) (hs0 : -9223372036854775808 ≤ store) (hs1 : store ≤ 9223372036854775807) (hS : S.length ≤ 1100000) :
  Calls Tryz.prog 78 #[.pointer (some ⟨wb, 0, none⟩), .agg (opC 3 store A B' S T X E Li tr ba)] w fun e w' => e = .returned (.bool true) ∧ Below w.heap.size w w' := by
 obtain ⟨i, hi, hpi⟩ := pick_at store L.length hL
 have hpick := fun W => lawPick store L.length W hs0 hs1 (by omega) (by omega)
 rw [hpi] at hpick
 have hb0 : Below w.heap.size w (w.alloc (.cells (opC 3 store A B' S T X E Li tr ba) 93)) := (Below.refl _ _).alloc (Nat.le_refl _) _
 have hnew := heap_alloc_new w (.cells (opC 3 store A B' S T X E Li tr ba) 93)
 obtain ⟨W0, hW0⟩ : ∃ W0, w.alloc (.cells (opC 3 store A B' S T X E Li tr ba) 93) = W0 := ⟨_, rfl⟩
 rw [hW0] at hb0 hnew
 have h0 := h.below hb0
 obtain ⟨g, cg, eps, hcell⟩ := h0.at i hi
 subst eps
 obtain ⟨-, cur, hwb, h8⟩ := h0.kp.wa
 have hwl := (Array.getElem?_eq_some_iff.1 hwb).1
 have hnl := (Array.getElem?_eq_some_iff.1 hnew).1
 have hgl := block_lt hcell
 have x0 := cell_of_block (j := 0) hnew
 have x1 := cell_of_block (j := 1) hnew
 have x4 := cell_of_block (j := 4) hnew
 unfold opC at x0 x1 x4 hW0 ⊢
 simp at x0 x1 x4
 have hok := h0.ok i hi
 have y0 := cell_of_block (j := 0) hok.pair.p
 have y1 := cell_of_block (j := 1) hok.pair.p
 simp at y0 y1
 have hpl := (Array.getElem?_eq_some_iff.1 hok.pair.p).1
 unfold PR.ptr at hcell
 have qi : (i : Int) < (L.length : Int) := by omega
 have HW0 := hide hW0
 have Hall := hide (And.intro h0 (And.intro hok hb0))
 generalize L[i] = p at *
 clear h h0 hok hb0 hW0 hnew hwb
 go_enter Tryz.func78, Tryz.ntmps78
 go_wp2_with fail
 rw [unhide HW0]
 go_quiet ((go_at_call 116; exact Calls.quiet_of_same (hpick _)))
 obtain ⟨W1, hW1⟩ : ∃ W1, W0.drewN nq = W1 := ⟨_, rfl⟩
 rw [hW1]
 have hb1 : Below W0.heap.size W0 W1 := by rw [← hW1]; exact below_drewN (Below.refl _ _) _
 have hsz1 : W1.heap.size = W0.heap.size := by rw [← hW1]; simp
 have x0' : W1.cell? ⟨w.heap.size, 0, none⟩ = some (.int .i64 3) := (hb1.cell (p := ⟨w.heap.size, 0, none⟩) hnl).trans x0
 have x4' : W1.cell? ⟨w.heap.size, 4, none⟩ = some (.string (bs S)) := (hb1.cell (p := ⟨w.heap.size, 4, none⟩) hnl).trans x4
 have y0' : W1.cell? ⟨p.pp, 0, none⟩ = some (.pointer (some ⟨p.sb, 0, none⟩)) := (hb1.cell (p := ⟨p.pp, 0, none⟩) hpl).trans y0
 have y1' : W1.cell? ⟨p.pp, 1, none⟩ = some (.pointer (some ⟨p.rb, 0, none⟩)) := (hb1.cell (p := ⟨p.pp, 1, none⟩) hpl).trans y1
 have hnl1 : w.heap.size < W1.heap.size := by omega
 have hpl1 : p.pp < W1.heap.size := by omega
 have hb01 : Below w.heap.size w W1 := (unhide Hall).2.2.trans (hb1.mono (unhide Hall).2.2.size)
 have Hget := hide (fun W (hW : Below W1.heap.size W1 W) => cGet_any p.st p.sb p.pb p.um p.n p.room S W (((unhide Hall).2.1.pair.c.below hb1 (Nat.le_refl _)).below hW (Nat.le_refl _)) (by unfold maxLen; omega) (fun b hb => by have := (unhide Hall).2.1.big S b hb; omega))
 clear hW1 x0 x1 x4 y0 y1 hcell h8
 go_upto_region 7 with fail
 go_cut [7, 8] (fun b e wx => b = .string (bs (getB p.st S)) ∧ e = .int .i64 (getE p.st S) ∧ Below W1.heap.size W1 wx)
 case first =>
  go_region_with ((go_at_call 118; refine (unhide Hget _ (by first | exact (Below.refl _ _).drew | exact Below.refl _ _)).mono ?_; rintro e w9 ⟨rfl, hb9⟩; have hbz : Below W1.heap.size W1 w9 := (Below.refl _ _).drew.trans (hb9.mono (by simp))))
  all_goals
   go_wp2_with fail
   go_meet
   exact ⟨rfl, rfl, hbz⟩
 case rest =>
  rename World => W2
  obtain ⟨rfl, rfl, hb2⟩ := hcut
  have x4'' : W2.cell? ⟨w.heap.size, 4, none⟩ = some (.string (bs S)) := (hb2.cell (p := ⟨w.heap.size, 4, none⟩) hnl1).trans x4'
  have y1'' : W2.cell? ⟨p.pp, 1, none⟩ = some (.pointer (some ⟨p.rb, 0, none⟩)) := (hb2.cell (p := ⟨p.pp, 1, none⟩) hpl1).trans y1'
  have hsz2 := hb2.size
  have Href := hide (fun W (hW : Below W2.heap.size W2 W) => refGet_any p.st p.rb p.room S W (by have := (unhide Hall).2.1.len; unfold maxLen; omega) (DS.r (DSt.below (DSt.below (DSt.below (unhide Hall).2.1.pair.d hb1 (Nat.le_refl _)) hb2 (Nat.le_refl _)) hW (Nat.le_refl _))))
  have hst : ((bs (getB p.st S)).toList == (bs (getB p.st S)).toList) = true := by simp
  have hbw2 := hb01.trans (hb2.mono hb01.size)
  clear x0' x4' y0' y1'
  go_wp2_with fail
  go_quiet ((go_at_call 119; exact Calls.quiet_of_same (unhide Href _ (below_drewN (Below.refl _ _) _))))
  have hb3 : Below w.heap.size w (W2.drewN nq) := below_drewN hbw2 _
  generalize W2.drewN nq = W3 at *
  go_wp2_with fail
  go_ret
  exact ⟨by first | rfl | simp, hb3⟩
theorem DEnd.from {rb base : Nat} {v1 v2 : Value} {room : Int} {st : List (List UInt8 × List UInt8)} {w w1 w' : World} (hb : Below w.heap.size w w1) (h : DEnd rb v1 v2 base room st w1 w') : DEnd rb v1 v2 base room st w w' := by
 obtain ⟨a, b, h1, h2, h3⟩ := h
 have := hb.size
 exact ⟨a, b, h1, (Fr.below hb).trans h2, fun x hx => (h3 x hx).imp id (fun h => by omega)⟩
set_option maxRecDepth 100000 in
set_option maxHeartbeats 4000000 in
theorem uses_put {w : World} {wb base N K : Nat} {ps : Value} {B : Nat → Prop} {L : List PR} (h : Sd w wb base ps B N K L) (hL : 0 < L.length) (hL2 : L.length ≤ 1000000) (hK : K ≤ 500000) (store A B' tr ba : Int) (S T : List UInt8) (X E Li : Value) (hs0 : -9223372036854775808 ≤ store) (hs1 : store ≤ 9223372036854775807) (hS : S.length ≤ 1100000) (hbase : base ≤ w.heap.size) :
  Calls Tryz.prog 78 #[.pointer (some ⟨wb, 0, none⟩), .agg (opC 2 store A B' S T X E Li tr ba)] w fun e w' => e = .returned (.bool true) ∧ ∃ L', L'.length = L.length ∧ Sd w' wb base ps B N (K + 1) L' ∧ Fr (fun x => base ≤ x) w w' := by
 obtain ⟨i, hi, hpi⟩ := pick_at store L.length hL
 have hpick := fun W => lawPick store L.length W hs0 hs1 (by omega) (by omega)
 rw [hpi] at hpick
 have hb0 : Below w.heap.size w (w.alloc (.cells (opC 2 store A B' S T X E Li tr ba) 93)) := (Below.refl _ _).alloc (Nat.le_refl _) _
 have hnew := heap_alloc_new w (.cells (opC 2 store A B' S T X E Li tr ba) 93)
 obtain ⟨W0, hW0⟩ : ∃ W0, w.alloc (.cells (opC 2 store A B' S T X E Li tr ba) 93) = W0 := ⟨_, rfl⟩
 rw [hW0] at hb0 hnew
 have h0 := h.below hb0
 obtain ⟨g, cg, eps, hcell⟩ := h0.at i hi
 subst eps
 obtain ⟨-, cur, hwb, h8⟩ := h0.kp.wa
 have hwl := (Array.getElem?_eq_some_iff.1 hwb).1
 have hnl := (Array.getElem?_eq_some_iff.1 hnew).1
 have hgl := block_lt hcell
 have x0 := cell_of_block (j := 0) hnew
 have x1 := cell_of_block (j := 1) hnew
 have x4 := cell_of_block (j := 4) hnew
 unfold opC at x0 x1 x4 hW0 ⊢
 simp at x0 x1 x4
 have hok := h0.ok i hi
 have y0 := cell_of_block (j := 0) hok.pair.p
 have y1 := cell_of_block (j := 1) hok.pair.p
 simp at y0 y1
 have hpl := (Array.getElem?_eq_some_iff.1 hok.pair.p).1
 unfold PR.ptr at hcell
 have qi : (i : Int) < (L.length : Int) := by omega
 have HW0 := hide hW0
 have Hput := hide (fun W (q : PR) (f : Fr (L[i]).set W0 W) (hq : q.Ok W base (K + 1)) (hp : q.ptr = (L[i]).ptr) (hs : ∀ x, q.set x → (L[i]).set x ∨ W0.heap.size ≤ x) => And.intro (h0.put i hi q hq (Nat.le_succ K) hp f hs) ((Fr.below hb0).trans (f.mono (T := fun x => base ≤ x) (fun x hx => h0.low.2 i hi x hx))))
 have hold : ∀ x, (L[i]).set x → x < w.heap.size := fun x hx => (h.ok i hi).lt x hx
 have Hall := hide (And.intro h0 (And.intro hok hb0))
 generalize L[i] = p at *
 clear h h0 hok hb0 hW0 hnew hwb
 go_enter Tryz.func78, Tryz.ntmps78
 go_wp2_with fail
 rw [unhide HW0]
 go_quiet ((go_at_call 116; exact Calls.quiet_of_same (hpick _)))
 obtain ⟨W1, hW1⟩ : ∃ W1, W0.drewN nq = W1 := ⟨_, rfl⟩
 rw [hW1]
 have hb1 : Below W0.heap.size W0 W1 := by rw [← hW1]; exact below_drewN (Below.refl _ _) _
 have hsz1 : W1.heap.size = W0.heap.size := by rw [← hW1]; simp
 have x0' : W1.cell? ⟨w.heap.size, 0, none⟩ = some (.int .i64 2) := (hb1.cell (p := ⟨w.heap.size, 0, none⟩) hnl).trans x0
 have x4' : W1.cell? ⟨w.heap.size, 4, none⟩ = some (.string (bs S)) := (hb1.cell (p := ⟨w.heap.size, 4, none⟩) hnl).trans x4
 have y0' : W1.cell? ⟨p.pp, 0, none⟩ = some (.pointer (some ⟨p.sb, 0, none⟩)) := (hb1.cell (p := ⟨p.pp, 0, none⟩) hpl).trans y0
 have y1' : W1.cell? ⟨p.pp, 1, none⟩ = some (.pointer (some ⟨p.rb, 0, none⟩)) := (hb1.cell (p := ⟨p.pp, 1, none⟩) hpl).trans y1
 have hnl1 : w.heap.size < W1.heap.size := by omega
 have hpl1 : p.pp < W1.heap.size := by omega
 have hb01 : Below w.heap.size w W1 := (unhide Hall).2.2.trans (hb1.mono (unhide Hall).2.2.size)
 have hsum : sumP p.st ≤ 1000000000000 := by have := (unhide Hall).2.1.sum; omega
 have H1 := hide (fun W (hW : Below W1.heap.size W1 W) => (cPut_any p.st p.sb p.pb p.um p.n p.room S W (((unhide Hall).2.1.pair.c.below hb1 (Nat.le_refl _)).below hW (Nat.le_refl _)) (by omega) (by have := (unhide Hall).2.1.cnt; unfold maxLen; omega) hsum (unhide Hall).2.1.r0 (unhide Hall).2.1.r1).mono (fun e w' (hh : e = .returned (.int .i64 (putP p.room p.st S).1) ∧ CS w' p.sb p.pb p.um (p.n + 1) p.room (putP p.room p.st S).2 ∧ Fr (fun x => x = p.pb ∨ x = p.um) W w') => (show e = .returned (.int .i64 (putP p.room p.st S).1) ∧ CS w' p.sb p.pb p.um (p.n + 1) p.room (putP p.room p.st S).2 ∧ Fr (fun x => x = p.pb ∨ x = p.um) W1 w' from ⟨hh.1, hh.2.1, (Fr.below hW).trans hh.2.2⟩)))
 clear hW1 x0 x1 x4 y0 y1 hcell h8
 go_upto_region 4 with fail
 go_cut [6] (fun e wx => e = .int .i64 (putP p.room p.st S).1 ∧ CS wx p.sb p.pb p.um (p.n + 1) p.room (putP p.room p.st S).2 ∧ Fr (fun x => x = p.pb ∨ x = p.um) W1 wx)
 case first =>
  go_region_with ((go_at_call 37; refine (unhide H1 _ (by first | exact (Below.refl _ _).drew | exact Below.refl _ _)).mono ?_; rintro e w9 ⟨rfl, hc9, hf9⟩; have Hc9 := hide (And.intro hc9 hf9); clear hc9 hf9))
  all_goals
   go_wp2_with fail
   go_meet
   exact ⟨rfl, (unhide Hc9).1, (unhide Hc9).2⟩
 case rest =>
  rename World => W2
  obtain ⟨rfl, hc2, hf2⟩ := hcut
  have hpr := (unhide Hall).2.1.pair.below hb1 (Nat.le_refl _)
  obtain ⟨ap1, ap2, ap3, ap4⟩ := hpr.apart
  have hbox : ¬ (w.heap.size = p.pb ∨ w.heap.size = p.um) := by
   rintro (e | e)
   ·have := hold p.pb (.inr (.inr (.inl rfl))); omega
   ·have := hold p.um (.inr (.inr (.inr (.inl rfl)))); omega
  have x4'' : W2.cell? ⟨w.heap.size, 4, none⟩ = some (.string (bs S)) := cell_fr hf2 x4' hbox
  have y1'' : W2.cell? ⟨p.pp, 1, none⟩ = some (.pointer (some ⟨p.rb, 0, none⟩)) := cell_fr hf2 y1' (by rintro (e | e); exact ap3 e; exact ap4 e)
  have hsz2 := hf2.size
  have hd2 := DSt.fr hpr.d hf2 (fun x hx hs => by rcases hs with e | e; exact (ap1 x hx).2.1 e; exact (ap1 x hx).2.2.1 e)
  have hbs2 : base ≤ W2.heap.size := by omega
  have H2 := hide (fun W (hW : Below W2.heap.size W2 W) => (refPut_any p.st p.rb p.v1 p.v2 base p.room S W (DSt.below hd2 hW (Nat.le_refl _)) (by have := hW.size; omega) (by omega) (by have := (unhide Hall).2.1.len; omega) hsum).mono (fun e w' (hh : e = .returned (.int .i64 (putP p.room p.st S).1) ∧ DEnd p.rb p.v1 p.v2 base p.room (putP p.room p.st S).2 W w') => (show e = .returned (.int .i64 (putP p.room p.st S).1) ∧ DEnd p.rb p.v1 p.v2 base p.room (putP p.room p.st S).2 W2 w' from ⟨hh.1, DEnd.from hW hh.2⟩)))
  have Hc2 := hide (And.intro hpr (And.intro hc2 hf2))
  have hq : ((putP p.room p.st S).1 == (putP p.room p.st S).1) = true := by simp
  clear x0' x4' y0' y1' hc2 hf2 hd2 hpr ap1 ap2 ap3 ap4
  go_upto_region 5 with fail
  go_cut [4] (fun s wx => s = .bool true ∧ DEnd p.rb p.v1 p.v2 base p.room (putP p.room p.st S).2 W2 wx)
  case first =>
   go_region_with ((go_at_call 117; refine (unhide H2 _ (by first | exact (Below.refl _ _).drew | exact Below.refl _ _)).mono ?_; rintro e w9 ⟨rfl, hd9⟩; have Hd9 := hide hd9; clear hd9))
   all_goals
    go_wp2_with fail
    go_meet
    exact ⟨by first | rfl | simp, unhide Hd9⟩
  case rest =>
   rename World => W3
   obtain ⟨rfl, hd3⟩ := hcut
   obtain ⟨hpr, hc2, hf2⟩ := unhide Hc2
   obtain ⟨v1', v2', hp3, hf3, hs3⟩ := hpr.step hc2 hf2 hd3
   have Hend := hide (unhide Hput W3 ⟨p.pp, p.sb, p.pb, p.um, p.n + 1, p.rb, v1', v2', p.room, (putP p.room p.st S).2⟩ (fr_comp (Fr.below hb1) hf3 (fun x hx => .inl hx)) ((unhide Hall).2.1.put hS hp3) rfl (fun x hx => (hs3 x hx).imp id (fun h => by omega)))
   clear hd3 hpr hc2 hf2 hp3 hf3 hs3
   go_wp2_with fail
   go_ret
   exact ⟨rfl, _, by simp, unhide Hend⟩
end Go.Proofs.YtjmacegibchplaaGreatDoor