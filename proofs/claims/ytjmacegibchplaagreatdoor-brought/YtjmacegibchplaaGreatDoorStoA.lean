import Derived.Test.YtjmacegibchplaaGreatDoorUplP
import Derived.Test.YtjmacegibchplaaGreatDoorOfA
import Derived.Test.YtjmacegibchplaaGreatDoorCardA
import Derived.OwnWalk
/-
  The program's store: what it holds in memory; New, has, lay, drop.
-/
namespace Go.Proofs.YtjmacegibchplaaGreatDoor
open Go.RowKit Go.Maps Go.WideMaps
set_option linter.unusedVariables false
def Keyd (st : List (List UInt8 × List UInt8)) : Prop := (st.map (·.1)).Nodup
theorem at_none_iff : ∀ (st : List (List UInt8 × List UInt8)) (d : List UInt8), atP st d = none ↔ d ∉ st.map (·.1)
  | [], d => by simp [atP]
  | (k, b) :: r, d => by
    simp only [atP, List.map_cons, List.mem_cons, not_or]
    by_cases h : k = d
    · simp [h]
    · rw [if_neg h, at_none_iff r d]
      exact ⟨fun h2 => ⟨fun e => h e.symm, h2⟩, fun h2 => h2.2⟩
theorem keyd_app {st : List (List UInt8 × List UInt8)} (h : Keyd st) {d b : List UInt8} (hn : atP st d = none) : Keyd (st ++ [(d, b)]) := by
  unfold Keyd at *
  rw [List.map_append, List.nodup_append]
  refine ⟨h, by simp, ?_⟩
  intro x hx y hy
  simp at hy
  subst hy
  intro e
  exact (at_none_iff st y).1 hn (by rw [← e]; exact hx)
def storeF (st : List (List UInt8 × List UInt8)) : List UInt8 → Option Value := fun d => (atP st d).map blobV
theorem storeF_app (st : List (List UInt8 × List UInt8)) (d b : List UInt8) (hn : atP st d = none) : updF (storeF st) d (blobV b) = storeF (st ++ [(d, b)]) := by
  funext x
  unfold updF storeF
  rw [atP_app]
  by_cases h : x = d
  · rw [if_pos h, h, hn]; simp
  · rw [if_neg h]
    cases hx : atP st x with
    | none => rw [if_neg (by simp), if_neg (fun e => h e.symm)]
    | some y => simp
structure PStore (w : World) (pb um n : Nat) (room : Int) (st : List (List UInt8 × List UInt8)) : Prop where
  s : w.heap[pb]? = some (.cells #[.int .i64 room, .int .i64 (sumP st : Int), .map (some um)] 128 (0, 0))
  m : MapIs w um n (storeF st)
  k : Keyd st
theorem PStore.same {w w' : World} {pb um n : Nat} {room : Int} {st : List (List UInt8 × List UInt8)} (h : PStore w pb um n room st) (hs : ∀ b, b = pb ∨ b = um → w'.heap[b]? = w.heap[b]?) : PStore w' pb um n room st :=
  ⟨(hs pb (.inl rfl)).trans h.s, h.m.same (hs um (.inr rfl)), h.k⟩
theorem PStore.lt {w : World} {pb um n : Nat} {room : Int} {st : List (List UInt8 × List UInt8)} (h : PStore w pb um n room st) : ∀ b, b = pb ∨ b = um → b < w.heap.size := by
  rintro b (rfl | rfl)
  · exact (Array.getElem?_eq_some_iff.1 h.s).1
  · exact h.m.lt
theorem PStore.ne {w : World} {pb um n : Nat} {room : Int} {st : List (List UInt8 × List UInt8)} (h : PStore w pb um n room st) : pb ≠ um := map_ne_cells h.m h.s
theorem PStore.below {w w' : World} {pb um n B : Nat} {room : Int} {st : List (List UInt8 × List UInt8)} (h : PStore w pb um n room st) (hb : Below B w w') (hB : w.heap.size ≤ B) : PStore w' pb um n room st :=
  h.same (fun b hbb => hb.block b (Nat.lt_of_lt_of_le (h.lt b hbb) hB))
theorem PStore.fr {w w' : World} {S : Nat → Prop} {pb um n : Nat} {room : Int} {st : List (List UInt8 × List UInt8)} (h : PStore w pb um n room st) (hf : Fr S w w') (h1 : ¬ S pb) (h2 : ¬ S um) : PStore w' pb um n room st :=
  h.same (fun b hbb => hf.block b (h.lt b hbb) (by rcases hbb with rfl | rfl <;> assumption))
theorem PStore.c0 {w : World} {pb um n : Nat} {room : Int} {st : List (List UInt8 × List UInt8)} (h : PStore w pb um n room st) : w.cell? ⟨pb, 0, none⟩ = some (.int .i64 room) := cell_of_block h.s
theorem PStore.c1 {w : World} {pb um n : Nat} {room : Int} {st : List (List UInt8 × List UInt8)} (h : PStore w pb um n room st) : w.cell? ⟨pb, 1, none⟩ = some (.int .i64 (sumP st : Int)) := cell_of_block h.s
theorem PStore.c2 {w : World} {pb um n : Nat} {room : Int} {st : List (List UInt8 × List UInt8)} (h : PStore w pb um n room st) : w.cell? ⟨pb, 2, none⟩ = some (.map (some um)) := cell_of_block h.s
theorem under126 : Tryz.prog.underlying 126 = some (.map 9 190) := by kernel_rfl
theorem zero_sblob (w : World) : (zeroValue 190).run Tryz.prog w = .ok (.agg #[.string ⟨#[]⟩]) w := by kernel_rfl
theorem field_sblob (s : ByteArray) (w : World) : (Instr.field 190 (.agg #[.string s]) 0).run Tryz.prog w = .ok (.string s) w := by kernel_rfl
theorem storeNew_ok (room : Int) (w : World) (h0 : 0 ≤ room) (h1 : room ≤ 100000) :
    Calls Tryz.prog 54 #[.int .i64 room] w fun e w' => e = .returned (.tuple #[.pointer (some ⟨w.heap.size + 1, 0, none⟩), .int .i64 0]) ∧ PStore w' (w.heap.size + 1) w.heap.size 0 room [] ∧ Below w.heap.size w w' := by
  have hw := within_any room 0 100000 w (by decide)
  have hP : P.within room 0 100000 = true := by unfold P.within; simp; omega
  rw [hP] at hw
  have hmm := @run_makeMap Tryz.prog
  go_enter Tryz.func54, Tryz.ntmps54
  go_wp2_with (go_at_call 86; refine hw.mono ?_; rintro e w' ⟨rfl, hw'⟩; rw [hw']; clear hw' w')
  go_ret2
  have hm := (MapIs.made w).alloc (.cells #[.int .i64 room, .int .i64 0, .map (some w.heap.size)] 128)
  refine ⟨by simp, ⟨?_, hm, List.nodup_nil⟩, ((Below.refl _ _).alloc (Nat.le_refl _) _).alloc (by simp) _⟩
  have hb := heap_alloc_new (w.alloc (.map #[] 0)) (.cells #[.int .i64 room, .int .i64 0, .map (some w.heap.size)] 128)
  rw [show (w.alloc (.map #[] 0)).heap.size = w.heap.size + 1 by simp] at hb
  exact hb
set_option maxRecDepth 100000 in
set_option maxHeartbeats 1000000 in
theorem has_any (st : List (List UInt8 × List UInt8)) (pb um n : Nat) (room : Int) (d : List UInt8) (w : World) (h : PStore w pb um n room st) (hd : d.length ≤ maxLen) :
    Calls Tryz.prog 97 #[.pointer (some ⟨pb, 0, none⟩), .string (bs d)] w fun e w' => e = .returned (.bool (atP st d).isSome) ∧ Below w.heap.size w w' := by
  have c2 := h.c2
  have hm := h.m
  have hF : storeF st d = (atP st d).map blobV := rfl
  cases ha : atP st d with
  | none =>
    rw [ha] at hF
    clear h ha
    go_enter Tryz.func97, Tryz.ntmps97
    go_wp2_with (at_lookup; refine wp_look_ok rfl _ _ 126 rfl 190 under126 (.agg #[.string ⟨#[]⟩]) (zero_sblob _) um n (storeF st) rfl hm d rfl hd ?_; rw [hF]; simp only [Option.map_none, Option.getD_none, Option.isSome_none])
    go_ret
    exact ⟨rfl, (Below.refl _ _).alloc (Nat.le_refl _) _⟩
  | some y =>
    rw [ha] at hF
    clear h ha
    go_enter Tryz.func97, Tryz.ntmps97
    go_wp2_with (at_lookup; refine wp_look_ok rfl _ _ 126 rfl 190 under126 (.agg #[.string ⟨#[]⟩]) (zero_sblob _) um n (storeF st) rfl hm d rfl hd ?_; rw [hF]; simp only [Option.map_some, Option.getD_some, Option.isSome_some, blobV])
    go_ret
    exact ⟨rfl, (Below.refl _ _).alloc (Nat.le_refl _) _⟩
end Go.Proofs.YtjmacegibchplaaGreatDoor

/-
  The program's store: lay, drop.
-/
namespace Go.Proofs.YtjmacegibchplaaGreatDoor
open Go.RowKit Go.Maps Go.WideMaps
set_option linter.unusedVariables false
theorem MapIs.more {w : World} {b n m : Nat} {f : List UInt8 → Option Value} (h : MapIs w b n f) (hnm : n ≤ m) : MapIs w b m f := by
  obtain ⟨D, ⟨es, clock, hb, F, hs, hD⟩, hf⟩ := h
  exact ⟨D, ⟨es, clock, hb, F, Nat.le_trans hs hnm, hD⟩, hf⟩
theorem PStore.more {w : World} {pb um n m : Nat} {room : Int} {st : List (List UInt8 × List UInt8)} (h : PStore w pb um n room st) (hnm : n ≤ m) : PStore w pb um m room st := ⟨h.s, h.m.more hnm, h.k⟩
set_option maxRecDepth 100000 in
set_option maxHeartbeats 2000000 in
theorem lay_any (st : List (List UInt8 × List UInt8)) (pb um n : Nat) (room : Int) (d b : List UInt8) (w : World) (h : PStore w pb um n room st) (hd : d.length ≤ 10000000) (hb : b.length ≤ 10000000) (hn : n < maxLen) (hsum : sumP st ≤ 1000000000000) (hno : atP st d = none) :
    Calls Tryz.prog 96 #[.pointer (some ⟨pb, 0, none⟩), .string (bs d), .string (bs b)] w fun e w' => e = .returned (.tuple #[]) ∧ PStore w' pb um (n + 1) room (st ++ [(d, b)]) ∧ Fr (fun x => x = pb ∨ x = um) w w' := by
  have hcd := fun w' => clone3 d w' hd
  have hcb := fun w' => clone3 b w' hb
  have c2 := h.c2
  have hlp := h.lt pb (.inl rfl)
  have hlm := h.lt um (.inr rfl)
  have hne := h.ne
  have hdm : d.length ≤ maxLen := by unfold maxLen; omega
  have hbz := bs_size b
  have H := hide h
  have HF := hide (storeF_app st d b hno)
  have HS := hide (sumP_app st d b)
  have HK := hide (keyd_app (b := b) h.k hno)
  have Hs := hide h.s
  clear h hno
  generalize sumP st = sm at *
  go_enter Tryz.func96, Tryz.ntmps96
  go_wp2_with fail
  go_region_held3 (fun w' => w'.cell? ⟨pb, 2, none⟩ = some (.map (some um)))
    ((first | assumption | go_keep))
    ((first
      | (go_at_call 66; refine (hcd _).mono ?_; rintro e w4 ⟨rfl, hb4⟩;
         have s4 := ((bcell hb4).1 pb 2 (by simpa using hlp)).trans c2)
      | (go_at_call 66; refine (hcb _).mono ?_; rintro e w5 ⟨rfl, hb5⟩;
         have s5 := ((bcell hb5).1 pb 2 (Nat.lt_of_lt_of_le hlp (by simpa using hb4.size))).trans s4;
         obtain ⟨w6, hrun6, hm6, hg6⟩ := MapIs.store (MapIs.same (w' := w5) (unhide H).m ((hb5.block um (Nat.lt_of_lt_of_le hlm (by simpa using hb4.size))).trans (hb4.block um hlm))) 126 190 under126 hn d hdm (.agg #[.string (bs b)]);
         have s6 := cell_grown hg6 s5 (by simpa using hne))))
  all_goals
    have hz4 : w.heap.size ≤ w4.heap.size := by simpa using hb4.size
    have hz5 : w4.heap.size ≤ w5.heap.size := hb5.size
    have hp5 : w5.heap[pb]? = _ := (hb5.block pb (Nat.lt_of_lt_of_le hlp hz4)).trans ((hb4.block pb hlp).trans (unhide Hs))
    have hp6 : w6.heap[pb]? = _ := (hg6.block pb (Nat.lt_of_lt_of_le hlp (Nat.le_trans hz4 hz5)) (by simpa using hne)).trans hp5
    have k1 := cell_of_block (j := 1) hp6
    have f1 := free_block (j := 1) hp6
    simp only [List.getElem?_toArray, List.getElem?_cons_zero, List.getElem?_cons_succ] at k1
    have Hb := hide (And.intro hb4 (And.intro hb5 (And.intro hg6 (And.intro hp6 hm6))))
    clear hb4 hb5 hg6 hp5 hp6 hm6 s4 s5
  all_goals go_wp2_with fail
  all_goals go_end0
  all_goals
    obtain ⟨hb4, hb5, hg6, hp6, hm6⟩ := unhide Hb
    have hs7 := heap_setCell_same w6 pb 1 _ _ (.int .i64 ((sm : Int) + (b.length : Int))) hp6
    refine ⟨rfl, ⟨?_, ?_, unhide HK⟩, ?_⟩
    · rw [unhide HS]
      exact hs7
    · rw [← unhide HF]
      exact hm6.same (Below.heap_setCell _ _ _ _ (Ne.symm hne))
    · have h4 : Fr (fun x => x = pb ∨ x = um) w w4 := ⟨hb4.os, hb4.tape, hb4.output, by simpa using hb4.size, fun x hx _ => hb4.block x (by simpa using hx)⟩
      have h5 : Fr (fun x => x = pb ∨ x = um) w4 w5 := Fr.below hb5
      exact h4.trans (h5.trans ((Fr.grown hg6 (fun g hg => by cases hg; exact Or.inr rfl)).trans (Fr.set _ _ _ _ (Or.inl rfl))))
end Go.Proofs.YtjmacegibchplaaGreatDoor

/-
  The document's Build: its contract.
-/
namespace Go.Proofs.YtjmacegibchplaaGreatDoor
open Go.RowKit
set_option linter.unusedVariables false
def BuildEnd (l : List En) (base : Nat) (e : Ending) (w' : World) : Prop :=
  (wrongP l ≠ 0 ∧ e = .returned (.tuple #[.string ⟨#[]⟩, .slice none 0 0, .int .i64 (wrongP l)])) ∨
  (wrongP l = 0 ∧ builtP l = none ∧ e = .returned (.tuple #[.string ⟨#[]⟩, .slice none 0 0, .int .i64 3])) ∨
  ∃ out v, wrongP l = 0 ∧ builtP l = some out ∧ e = .returned (.tuple #[.string (bs (P.digest (blobP l 6 []))), v, .int .i64 0]) ∧ OwnsS w' base v out
end Go.Proofs.YtjmacegibchplaaGreatDoor

/-
  Are two trees the same (the document's own test); is a text one of some (the statements' own).
-/
namespace Go.Proofs.YtjmacegibchplaaGreatDoor
open Go.RowKit
set_option linter.unusedVariables false
def enEq (x y : En) : Bool := x.path.toList == y.path.toList && (x.kind == y.kind && x.data.toList == y.data.toList)
theorem enEq_iff (x y : En) : enEq x y = true ↔ x = y := by
  obtain ⟨p, k, d⟩ := x
  obtain ⟨q, m, e⟩ := y
  simp only [enEq, ByteArray.toList_eq, Bool.and_eq_true, beq_iff_eq, En.mk.injEq]
  constructor
  · rintro ⟨h1, h2, h3⟩
    exact ⟨by rw [← bs_of p, h1, bs_of], h2, by rw [← bs_of d, h3, bs_of]⟩
  · rintro ⟨rfl, rfl, rfl⟩; exact ⟨rfl, rfl, rfl⟩
end Go.Proofs.YtjmacegibchplaaGreatDoor

/-
  The document's store: where a digest stands, and what.
-/
namespace Go.Proofs.YtjmacegibchplaaGreatDoor
open Go.RowKit
set_option linter.unusedVariables false
def RStore (w : World) (pb : Nat) (room : Int) (st : List (List UInt8 × List UInt8)) : Prop := w.cell? ⟨pb, 0, none⟩ = some (.int .i64 room) ∧
  ∃ a1 c1 a2 c2, w.cell? ⟨pb, 1, none⟩ = some (.slice a1 st.length c1) ∧ w.cell? ⟨pb, 2, none⟩ = some (.slice a2 st.length c2) ∧ TextsAt w a1 (st.map (·.1)) ∧ TextsAt w a2 (st.map (·.2))
theorem textsGet {w : World} {a : Option Addr} {l : List (List UInt8)} (h : TextsAt w a l) {k : Nat} (hk : k < l.length) : ∃ b o, a = some ⟨b, o, none⟩ ∧ w.cell? ⟨b, o + k, none⟩ = some (strVal l[k]) := by
  rcases h with h | ⟨b, o, e, h⟩
  · subst h; simp at hk
  · exact ⟨b, o, e, h k hk⟩
def getB (st : List (List UInt8 × List UInt8)) (d : List UInt8) : List UInt8 := (atP st d).getD []
def getE (st : List (List UInt8 × List UInt8)) (d : List UInt8) : Int := if (atP st d).isSome then 0 else 7
end Go.Proofs.YtjmacegibchplaaGreatDoor
