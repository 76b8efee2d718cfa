import Derived.Test.YtjmacegibchplaaGreatDoorUpF
import Derived.Test.YtjmacegibchplaaGreatDoorFtB
import Derived.Test.YtjmacegibchplaaGreatDoorEntB
import Derived.Test.YtjmacegibchplaaGreatDoorMapV
import Derived.Laws.AppendOwnNone
import Derived.Deep.CutBlock
import Derived.Deep.RegionHeld3
import Derived.Test.YtjmacegibchplaaGreatDoorUpA
import Derived.Test.YtjmacegibchplaaGreatDoorOfB
namespace Go.Proofs.YtjmacegibchplaaGreatDoor
open Go.RowKit Go.Maps Go.WideMaps
set_option linter.unusedVariables false
def DirEnd (S : List UInt8 → Option (List UInt8)) (d : List UInt8) (w : World) (e : Ending) (w' : World) : Prop :=
 Below w.heap.size w w' ∧ (((blobS S d).1 ≠ 0 ∧ e = .returned (.tuple #[.slice none 0 0, .int .i64 (blobS S d).1])) ∨ ((blobS S d).1 = 0 ∧ decOk (blobS S d).2 = none ∧ e = .returned (.tuple #[.slice none 0 0, .int .i64 8])) ∨
  ((blobS S d).1 = 0 ∧ ∃ items v, decOk (blobS S d).2 = some items ∧ e = .returned (.tuple #[v, .int .i64 0]) ∧ OwnsIt w' w.heap.size v items))
set_option maxHeartbeats 1000000 in
theorem dirUnder_any (st : List (List UInt8 × List UInt8)) (pb um n : Nat) (room : Int) (d : List UInt8) (w : World) (h : PStore w pb um n room st) (hd : d.length ≤ maxLen) (hsz : ∀ b, atP st d = some b → b.length ≤ 10000000) :
  Calls Tryz.prog 89 #[.pointer (some ⟨pb, 0, none⟩), .string (bs d)] w fun e w' => DirEnd (atP st) d w e w' := by
 have hbu := blobUnder_any st pb um n room d w h hd hsz
 have hbl : (blobS (atP st) d).2.length ≤ 10000000 := by
  unfold blobS
  cases ha : atP st d with
  | none => simp
  | some b =>
   simp only
   split
   ·exact hsz b ha
   ·simp
 have Hend := hide (show ∀ e w', (Below w.heap.size w w' ∧ (((blobS (atP st) d).1 ≠ 0 ∧ e = .returned (.tuple #[.slice none 0 0, .int .i64 (blobS (atP st) d).1])) ∨ ((blobS (atP st) d).1 = 0 ∧ decOk (blobS (atP st) d).2 = none ∧ e = .returned (.tuple #[.slice none 0 0, .int .i64 8])) ∨
  ((blobS (atP st) d).1 = 0 ∧ ∃ items v, decOk (blobS (atP st) d).2 = some items ∧ e = .returned (.tuple #[v, .int .i64 0]) ∧ OwnsIt w' w.heap.size v items))) → DirEnd (atP st) d w e w' from fun _ _ h => h)
 clear h hsz
 generalize blobS (atP st) d = bb at *
 obtain ⟨be, b⟩ := bb
 simp only at hbl
 have Hbu := hide hbu
 clear hbu
 go_enter Tryz.func89, Tryz.ntmps89
 go_wp2_with fail
 refine (unhide Hbu).mono ?_
 rintro e w1 ⟨rfl, hb1⟩
 clear Hbu
 by_cases he : be = 0
 ·subst he
  have hit := itemsOf_any b w1 (by unfold maxLen; omega)
  go_wp2_with fail
  refine hit.mono ?_
  rintro e w2 ⟨hb2, ⟨hdc, rfl⟩ | ⟨items, v, hdc, hf, hl2, rfl, ho⟩⟩
  ·have hbb := hb1.trans (hb2.mono hb1.size)
   have Hd := hide hdc
   clear hdc hit
   go_wp2_with fail
   go_ret2
   exact unhide Hend _ _ ⟨hbb, .inr (.inl ⟨by first | trivial | rfl, unhide Hd, rfl⟩)⟩
  ·have hbb := hb1.trans (hb2.mono hb1.size)
   have ho' : OwnsIt w2 w.heap.size v items := ⟨ho.1, ho.2.imp id (fun ⟨g, cap, cur, h1, h2, h3⟩ => ⟨g, cap, cur, h1, Nat.le_trans hb1.size h2, h3⟩)⟩
   have Hd := hide (And.intro hdc ho')
   clear hdc hit ho ho'
   go_wp2_with fail
   go_ret2
   exact unhide Hend _ _ ⟨hbb, .inr (.inr ⟨by first | trivial | rfl, items, v, (unhide Hd).1, rfl, (unhide Hd).2⟩)⟩
 ·have b0 : (be == 0) = false := by simpa using he
  go_wp2_with fail
  go_ret2
  exact unhide Hend _ _ ⟨hb1, .inl ⟨he, rfl⟩⟩
def FetEnd (S : List UInt8 → Option (List UInt8)) (root : List UInt8) (ents dep : Int) (w : World) (e : Ending) (w' : World) : Prop :=
 Below w.heap.size w w' ∧ ∃ v, e = .returned (.tuple #[v, .int .i64 (fetchP S root ents dep).1]) ∧ OwnsE w' w.heap.size v (fetchP S root ents dep).2
set_option maxRecDepth 100000 in
set_option maxHeartbeats 4000000 in
theorem fetTree_any (st : List (List UInt8 × List UInt8)) (pb um n : Nat) (room : Int) (root : List UInt8) (ents dep : Int) (w : World) (h : PStore w pb um n room st) (hg : GlobOk w) (hd : root.length ≤ maxLen) (hsz : ∀ d b, atP st d = some b → b.length ≤ 10000000) :
  Calls Tryz.prog 56 #[.pointer (some ⟨pb, 0, none⟩), .string (bs root), .int .i64 ents, .int .i64 dep] w fun e w' => FetEnd (atP st) root ents dep w e w' := by
 have hmf : ∀ (fn : Fn) (first cap : Array Value) (w : World), (Instr.makeFunc fn first cap).run Tryz.prog w = .ok (.func fn first cap) w := fun _ _ _ _ => rfl
 have hbA : Below w.heap.size w (((w.alloc (.cells #[.pointer (some ⟨pb, 0, none⟩)] 95)).alloc (.cells #[.int .i64 ents] 3)).alloc (.cells #[.int .i64 dep] 3)) := (((Below.refl _ _).alloc (Nat.le_refl _) _).alloc (by simp) _).alloc (by simp; omega) _
 have hs4 : (((w.alloc (.cells #[.pointer (some ⟨pb, 0, none⟩)] 95)).alloc (.cells #[.int .i64 ents] 3)).alloc (.cells #[.int .i64 dep] 3)).heap[w.heap.size]? = some (.cells #[.pointer (some ⟨pb, 0, none⟩)] 95 (0, 0)) := by
  rw [Below.heap_alloc _ _ _ (by simp; omega), Below.heap_alloc _ _ _ (by simp)]; exact heap_alloc_new w _
 have hs6 : (((w.alloc (.cells #[.pointer (some ⟨pb, 0, none⟩)] 95)).alloc (.cells #[.int .i64 ents] 3)).alloc (.cells #[.int .i64 dep] 3)).heap[w.heap.size + 1]? = some (.cells #[.int .i64 ents] 3 (0, 0)) := by
  rw [Below.heap_alloc _ _ _ (by simp)]
  have := heap_alloc_new (w.alloc (.cells #[.pointer (some ⟨pb, 0, none⟩)] 95)) (.cells #[.int .i64 ents] 3)
  rw [show (w.alloc (.cells #[.pointer (some ⟨pb, 0, none⟩)] 95)).heap.size = w.heap.size + 1 by simp] at this
  exact this
 have hs7 : (((w.alloc (.cells #[.pointer (some ⟨pb, 0, none⟩)] 95)).alloc (.cells #[.int .i64 ents] 3)).alloc (.cells #[.int .i64 dep] 3)).heap[w.heap.size + 1 + 1]? = some (.cells #[.int .i64 dep] 3 (0, 0)) := by
  have := heap_alloc_new ((w.alloc (.cells #[.pointer (some ⟨pb, 0, none⟩)] 95)).alloc (.cells #[.int .i64 ents] 3)) (.cells #[.int .i64 dep] 3)
  rw [show ((w.alloc (.cells #[.pointer (some ⟨pb, 0, none⟩)] 95)).alloc (.cells #[.int .i64 ents] 3)).heap.size = w.heap.size + 2 by simp] at this
  exact this
 obtain ⟨W1, hW1⟩ : ∃ W1, ((w.alloc (.cells #[.pointer (some ⟨pb, 0, none⟩)] 95)).alloc (.cells #[.int .i64 ents] 3)).alloc (.cells #[.int .i64 dep] 3) = W1 := ⟨_, rfl⟩
 rw [hW1] at hbA hs4 hs6 hs7
 have hgb : 0 < w.heap.size := by obtain ⟨m, hm⟩ := hg; exact block_lt hm
 have hdu := dirUnder_any st pb um n room root W1 (h.below hbA (Nat.le_refl _)) hd (hsz root)
 have s4 := cell_of_block (j := 0) hs4
 simp only [List.getElem?_toArray, List.getElem?_cons_zero] at s4
 unfold DirEnd at hdu
 have Hdu := hide hdu
 have Hend := hide (show ∀ e w', (Below w.heap.size w w' ∧ ∃ v, e = .returned (.tuple #[v, .int .i64 (fetchP (atP st) root ents dep).1]) ∧ OwnsE w' w.heap.size v (fetchP (atP st) root ents dep).2) → FetEnd (atP st) root ents dep w e w' from fun _ _ h => h)
 have Hfp := hide (show fetchP (atP st) root ents dep = if (blobS (atP st) root).1 ≠ 0 then ((blobS (atP st) root).1, []) else if (belowF (atP st) ents dep 6 1 (blobS (atP st) root).2 [] []).1 ≠ 0 then ((belowF (atP st) ents dep 6 1 (blobS (atP st) root).2 [] []).1, []) else belowF (atP st) ents dep 6 1 (blobS (atP st) root).2 [] [] from rfl)
 have Hbf := hide (show ∀ b, belowF (atP st) ents dep 6 1 b [] [] = match decOk b with | none => (8, []) | some l => fetItems (atP st) ents dep (belowF (atP st) ents dep 5 (1 + 1)) [] 1 l [] from fun b => rfl)
 clear hdu
 generalize blobS (atP st) root = bb at *
 obtain ⟨be, b⟩ := bb
 go_enter Tryz.func56, Tryz.ntmps56
 go_wp2_with fail
 refine (unhide Hdu).mono ?_
 rintro e W2 ⟨hb2, (⟨hbe, rfl⟩ | ⟨hbe, hdc, rfl⟩ | ⟨hbe, items, vi, hdc, rfl, hoi⟩)⟩
 ·have hbe : be ≠ 0 := hbe
  have hbw2 := hbA.trans (hb2.mono hbA.size)
  have b0 : (be == 0) = false := by simpa using hbe
  have Hr := hide (show fetchP (atP st) root ents dep = (be, []) by rw [unhide Hfp]; simp [hbe])
  clear Hdu hW1 hb2 hbA s4
  go_wp2_with fail
  go_ret2
  exact unhide Hend _ _ ⟨hbw2, _, by (rw [unhide Hr]; first | done | rfl), by rw [unhide Hr]; exact World.ownsRow_nil _ _ _ _⟩
 ·have hbe : be = 0 := hbe
  subst hbe
  have hbw2 := hbA.trans (hb2.mono hbA.size)
  have Hr := hide (show fetchP (atP st) root ents dep = (8, []) by rw [unhide Hfp, unhide Hbf, hdc]; simp)
  clear Hdu hW1 hb2 hbA s4 hdc
  go_wp2_with fail
  go_ret2
  exact unhide Hend _ _ ⟨hbw2, _, by (rw [unhide Hr]; first | done | rfl), by rw [unhide Hr]; exact World.ownsRow_nil _ _ _ _⟩
 ·have hbe : be = 0 := hbe
  have hdc : decOk b = some items := hdc
  subst hbe
  have hbw2 := hbA.trans (hb2.mono hbA.size)
  have hs42 := (hb2.block _ (Array.getElem?_eq_some_iff.1 hs4).1).trans hs4
  have hs62 := (hb2.block _ (Array.getElem?_eq_some_iff.1 hs6).1).trans hs6
  have hs72 := (hb2.block _ (Array.getElem?_eq_some_iff.1 hs7).1).trans hs7
  have c6 := cell_of_block (j := 0) hs62
  have c7 := cell_of_block (j := 0) hs72
  have f6 := free_block (j := 0) hs62
  have f7 := free_block (j := 0) hs72
  simp only [List.getElem?_toArray, List.getElem?_cons_zero] at c6 c7
  have hdir := (decOk_iff _ _).1 hdc
  have hok := dir_each items hdir.1
  have hil : items.length ≤ 40 := by have := hdir.1; unfold dirOk at this; simp only [Bool.and_eq_true, decide_eq_true_eq] at this; exact this.1
  have Hr := hide (show fetchP (atP st) root ents dep = if (fetItems (atP st) ents dep (belowF (atP st) ents dep 5 (1 + 1)) [] 1 items []).1 ≠ 0 then ((fetItems (atP st) ents dep (belowF (atP st) ents dep 5 (1 + 1)) [] 1 items []).1, []) else fetItems (atP st) ents dep (belowF (atP st) ents dep 5 (1 + 1)) [] 1 items [] by rw [unhide Hfp, unhide Hbf, hdc]; simp)
  have hlt7 := (Array.getElem?_eq_some_iff.1 hs7).1
  clear Hdu hW1 hbA s4 hdc hdir Hfp Hbf hs4 hs6 hs7
  go_wp2_with fail
  go_region
  go_wp2_with fail
  have hl4 := (Array.getElem?_eq_some_iff.1 hs42).1
  have hl6 := (Array.getElem?_eq_some_iff.1 hs62).1
  have hl7 := (Array.getElem?_eq_some_iff.1 hs72).1
  have hza : (W2.setCell ⟨w.heap.size + 1, 0, none⟩ (.int .i64 (min ents 40))).heap.size = W2.heap.size := by simp
  have hzb : ((W2.setCell ⟨w.heap.size + 1, 0, none⟩ (.int .i64 (min ents 40))).setCell ⟨w.heap.size + 1 + 1, 0, none⟩ (.int .i64 (min dep 5))).heap.size = W2.heap.size := by simp
  have hba : Below w.heap.size w ((W2.setCell ⟨w.heap.size + 1, 0, none⟩ (.int .i64 (min ents 40))).setCell ⟨w.heap.size + 1 + 1, 0, none⟩ (.int .i64 (min dep 5))) := (hbw2.setCell (p := ⟨w.heap.size + 1, 0, none⟩) (by simp) _).setCell (p := ⟨w.heap.size + 1 + 1, 0, none⟩) (by simp; omega) _
  have hkeep : ∀ b, b < W2.heap.size → b ≠ w.heap.size + 1 → b ≠ w.heap.size + 1 + 1 → ((((W2.setCell ⟨w.heap.size + 1, 0, none⟩ (.int .i64 (min ents 40))).setCell ⟨w.heap.size + 1 + 1, 0, none⟩ (.int .i64 (min dep 5))).alloc (.cells #[.slice none 0 0] 22)).drew).heap[b]? = W2.heap[b]? := fun b hb h1 h2 => by
   refine (Below.heap_alloc _ _ _ (by rw [hzb]; exact hb)).trans ?_
   rw [Below.heap_setCell _ _ _ _ (by simpa using h2), Below.heap_setCell _ _ _ _ (by simpa using h1)]
  have hb5 : Below w.heap.size w ((((W2.setCell ⟨w.heap.size + 1, 0, none⟩ (.int .i64 (min ents 40))).setCell ⟨w.heap.size + 1 + 1, 0, none⟩ (.int .i64 (min dep 5))).alloc (.cells #[.slice none 0 0] 22)).drew) := by
   have h0 := hba.alloc hba.size (.cells #[.slice none 0 0] 22)
   exact ⟨h0.os, h0.tape, h0.output, h0.size, h0.block⟩
  have hF5 : FSt ((((W2.setCell ⟨w.heap.size + 1, 0, none⟩ (.int .i64 (min ents 40))).setCell ⟨w.heap.size + 1 + 1, 0, none⟩ (.int .i64 (min dep 5))).alloc (.cells #[.slice none 0 0] 22)).drew) w.heap.size W2.heap.size (w.heap.size + 1) (w.heap.size + 1 + 1) w.heap.size (.slice none 0 0) [] ents dep pb um n room st := by
   refine ⟨?_, World.ownsRow_nil _ _ _ _, ?_, ?_, ?_, h.below hb5 (Nat.le_refl _), hg.below hb5 (Nat.le_refl _), by simp, hb5.size, hgb, by omega⟩
   ·have := heap_alloc_new ((W2.setCell ⟨w.heap.size + 1, 0, none⟩ (.int .i64 (min ents 40))).setCell ⟨w.heap.size + 1 + 1, 0, none⟩ (.int .i64 (min dep 5))) (.cells #[.slice none 0 0] 22)
    rw [hzb] at this
    exact this
   ·refine (Below.heap_alloc _ _ _ (by rw [hzb]; exact hl6)).trans ?_
    rw [Below.heap_setCell _ _ _ _ (by simp)]
    exact heap_set0 _ hs62
   ·refine (Below.heap_alloc _ _ _ (by rw [hzb]; exact hl7)).trans ?_
    exact heap_set0 _ ((Below.heap_setCell _ _ _ _ (by simp)).trans hs72)
   ·exact (hkeep _ hl4 (by omega) (by omega)).trans hs42
  have hz1 : w.heap.size + 1 + 1 < W1.heap.size := hlt7
  have hoi5 : OwnsIt ((((W2.setCell ⟨w.heap.size + 1, 0, none⟩ (.int .i64 (min ents 40))).setCell ⟨w.heap.size + 1 + 1, 0, none⟩ (.int .i64 (min dep 5))).alloc (.cells #[.slice none 0 0] 22)).drew) W1.heap.size vi items := ownsRow_same hoi (fun g hg' => hkeep g (own_lt hoi hg') (by have := (World.ownsRow.lt hoi g hg').1; omega) (by have := (World.ownsRow.lt hoi g hg').1; omega))
  have hth := through_all w.heap.size W2.heap.size (w.heap.size + 1) (w.heap.size + 1 + 1) w.heap.size ents dep pb um n room st hsz 5 0 rfl [] items vi W1.heap.size (.slice none 0 0) [] _ (.inl ⟨rfl, rfl⟩) (by simp) hok hoi5 (by omega) hF5
  rw [show (((0 : Nat) : Int) + 1) = 1 from rfl] at hth
  unfold visV ptr FThrEnd at hth
  have Hth := hide hth
  have Hb5 := hide hb5
  clear hth hF5 hoi5 hkeep hba hoi hbw2 hb2 hs42 hs62 hs72 h hg hza hzb
  generalize (((W2.setCell ⟨w.heap.size + 1, 0, none⟩ (.int .i64 (min ents 40))).setCell ⟨w.heap.size + 1 + 1, 0, none⟩ (.int .i64 (min dep 5))).alloc (.cells #[.slice none 0 0] 22)).drew = W5 at *
  generalize fetItems (atP st) ents dep (belowF (atP st) ents dep 5 (1 + 1)) [] 1 items [] = q at *
  obtain ⟨qe, qo⟩ := q
  simp only at Hr Hth
  refine (unhide Hth).mono ?_
  rintro e W6 ⟨rfl, hf6, hq6⟩
  have hb6 : Below w.heap.size w W6 := by
   have h5 := unhide Hb5
   refine ⟨hf6.os.trans h5.os, hf6.tape.trans h5.tape, hf6.output.trans h5.output, Nat.le_trans h5.size hf6.size, fun b hb => (hf6.block b (Nat.lt_of_lt_of_le hb h5.size) ?_).trans (h5.block b hb)⟩
   rintro (e | e)
   ·omega
   ·simp [Value.ownBlock] at e
  clear Hth hf6
  by_cases hq : qe = 0
  ·subst hq
   obtain ⟨v6, hF6, -⟩ := hq6 rfl
   have Hrr := hide (show fetchP (atP st) root ents dep = (0, qo) by rw [unhide Hr]; simp)
   have k0 := cell_of_block (j := 0) hF6.l
   simp only [List.getElem?_toArray, List.getElem?_cons_zero] at k0
   obtain ⟨a6, c6', hv6⟩ := row_shape hF6.own
   have Ho := hide hF6.own
   clear hq6 hF6
   subst hv6
   go_wp2_with fail
   go_ret2
   exact unhide Hend _ _ ⟨hb6, _, by (rw [unhide Hrr]; first | done | rfl), by rw [unhide Hrr]; exact unhide Ho⟩
  ·have b0 : (qe == 0) = false := by simpa using hq
   have Hrr := hide (show fetchP (atP st) root ents dep = (qe, []) by rw [unhide Hr, if_pos hq])
   clear hq6
   go_wp2_with fail
   go_ret2
   exact unhide Hend _ _ ⟨hb6, _, by (rw [unhide Hrr]; first | done | rfl), by rw [unhide Hrr]; exact World.ownsRow_nil _ _ _ _⟩
set_option maxHeartbeats 1000000 in
theorem cFetch_any (st : List (List UInt8 × List UInt8)) (sb pb um n : Nat) (room : Int) (root : List UInt8) (ents dep : Int) (w : World) (h : CS w sb pb um n room st) (hg : GlobOk w) (hd : root.length ≤ maxLen) (hsz : ∀ d b, atP st d = some b → b.length ≤ 10000000) :
  Calls Tryz.prog 28 #[.pointer (some ⟨sb, 0, none⟩), .string (bs root), .int .i64 ents, .int .i64 dep] w fun e w' => FetEnd (atP st) root ents dep w e w' := by
 have hp := fetTree_any st pb um n room root ents dep w h.p hg hd hsz
 have c0 := cell_of_block (j := 0) h.c
 simp only [List.getElem?_toArray, List.getElem?_cons_zero] at c0
 have Hp := hide hp
 clear hp h hg hsz
 go_enter Tryz.func28, Tryz.ntmps28
 go_wp2_with fail
 refine (unhide Hp).mono ?_
 rintro e w1 ⟨hb, v, rfl, ho⟩
 go_wp2_with fail
 go_ret2
 exact ⟨hb, v, rfl, ho⟩
theorem OwnsE.lies {w : World} {base : Nat} {v : Value} {l : List En} (h : OwnsE w base v l) : ∃ a c, v = .slice a l.length c ∧ LiesE w a l ∧ (∀ b o q, a = some ⟨b, o, q⟩ → base ≤ b) := by
 rcases h.2 with ⟨rfl, hn⟩ | ⟨g, cap, cur, rfl, hb, hg, hnc, hcm, hcs, htake⟩
 ·exact ⟨none, 0, by rw [hn], .inl (List.eq_nil_of_length_eq_zero hn), fun b o q e => by simp at e⟩
 ·refine ⟨some ⟨g, 0, none⟩, cap, rfl, .inr ⟨g, 0, rfl, fun i hi => ?_⟩, fun b o q e => by simp at e; omega⟩
  have := row_ent h i hi
  rw [Nat.zero_add]
  exact this
theorem Fr.toBelow {S : Nat → Prop} {B : Nat} {a b : World} (h : Fr S a b) (hB : B ≤ a.heap.size) (hs : ∀ x, S x → B ≤ x) : Below B a b :=
 ⟨h.os, h.tape, h.output, h.size, fun x hx => h.block x (by omega) (fun hS => by have := hs x hS; omega)⟩
theorem EntsAt.fr {S : Nat → Prop} {w w' : World} {b o : Nat} {l : List En} (h : EntsAt w b o l) (hf : Fr S w w') (hn : ¬ S b) : EntsAt w' b o l := fun i hi =>
 ⟨cell_fr hf (h i hi).1 hn, cell_fr hf (h i hi).2.1 hn, cell_fr hf (h i hi).2.2 hn⟩
theorem GlobOk.fr {S : Nat → Prop} {w w' : World} (h : GlobOk w) (hf : Fr S w w') (hn : ¬ S 0) : GlobOk w' := by
 obtain ⟨m, hm⟩ := h
 exact ⟨m, cell_fr hf hm hn⟩
theorem GlobOk.lt {w : World} (h : GlobOk w) : 0 < w.heap.size := by
 obtain ⟨m, hm⟩ := h
 exact block_lt hm
theorem app_texts {w : World} {ops : Array Oper} {rest : List Oper} {o : Oper} {a : Act} {Q : Exit → Act → World → Prop} (hgd : o.guard = none) (s x : Operand)
  (ho : o.op = .call { callee := .builtin .append, args := #[s, x], argTypes := #[23, 23] }) (base : Nat) (v : Value) (l : List (List UInt8)) (hs : a.eval s = v) (hown : OwnsS w base v l)
  (ad : Option Addr) (y : List (List UInt8)) (c : Nat) (hx : a.eval x = .slice ad y.length c) (hn : ad = none → y = [] ∧ c = 0) (hy : TextsAt w ad y)
  (hlen : l.length + y.length ≤ 4000000) (hbase : base ≤ w.heap.size)
  (h : ∀ v' w', OwnsS w' base v' (l ++ y) → w.grownBy w' v.ownBlock → wpList Tryz.prog ops Q rest (a.put o.dst v') w') : wpList Tryz.prog ops Q (o :: rest) a w := by
 obtain ⟨i0, hi, hz0, hz1, hz2⟩ := info_parts info_str
 cases ad with
 | none =>
  obtain ⟨rfl, rfl⟩ := hn rfl
  refine wpList_append_own_none hgd s x 23 ho base 9 i0 1 Tryz.underlying23 hi v l.length (l.map strVal) hs hown hx ?_
  exact h v w (by rw [List.append_nil]; exact hown) ⟨rfl, rfl, rfl, Nat.le_refl _, fun _ _ _ => rfl⟩
 | some ad =>
  refine wpList_append_own w hgd s x 23 ho base 9 i0 _ 1 16 Tryz.underlying23 hi hz0 hz1 hz2 rfl (by decide) v l.length (l.map strVal) hs hown ad y.length c (y.map strVal) hx (by simp) ?_ ?_ (by unfold maxLen; omega) (by omega) hbase ?_
  ·intro j u hj
   rw [List.getElem?_map] at hj
   rcases hy with rfl | ⟨b, o', e, hy⟩
   ·simp at hj
   ·obtain ⟨z, hz, rfl⟩ := Option.map_eq_some_iff.1 hj
    obtain ⟨hjl, rfl⟩ := List.getElem?_eq_some_iff.1 hz
    obtain rfl : ad = ⟨b, o', none⟩ := by simpa using e
    rw [add_off]
    exact hy j hjl
  ·intro u hu
   obtain ⟨z, _, rfl⟩ := List.mem_map.1 hu
   rfl
  ·intro v' w' h2 h3 _
   refine h v' w' ?_ h3
   unfold OwnsS
   rw [List.length_append, List.map_append]
   exact h2
theorem row_neS {w : World} {base e1 s1 n1 b : Nat} {v1 : Value} {xs1 : List Value} {cur : Array Value} {e2 : TypeId} {fz : Nat × Nat} (h1 : w.ownsRow base e1 s1 v1 n1 xs1) (hb : w.heap[b]? = some (.cells cur e2 fz)) (hne : e1 ≠ e2) : v1.ownBlock ≠ some b := by
 intro hg
 rcases h1.2 with ⟨rfl, _⟩ | ⟨g', cap, cur', rfl, hb', hgg, _⟩
 ·simp [Value.ownBlock] at hg
 ·simp [Value.ownBlock] at hg
  subst hg
  rw [hb] at hgg
  simp at hgg
  exact hne hgg.2.1.symm
theorem CS.grown {w w' : World} {sb pb um n : Nat} {room : Int} {st : List (List UInt8 × List UInt8)} {base s1 n1 : Nat} {v1 : Value} {xs1 : List Value} (h : CS w sb pb um n room st) (ho : w.ownsRow base 9 s1 v1 n1 xs1) (hg : w.grownBy w' v1.ownBlock) : CS w' sb pb um n room st := by
 refine h.fr (S := fun x => v1.ownBlock = some x) (Fr.grown hg (fun g e => e)) (row_neS ho h.c (by decide)) (row_neS ho h.p.s (by decide)) ?_
 intro e
 rcases ho.2 with ⟨rfl, _⟩ | ⟨g', cap, cur', rfl, hb', hgg, _⟩
 ·simp [Value.ownBlock] at e
 ·simp [Value.ownBlock] at e
  subst e
  exact map_ne_cells h.p.m hgg rfl
theorem bytes_mem (l : List (List UInt8)) (x : List UInt8) (h : x ∈ l) : x.length ≤ bytesP l := by
 induction l with
 | nil => simp at h
 | cons y r ih =>
  simp only [bytesP]
  rcases List.mem_cons.1 h with rfl | h
  ·omega
  ·have := ih h; omega
theorem app_text_at {w : World} {ops : Array Oper} {rest : List Oper} {o : Oper} {a : Act} {Q : Exit → Act → World → Prop} (hgd : o.guard = none) (s x : Operand)
  (ho : o.op = .call { callee := .builtin .append, args := #[s, x], argTypes := #[23, 23] }) (base : Nat) (v : Value) (l : List (List UInt8)) (hs : a.eval s = v) (hown : OwnsS w base v l)
  (ad : Addr) (y : List UInt8) (hx : a.eval x = .slice (some ad) 1 1) (hnews : w.cell? (ad.add 0) = some (strVal y)) (hlen : l.length ≤ 2000000000) (hbase : base ≤ w.heap.size)
  (h : ∀ v' w', OwnsS w' base v' (l ++ [y]) → w.grownBy w' v.ownBlock → (v'.ownBlock = v.ownBlock ∨ v'.ownBlock = some w.heap.size) → wpList Tryz.prog ops Q rest (a.put o.dst v') w') : wpList Tryz.prog ops Q (o :: rest) a w := by
 obtain ⟨i0, hi, hz0, hz1, hz2⟩ := info_parts info_str
 refine wp_app_at hgd s x 23 ho base 9 i0 _ 16 Tryz.underlying23 hi hz0 hz1 hz2 rfl v l.length (l.map strVal) hs hown ad (strVal y) hx hnews rfl (by unfold maxLen; omega) (by omega) hbase ?_
 intro v' w' h1 h2 h3
 refine h v' w' ?_ h2 h3
 unfold OwnsS
 rw [List.length_append, List.map_append]
 exact h1
structure DSt (w : World) (rb : Nat) (v1 v2 : Value) (base : Nat) (room : Int) (l1 l2 : List (List UInt8)) : Prop where
 c : w.heap[rb]? = some (.cells #[.int .i64 room, v1, v2] 199 (0, 0))
 n : OwnsS w base v1 l1
 b : OwnsS w base v2 l2
 ne : ∀ g, v1.ownBlock = some g → v2.ownBlock ≠ some g
def DSet (rb : Nat) (v1 v2 : Value) (x : Nat) : Prop := x = rb ∨ v1.ownBlock = some x ∨ v2.ownBlock = some x
section
variable {w w' : World} {rb base : Nat} {v1 v2 : Value} {room : Int} {l1 l2 : List (List UInt8)}
theorem DSt.lt (h : DSt w rb v1 v2 base room l1 l2) : rb < w.heap.size := (Array.getElem?_eq_some_iff.1 h.c).1
theorem DSt.setLt (h : DSt w rb v1 v2 base room l1 l2) (x : Nat) (hx : DSet rb v1 v2 x) : x < w.heap.size := by
 rcases hx with rfl | hx | hx
 ·exact h.lt
 ·exact own_lt h.n hx
 ·exact own_lt h.b hx
theorem DSt.same (h : DSt w rb v1 v2 base room l1 l2) (hs : ∀ x, DSet rb v1 v2 x → w'.heap[x]? = w.heap[x]?) : DSt w' rb v1 v2 base room l1 l2 :=
 ⟨(hs rb (.inl rfl)).trans h.c, ownsRow_same h.n (fun g e => hs g (.inr (.inl e))), ownsRow_same h.b (fun g e => hs g (.inr (.inr e))), h.ne⟩
theorem DSt.below {B : Nat} (h : DSt w rb v1 v2 base room l1 l2) (hb : Below B w w') (hB : w.heap.size ≤ B) : DSt w' rb v1 v2 base room l1 l2 := h.same (fun x hx => hb.block x (Nat.lt_of_lt_of_le (h.setLt x hx) hB))
theorem DSt.fr {S : Nat → Prop} (h : DSt w rb v1 v2 base room l1 l2) (hf : Fr S w w') (hn : ∀ x, DSet rb v1 v2 x → ¬ S x) : DSt w' rb v1 v2 base room l1 l2 := h.same (fun x hx => hf.block x (h.setLt x hx) (hn x hx))
theorem DSt.neRow (h : DSt w rb v1 v2 base room l1 l2) : v1.ownBlock ≠ some rb ∧ v2.ownBlock ≠ some rb := ⟨row_neS h.n h.c (by decide), row_neS h.b h.c (by decide)⟩
theorem DSt.grow1 {w1 : World} {v1' : Value} {l1' : List (List UInt8)} {X : Obj} (h : DSt w rb v1 v2 base room l1 l2)
  (o1 : OwnsS w1 base v1' l1') (g1 : (w.alloc X).grownBy w1 v1.ownBlock) (p1 : v1'.ownBlock = v1.ownBlock ∨ v1'.ownBlock = some (w.alloc X).heap.size) :
  w1.heap[rb]? = some (.cells #[.int .i64 room, v1, v2] 199 (0, 0)) ∧ DSt (w1.setCell ⟨rb, 1, none⟩ v1') rb v1' v2 base room l1' l2 ∧ Fr (DSet rb v1 v2) w (w1.setCell ⟨rb, 1, none⟩ v1') ∧ w.heap.size < w1.heap.size ∧ (∀ x, DSet rb v1' v2 x → DSet rb v1 v2 x ∨ w.heap.size ≤ x) := by
 have hsz : (w.alloc X).heap.size = w.heap.size + 1 := by simp
 have e0 : (w.alloc X).heap[rb]? = _ := (Below.heap_alloc _ _ _ h.lt).trans h.c
 have e1 : w1.heap[rb]? = _ := (g1.block rb (by rw [hsz]; have := h.lt; omega) (fun e => h.neRow.1 e.symm)).trans e0
 have h2a : OwnsS (w.alloc X) base v2 l2 := OwnsS.alloc h.b X
 have h2 : OwnsS w1 base v2 l2 := ownsRow_same h2a (fun g e => g1.block g (own_lt h2a e) (fun e2 => h.ne g e2.symm e))
 have hn1 := row_neS o1 e1 (by decide)
 have hn2 := row_neS h2 e1 (by decide)
 have gs := grown_setCell w1 rb 1 v1'
 refine ⟨e1, ⟨heap_setCell_same w1 rb 1 _ _ v1' e1, ownsRow_same o1 (fun g e => gs.block g (own_lt o1 e) (fun e2 => hn1 (by rw [e, e2]))), ownsRow_same h2 (fun g e => gs.block g (own_lt h2 e) (fun e2 => hn2 (by rw [e, e2]))), ?_⟩, ?_, ?_, ?_⟩
 ·intro g eg e2
  rcases p1 with p1 | p1
  ·exact h.ne g (by rw [← p1]; exact eg) e2
  ·rw [p1] at eg
   obtain rfl := Option.some.inj eg
   have := own_lt h.b e2
   rw [hsz] at this; omega
 ·have f1 : Fr (DSet rb v1 v2) w w1 := (Fr.below ((Below.refl _ _).alloc (Nat.le_refl _) X)).trans (Fr.grown g1 (fun g e => .inr (.inl e)))
  exact f1.trans (Fr.set w1 rb 1 v1' (.inl rfl))
 ·have := g1.size
  omega
 ·rintro x (rfl | hx | hx)
  ·exact .inl (.inl rfl)
  ·rcases p1 with p1 | p1
   ·exact .inl (.inr (.inl (by rw [← p1]; exact hx)))
   ·rw [p1] at hx
    obtain rfl := Option.some.inj hx
    exact .inr (by rw [hsz]; omega)
  ·exact .inl (.inr (.inr hx))
theorem DSt.grow2 {w1 : World} {v2' : Value} {l2' : List (List UInt8)} {X : Obj} (h : DSt w rb v1 v2 base room l1 l2)
  (o1 : OwnsS w1 base v2' l2') (g1 : (w.alloc X).grownBy w1 v2.ownBlock) (p1 : v2'.ownBlock = v2.ownBlock ∨ v2'.ownBlock = some (w.alloc X).heap.size) :
  w1.heap[rb]? = some (.cells #[.int .i64 room, v1, v2] 199 (0, 0)) ∧ DSt (w1.setCell ⟨rb, 2, none⟩ v2') rb v1 v2' base room l1 l2' ∧ Fr (DSet rb v1 v2) w (w1.setCell ⟨rb, 2, none⟩ v2') ∧ w.heap.size < w1.heap.size ∧ (∀ x, DSet rb v1 v2' x → DSet rb v1 v2 x ∨ w.heap.size ≤ x) := by
 have hsz : (w.alloc X).heap.size = w.heap.size + 1 := by simp
 have e0 : (w.alloc X).heap[rb]? = _ := (Below.heap_alloc _ _ _ h.lt).trans h.c
 have e1 : w1.heap[rb]? = _ := (g1.block rb (by rw [hsz]; have := h.lt; omega) (fun e => h.neRow.2 e.symm)).trans e0
 have h2a : OwnsS (w.alloc X) base v1 l1 := OwnsS.alloc h.n X
 have h2 : OwnsS w1 base v1 l1 := ownsRow_same h2a (fun g e => g1.block g (own_lt h2a e) (fun e2 => h.ne g e e2.symm))
 have hn1 := row_neS o1 e1 (by decide)
 have hn2 := row_neS h2 e1 (by decide)
 have gs := grown_setCell w1 rb 2 v2'
 refine ⟨e1, ⟨heap_setCell_same w1 rb 2 _ _ v2' e1, ownsRow_same h2 (fun g e => gs.block g (own_lt h2 e) (fun e2 => hn2 (by rw [e, e2]))), ownsRow_same o1 (fun g e => gs.block g (own_lt o1 e) (fun e2 => hn1 (by rw [e, e2]))), ?_⟩, ?_, ?_, ?_⟩
 ·intro g eg e2
  rcases p1 with p1 | p1
  ·exact h.ne g eg (by rw [← p1]; exact e2)
  ·rw [p1] at e2
   obtain rfl := Option.some.inj e2
   have := own_lt h.n eg
   rw [hsz] at this; omega
 ·have f1 : Fr (DSet rb v1 v2) w w1 := (Fr.below ((Below.refl _ _).alloc (Nat.le_refl _) X)).trans (Fr.grown g1 (fun g e => .inr (.inr e)))
  exact f1.trans (Fr.set w1 rb 2 v2' (.inl rfl))
 ·have := g1.size
  omega
 ·rintro x (rfl | hx | hx)
  ·exact .inl (.inl rfl)
  ·exact .inl (.inr (.inl hx))
  ·rcases p1 with p1 | p1
   ·exact .inl (.inr (.inr (by rw [← p1]; exact hx)))
   ·rw [p1] at hx
    obtain rfl := Option.some.inj hx
    exact .inr (by rw [hsz]; omega)
end
def DS (w : World) (rb : Nat) (v1 v2 : Value) (base : Nat) (room : Int) (st : List (List UInt8 × List UInt8)) : Prop := DSt w rb v1 v2 base room (st.map (·.1)) (st.map (·.2))
theorem DS.r {w : World} {rb base : Nat} {v1 v2 : Value} {room : Int} {st : List (List UInt8 × List UInt8)} (h : DS w rb v1 v2 base room st) : RStore w rb room st := by
 obtain ⟨a1, c1, e1, t1, -, -⟩ := OwnsS.texts h.n
 obtain ⟨a2, c2, e2, t2, -, -⟩ := OwnsS.texts h.b
 rw [List.length_map] at e1 e2
 have k0 := cell_of_block (j := 0) h.c
 have k1 := cell_of_block (j := 1) h.c
 have k2 := cell_of_block (j := 2) h.c
 simp at k0 k1 k2
 exact ⟨k0, a1, c1, a2, c2, by rw [k1, e1], by rw [k2, e2], t1, t2⟩
def DEnd (rb : Nat) (v1 v2 : Value) (base : Nat) (room : Int) (st' : List (List UInt8 × List UInt8)) (w w' : World) : Prop := ∃ v1' v2', DS w' rb v1' v2' base room st' ∧ Fr (DSet rb v1 v2) w w' ∧ ∀ x, DSet rb v1' v2' x → DSet rb v1 v2 x ∨ w.heap.size ≤ x
theorem DEnd.same {rb base : Nat} {v1 v2 : Value} {room : Int} {st : List (List UInt8 × List UInt8)} {w w' : World} (h : DS w rb v1 v2 base room st) (hb : Below w.heap.size w w') : DEnd rb v1 v2 base room st w w' := ⟨v1, v2, DSt.below h hb (Nat.le_refl _), Fr.below hb, fun x hx => .inl hx⟩
theorem sum_take (st : List (List UInt8 × List UInt8)) (k : Nat) (h : k < st.length) : sumP (st.take (k + 1)) = sumP (st.take k) + st[k].2.length := by
 rw [List.take_add_one, List.getElem?_eq_getElem h, sum_app]
 obtain ⟨a, b⟩ := st[k]
 simp [sumP]
theorem sum_take_le (st : List (List UInt8 × List UInt8)) (k : Nat) : sumP (st.take k) ≤ sumP st := by
 have h := sum_app (st.take k) (st.drop k)
 rw [List.take_append_drop] at h
 omega
theorem fr_comp {S T : Nat → Prop} {a b c : World} (f : Fr S a b) (g : Fr T b c) (h : ∀ x, T x → S x ∨ a.heap.size ≤ x) : Fr S a c :=
 ⟨g.os.trans f.os, g.tape.trans f.tape, g.output.trans f.output, Nat.le_trans f.size g.size, fun x hx hn => (g.block x (Nat.lt_of_lt_of_le hx f.size) (fun ht => by rcases h x ht with h | h; exact hn h; omega)).trans (f.block x hx hn)⟩
theorem shape3 {w : World} {base e size n : Nat} {v : Value} {xs : List Value} (h : w.ownsRow base e size v n xs) : ∃ a n c, v = .slice a n c := by
 obtain ⟨a, c, h⟩ := row_shape h
 exact ⟨a, _, c, h⟩
set_option maxRecDepth 100000 in
set_option maxHeartbeats 4000000 in
theorem refPut_any (st : List (List UInt8 × List UInt8)) (rb : Nat) (v1 v2 : Value) (base : Nat) (room : Int) (b : List UInt8) (w : World) (h : DS w rb v1 v2 base room st) (hbase : base ≤ w.heap.size) (hb : b.length ≤ 10000000) (hlen : st.length ≤ 1000000000) (hsum : sumP st ≤ 1000000000000) :
  Calls Tryz.prog 117 #[.pointer (some ⟨rb, 0, none⟩), .string (bs b)] w fun e w' => e = .returned (.int .i64 (putP room st b).1) ∧ DEnd rb v1 v2 base room (putP room st b).2 w w' := by
 have hdg : Calls Tryz.prog 20 #[.string (bs b)] w fun e w' => e = .returned (.string (bs (P.digest b))) ∧ ∃ n, w' = w.drewN n := by
  have := refDigest_any (bs b) w (by rw [bs_size]; unfold maxLen; omega)
  rw [bs_data] at this
  exact this
 have hix := atP_idx st (P.digest b)
 have hpu : putP room st b = if (atP st (P.digest b)).isSome then (0, st) else if room < (b.length : Int) + (sumP st : Int) then (6, st) else (0, st ++ [(P.digest b, b)]) := rfl
 generalize P.digest b = d at *
 have Hpu := hide hpu
 have Hdg := hide hdg
 clear hpu hdg
 go_enter Tryz.func117, Tryz.ntmps117
 go_wp2_with fail
 refine (unhide Hdg).mono ?_
 rintro e W1 ⟨rfl, n1, hW1⟩
 have hb1 : Below w.heap.size w W1 := by rw [hW1]; exact below_drewN (Below.refl _ _) n1
 have h1 : DS W1 rb v1 v2 base room st := DSt.below h hb1 (Nat.le_refl _)
 have hat := refAt_any st rb room d W1 (by unfold maxLen; omega) h1.r
 have Hat := hide hat
 have Hh := hide (And.intro h (And.intro hb1 h1))
 have hsz1 := hb1.size
 clear hat hW1 hb1 h1 h Hdg
 rcases hix with ⟨i1, i2⟩ | ⟨m, hm, i1, i2⟩
 ·rw [i1] at Hat
  rw [i2] at Hpu
  go_wp2_with fail
  refine (unhide Hat).mono ?_
  rintro e w' ⟨rfl, hw'⟩
  rw [hw']
  clear hw' w' Hat i1 i2
  obtain ⟨h, hb1, h1⟩ := unhide Hh
  obtain ⟨a2, c2, e2, t2, -, -⟩ := OwnsS.texts h1.b
  rw [List.length_map] at e2
  subst e2
  have hsh : ∃ a n c, v1 = .slice a n c := by
   obtain ⟨a, c, h⟩ := row_shape h1.n
   exact ⟨a, _, c, h⟩
  obtain ⟨a1, n1', c1, rfl⟩ := hsh
  have k0 := cell_of_block (j := 0) h1.c
  have k1 := cell_of_block (j := 1) h1.c
  have k2 := cell_of_block (j := 2) h1.c
  simp at k0 k1 k2
  have hbz := bs_size b
  clear h hb1 h1
  go_wp2_with fail
  go_loopw [6, 7] (fun nv i wr => ∃ k : Nat, k ≤ st.length ∧ i = .int .i64 k ∧ nv = .int .i64 ((b.length : Int) + ((sumP (st.take k) : Nat) : Int)) ∧ W1 = wr) (fun _ i _ => st.length - (intOf i).toNat)
  case atStart => exact ⟨0, by omega, rfl, by simp [sumP], rfl⟩
  case round =>
   obtain ⟨k, hk, rfl, rfl, rfl⟩ := hrel
   have hle := sum_take_le st k
   by_cases hlt : k < st.length
   ·have g1 : decide ((k : Int) < (st.length : Int)) = true := by simpa using hlt
    have q1 : (k : Int) < (st.length : Int) := by omega
    obtain ⟨b2, o2, rfl, hcb⟩ := textsGet t2 (k := k) (by simpa using hlt)
    rw [List.getElem_map] at hcb
    have hst := sum_take st k hlt
    have hle2 := sum_take_le st (k + 1)
    unfold strVal at hcb
    generalize st[k].2 = x at *
    have hzx := bs_size x
    have Hst := hide hst
    have hxl : x.length ≤ 1000000000000 := by omega
    generalize sumP (st.take k) = yy at *
    clear hst t2
    go_wp2_with fail
    refine ⟨⟨k + 1, by omega, by go_num, ?_, by first | rfl | trivial⟩, by simp [intOf]; omega⟩
    rw [unhide Hst]
    first | (congr 1; omega) | go_num
   ·have g1 : decide ((k : Int) < (st.length : Int)) = false := by simpa using hlt
    obtain rfl : k = st.length := by omega
    rw [List.take_length]
    by_cases hr : room < (b.length : Int) + (sumP st : Int)
    ·have d1 : decide (room < (b.length : Int) + ((sumP st : Nat) : Int)) = true := by simpa using hr
     have Hr := hide (show putP room st b = (6, st) by rw [unhide Hpu]; simp [hr])
     clear hle t2 Hpu hr
     go_wp2_with fail
     go_ret
     rw [unhide Hr]
     exact ⟨rfl, DEnd.same (unhide Hh).1 (unhide Hh).2.1⟩
    ·have d1 : decide (room < (b.length : Int) + ((sumP st : Nat) : Int)) = false := by simpa using hr
     have Hr := hide (show putP room st b = (0, st ++ [(d, b)]) by rw [unhide Hpu]; simp [hr])
     have h1 := (unhide Hh).2.2
     have hl1 := h1.lt
     clear hle t2 Hpu hr
     go_wp2_with (at_builtin; refine app_text_at rfl (.tmp 45) (.tmp 47) rfl base _ _ rfl (OwnsS.alloc h1.n _) ⟨W1.heap.size, 0, none⟩ d rfl ?qa ?qb ?qc ?_)
     case qa => exact cell_of_block (heap_alloc_new W1 (.cells #[.string (bs d)] 9))
     case qb => simp; omega
     case qc => simp; omega
     intro v1' W2 o2 g2 p2
     obtain ⟨e1, D2, f2, z2, s2⟩ := DSt.grow1 h1 o2 g2 (by simpa using p2)
     have hsh : ∃ a n c, v1' = .slice a n c := by
      obtain ⟨a, c, h⟩ := row_shape o2
      exact ⟨a, _, c, h⟩
     obtain ⟨a1', n1'', c1', rfl⟩ := hsh
     have j1 := cell_of_block (j := 1) e1
     simp at j1
     have jl := (Array.getElem?_eq_some_iff.1 e1).1
     have jf := free_block (j := 1) e1
     have j2 := cell_of_block (j := 2) D2.c
     simp at j2
     have jl2 := D2.lt
     have ob := D2.b
     have hz2 : (W2.setCell ⟨rb, 1, none⟩ (.slice a1' n1'' c1')).heap.size = W2.heap.size := by simp
     have HD := hide (And.intro D2 (And.intro f2 s2))
     clear D2 f2 s2 o2 g2 p2 e1 h1
     go_wp2_with (at_builtin; refine app_text_at rfl (.tmp 55) (.tmp 57) rfl base _ _ rfl (OwnsS.alloc ob _) ⟨W2.heap.size, 0, none⟩ b rfl ?qa ?qb ?qc ?_)
     case qa =>
      have := cell_of_block (j := 0) (heap_alloc_new (W2.setCell ⟨rb, 1, none⟩ (.slice a1' n1'' c1')) (.cells #[.string (bs b)] 9))
      rw [hz2] at this
      exact this
     case qb => simp; omega
     case qc => simp; omega
     intro v2' W4 o4 g4 p4
     obtain ⟨D2, f2, s2⟩ := unhide HD
     obtain ⟨e4, D4, f4, z4, s4⟩ := DSt.grow2 D2 o4 g4 (by simpa using p4)
     obtain ⟨a2', n2'', c2', rfl⟩ := shape3 o4
     have i2 := cell_of_block (j := 2) e4
     simp at i2
     have il := (Array.getElem?_eq_some_iff.1 e4).1
     have if2 := free_block (j := 2) e4
     have Hend := hide (show DEnd rb (.slice a1 n1' c1) (.slice a2 st.length c2) base room (st ++ [(d, b)]) w (W4.setCell ⟨rb, 2, none⟩ (.slice a2' n2'' c2')) from by
      have hb1 := (unhide Hh).2.1
      refine ⟨.slice a1' n1'' c1', .slice a2' n2'' c2', ?_, fr_comp (fr_comp (Fr.below hb1) f2 (fun x hx => .inl hx)) f4 (fun x hx => ?_), fun x hx => ?_⟩
      ·unfold DS
       rw [List.map_append, List.map_append]
       exact D4
      ·rcases s2 x hx with h | h
       ·exact .inl h
       ·exact .inr (by omega)
      ·rcases s4 x hx with h | h
       ·rcases s2 x h with h | h
        ·exact .inl h
        ·exact .inr (by omega)
       ·exact .inr (by rw [hz2] at h; omega))
     clear D2 f2 s2 D4 f4 s4 e4 g4 p4 o4 HD
     go_wp2_with fail
     go_ret
     rw [unhide Hr]
     exact ⟨rfl, unhide Hend⟩
 ·rw [i1] at Hat
  rw [i2] at Hpu
  have d0 : decide ((0 : Int) ≤ (m : Int)) = true := by simp
  have Hr := hide (show putP room st b = (0, st) by rw [unhide Hpu]; simp)
  go_wp2_with fail
  refine (unhide Hat).mono ?_
  rintro e w' ⟨rfl, hw'⟩
  rw [hw']
  clear hw' w' Hat i1 i2 Hpu
  go_wp2_with fail
  go_ret
  rw [unhide Hr]
  exact ⟨rfl, DEnd.same (unhide Hh).1 (unhide Hh).2.1⟩
theorem DEnd.after {rb base : Nat} {v1 v2 v1' v2' : Value} {room : Int} {st : List (List UInt8 × List UInt8)} {w w1 w2 : World} (f : Fr (DSet rb v1 v2) w w1) (s : ∀ x, DSet rb v1' v2' x → DSet rb v1 v2 x ∨ w.heap.size ≤ x) (h : DEnd rb v1' v2' base room st w1 w2) : DEnd rb v1 v2 base room st w w2 := by
 obtain ⟨u1, u2, d, g, t⟩ := h
 refine ⟨u1, u2, d, fr_comp f g s, fun x hx => ?_⟩
 rcases t x hx with h | h
 ·exact s x h
 ·exact .inr (Nat.le_trans f.size h)
theorem putLen (room : Int) (st : List (List UInt8 × List UInt8)) (b : List UInt8) : (putP room st b).2.length ≤ st.length + 1 := by
 unfold putP
 split
 ·simp
 ·split <;> simp
set_option maxRecDepth 100000 in
set_option maxHeartbeats 2000000 in
theorem refPuts_any (l : List (List UInt8)) (ab : Option Addr) (cb : Nat) (st : List (List UInt8 × List UInt8)) (rb : Nat) (v1 v2 : Value) (base : Nat) (room : Int) (w : World) (M : Nat) (h : DS w rb v1 v2 base room st) (hbase : base ≤ w.heap.size) (ht : TextsAt w ab l) (hne : ∀ b o q, ab = some ⟨b, o, q⟩ → ¬ DSet rb v1 v2 b)
  (hx : ∀ x ∈ l, x.length ≤ 10000000) (hlen : st.length + l.length ≤ 1000000000) (hsum : sumP st ≤ M) (hM : M ≤ 1000000000000) (hr : room ≤ (M : Int)) :
  Calls Tryz.prog 218 #[.pointer (some ⟨rb, 0, none⟩), .slice ab l.length cb] w fun e w' => e = .returned (.int .i64 (putsP room st l).1) ∧ (putsP room st l).2.length ≤ st.length + l.length ∧ sumP (putsP room st l).2 ≤ M ∧ DEnd rb v1 v2 base room (putsP room st l).2 w w' := by
 have Hh := hide h
 have hlt0 := h.lt
 clear h
 go_enter Tryz.func218, Tryz.ntmps218
 go_wp2_with fail
 go_loopw [5] (fun i wr => ∃ (k : Nat) (sk : List (List UInt8 × List UInt8)), k ≤ l.length ∧ i = .int .i64 k ∧ DEnd rb v1 v2 base room sk w wr ∧ sk.length ≤ st.length + k ∧ sumP sk ≤ M ∧ putsP room st l = putsP room sk (l.drop k)) (fun i _ => l.length - (intOf i).toNat)
 case atStart => exact ⟨0, st, by omega, rfl, DEnd.same (unhide Hh) (Below.refl _ _), by omega, hsum, by simp⟩
 case round =>
  obtain ⟨k, sk, hk, rfl, hde, hsl, hsk, heq⟩ := hrel
  clear Hh
  have Heq := hide heq
  clear heq
  by_cases hlt : k < l.length
  ·obtain ⟨b, o, rfl, hct⟩ : ∃ b o, ab = some ⟨b, o, none⟩ ∧ ∀ i (h : i < l.length), w.cell? ⟨b, o + i, none⟩ = some (strVal l[i]) := by
    rcases ht with h | h
    ·subst h; simp at hlt
    ·exact h
   obtain ⟨u1, u2, hd, hfr, hsub⟩ := hde
   have ck := cell_fr hfr (hct k hlt) (hne b o none rfl)
   unfold strVal at ck
   have q1 : (k : Int) < (l.length : Int) := by omega
   have hpt := refPut_any sk rb u1 u2 base room l[k] wr hd (Nat.le_trans hbase hfr.size) (hx _ (List.getElem_mem hlt)) (by omega) (by omega)
   have Hd := hide (puts_drop room sk l k hlt)
   have hsn := put_sum (b := l[k]) hsk hr
   have hln := putLen room sk l[k]
   have Hfr := hide (And.intro hfr hsub)
   clear hct ht hd hfr hsub
   generalize l[k] = x at *
   generalize hP : putP room sk x = p at *
   obtain ⟨p1, p2⟩ := p
   simp only at hpt hsn Hd hln
   clear hP
   have Hpt := hide hpt
   clear hpt
   go_wp2_with fail
   refine (unhide Hpt).mono ?_
   rintro e w2 ⟨rfl, hde2⟩
   have Hde2 := hide (hde2.after (unhide Hfr).1 (unhide Hfr).2)
   clear Hpt hde2 Hfr
   by_cases h0 : p1 = 0
   ·subst h0
    have Hr := hide (show putsP room st l = putsP room p2 (l.drop (k + 1)) by rw [unhide Heq, unhide Hd]; simp)
    go_wp2_with fail
    go_roundw
    case rel => exact ⟨k + 1, p2, by omega, by go_num, unhide Hde2, by omega, hsn, unhide Hr⟩
    case measure => simp [intOf]; omega
   ·have Hr := hide (show putsP room st l = (p1, p2) by rw [unhide Heq, unhide Hd]; simp [h0])
    have b0 : (p1 == 0) = false := by simpa using h0
    go_wp2_with fail
    go_ret
    exact ⟨ret_int (by rw [unhide Hr]), by rw [unhide Hr]; show p2.length ≤ _; omega, by rw [unhide Hr]; exact hsn, by rw [unhide Hr]; exact unhide Hde2⟩
  ·obtain rfl : k = l.length := by omega
   have Hr := hide (show putsP room st l = (0, sk) by rw [unhide Heq, List.drop_length]; rfl)
   have Hde := hide hde
   clear hde
   go_wp2_with fail
   go_ret
   exact ⟨ret_int (by rw [unhide Hr]), by rw [unhide Hr]; exact hsl, by rw [unhide Hr]; exact hsk, by rw [unhide Hr]; exact unhide Hde⟩
end Go.Proofs.YtjmacegibchplaaGreatDoor