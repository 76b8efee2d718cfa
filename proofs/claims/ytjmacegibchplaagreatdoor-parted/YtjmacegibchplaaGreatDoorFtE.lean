/-
  The program's Fetch.
-/
import Derived.Test.YtjmacegibchplaaGreatDoorUpF
namespace Go.Proofs.YtjmacegibchplaaGreatDoor
open Go.RowKit Go.Maps Go.WideMaps
set_option linter.unusedVariables false
def DirEnd (S : List UInt8 → Option (List UInt8)) (d : List UInt8) (w : World) (e : Ending) (w' : World) : Prop :=
  Below w.heap.size w w' ∧ (((blobS S d).1 ≠ 0 ∧ e = .returned (.tuple #[.slice none 0 0, .int .i64 (blobS S d).1])) ∨ ((blobS S d).1 = 0 ∧ decOk (blobS S d).2 = none ∧ e = .returned (.tuple #[.slice none 0 0, .int .i64 8])) ∨
    ((blobS S d).1 = 0 ∧ ∃ items v, decOk (blobS S d).2 = some items ∧ e = .returned (.tuple #[v, .int .i64 0]) ∧ OwnsIt w' w.heap.size v items))
set_option maxHeartbeats 1000000 in
theorem dirUnder_any (st : List (List UInt8 × List UInt8)) (pb um n : Nat) (room : Int) (d : List UInt8) (w : World) (h : PStore w pb um n room st) (hd : d.length ≤ maxLen) (hsz : ∀ b, atP st d = some b → b.length ≤ 10000000) :
    Calls Tryz.prog 89 #[.pointer (some ⟨pb, 0, none⟩), .string (bs d)] w fun e w' => DirEnd (atP st) d w e w' := by
  have hbu := blobUnder_any st pb um n room d w h hd hsz
  have hbl : (blobS (atP st) d).2.length ≤ 10000000 := by
    unfold blobS
    cases ha : atP st d with
    | none => simp
    | some b =>
      simp only
      split
      · exact hsz b ha
      · simp
  have Hend := hide (show ∀ e w', (Below w.heap.size w w' ∧ (((blobS (atP st) d).1 ≠ 0 ∧ e = .returned (.tuple #[.slice none 0 0, .int .i64 (blobS (atP st) d).1])) ∨ ((blobS (atP st) d).1 = 0 ∧ decOk (blobS (atP st) d).2 = none ∧ e = .returned (.tuple #[.slice none 0 0, .int .i64 8])) ∨
    ((blobS (atP st) d).1 = 0 ∧ ∃ items v, decOk (blobS (atP st) d).2 = some items ∧ e = .returned (.tuple #[v, .int .i64 0]) ∧ OwnsIt w' w.heap.size v items))) → DirEnd (atP st) d w e w' from fun _ _ h => h)
  clear h hsz
  generalize blobS (atP st) d = bb at *
  obtain ⟨be, b⟩ := bb
  simp only at hbl
  have Hbu := hide hbu
  clear hbu
  go_enter Tryz.func89, Tryz.ntmps89
  go_wp2_with fail
  refine (unhide Hbu).mono ?_
  rintro e w1 ⟨rfl, hb1⟩
  clear Hbu
  by_cases he : be = 0
  · subst he
    have hit := itemsOf_any b w1 (by unfold maxLen; omega)
    go_wp2_with fail
    refine hit.mono ?_
    rintro e w2 ⟨hb2, ⟨hdc, rfl⟩ | ⟨items, v, hdc, hf, hl2, rfl, ho⟩⟩
    · have hbb := hb1.trans (hb2.mono hb1.size)
      have Hd := hide hdc
      clear hdc hit
      go_wp2_with fail
      go_ret2
      exact unhide Hend _ _ ⟨hbb, .inr (.inl ⟨by first | trivial | rfl, unhide Hd, rfl⟩)⟩
    · have hbb := hb1.trans (hb2.mono hb1.size)
      have ho' : OwnsIt w2 w.heap.size v items := ⟨ho.1, ho.2.imp id (fun ⟨g, cap, cur, h1, h2, h3⟩ => ⟨g, cap, cur, h1, Nat.le_trans hb1.size h2, h3⟩)⟩
      have Hd := hide (And.intro hdc ho')
      clear hdc hit ho ho'
      go_wp2_with fail
      go_ret2
      exact unhide Hend _ _ ⟨hbb, .inr (.inr ⟨by first | trivial | rfl, items, v, (unhide Hd).1, rfl, (unhide Hd).2⟩)⟩
  · have b0 : (be == 0) = false := by simpa using he
    go_wp2_with fail
    go_ret2
    exact unhide Hend _ _ ⟨hb1, .inl ⟨he, rfl⟩⟩
def FetEnd (S : List UInt8 → Option (List UInt8)) (root : List UInt8) (ents dep : Int) (w : World) (e : Ending) (w' : World) : Prop :=
  Below w.heap.size w w' ∧ ∃ v, e = .returned (.tuple #[v, .int .i64 (fetchP S root ents dep).1]) ∧ OwnsE w' w.heap.size v (fetchP S root ents dep).2
set_option maxRecDepth 100000 in
set_option maxHeartbeats 4000000 in
theorem fetTree_any (st : List (List UInt8 × List UInt8)) (pb um n : Nat) (room : Int) (root : List UInt8) (ents dep : Int) (w : World) (h : PStore w pb um n room st) (hg : GlobOk w) (hd : root.length ≤ maxLen) (hsz : ∀ d b, atP st d = some b → b.length ≤ 10000000) :
    Calls Tryz.prog 56 #[.pointer (some ⟨pb, 0, none⟩), .string (bs root), .int .i64 ents, .int .i64 dep] w fun e w' => FetEnd (atP st) root ents dep w e w' := by
  have hmf : ∀ (fn : Fn) (first cap : Array Value) (w : World), (Instr.makeFunc fn first cap).run Tryz.prog w = .ok (.func fn first cap) w := fun _ _ _ _ => rfl
  have hbA : Below w.heap.size w (((w.alloc (.cells #[.pointer (some ⟨pb, 0, none⟩)] 95)).alloc (.cells #[.int .i64 ents] 3)).alloc (.cells #[.int .i64 dep] 3)) := (((Below.refl _ _).alloc (Nat.le_refl _) _).alloc (by simp) _).alloc (by simp; omega) _
  have hs4 : (((w.alloc (.cells #[.pointer (some ⟨pb, 0, none⟩)] 95)).alloc (.cells #[.int .i64 ents] 3)).alloc (.cells #[.int .i64 dep] 3)).heap[w.heap.size]? = some (.cells #[.pointer (some ⟨pb, 0, none⟩)] 95 (0, 0)) := by
    rw [Below.heap_alloc _ _ _ (by simp; omega), Below.heap_alloc _ _ _ (by simp)]; exact heap_alloc_new w _
  have hs6 : (((w.alloc (.cells #[.pointer (some ⟨pb, 0, none⟩)] 95)).alloc (.cells #[.int .i64 ents] 3)).alloc (.cells #[.int .i64 dep] 3)).heap[w.heap.size + 1]? = some (.cells #[.int .i64 ents] 3 (0, 0)) := by
    rw [Below.heap_alloc _ _ _ (by simp)]
    have := heap_alloc_new (w.alloc (.cells #[.pointer (some ⟨pb, 0, none⟩)] 95)) (.cells #[.int .i64 ents] 3)
    rw [show (w.alloc (.cells #[.pointer (some ⟨pb, 0, none⟩)] 95)).heap.size = w.heap.size + 1 by simp] at this
    exact this
  have hs7 : (((w.alloc (.cells #[.pointer (some ⟨pb, 0, none⟩)] 95)).alloc (.cells #[.int .i64 ents] 3)).alloc (.cells #[.int .i64 dep] 3)).heap[w.heap.size + 1 + 1]? = some (.cells #[.int .i64 dep] 3 (0, 0)) := by
    have := heap_alloc_new ((w.alloc (.cells #[.pointer (some ⟨pb, 0, none⟩)] 95)).alloc (.cells #[.int .i64 ents] 3)) (.cells #[.int .i64 dep] 3)
    rw [show ((w.alloc (.cells #[.pointer (some ⟨pb, 0, none⟩)] 95)).alloc (.cells #[.int .i64 ents] 3)).heap.size = w.heap.size + 2 by simp] at this
    exact this
  obtain ⟨W1, hW1⟩ : ∃ W1, ((w.alloc (.cells #[.pointer (some ⟨pb, 0, none⟩)] 95)).alloc (.cells #[.int .i64 ents] 3)).alloc (.cells #[.int .i64 dep] 3) = W1 := ⟨_, rfl⟩
  rw [hW1] at hbA hs4 hs6 hs7
  have hgb : 0 < w.heap.size := by obtain ⟨m, hm⟩ := hg; exact block_lt hm
  have hdu := dirUnder_any st pb um n room root W1 (h.below hbA (Nat.le_refl _)) hd (hsz root)
  have s4 := cell_of_block (j := 0) hs4
  simp only [List.getElem?_toArray, List.getElem?_cons_zero] at s4
  unfold DirEnd at hdu
  have Hdu := hide hdu
  have Hend := hide (show ∀ e w', (Below w.heap.size w w' ∧ ∃ v, e = .returned (.tuple #[v, .int .i64 (fetchP (atP st) root ents dep).1]) ∧ OwnsE w' w.heap.size v (fetchP (atP st) root ents dep).2) → FetEnd (atP st) root ents dep w e w' from fun _ _ h => h)
  have Hfp := hide (show fetchP (atP st) root ents dep = if (blobS (atP st) root).1 ≠ 0 then ((blobS (atP st) root).1, []) else if (belowF (atP st) ents dep 6 1 (blobS (atP st) root).2 [] []).1 ≠ 0 then ((belowF (atP st) ents dep 6 1 (blobS (atP st) root).2 [] []).1, []) else belowF (atP st) ents dep 6 1 (blobS (atP st) root).2 [] [] from rfl)
  have Hbf := hide (show ∀ b, belowF (atP st) ents dep 6 1 b [] [] = match decOk b with | none => (8, []) | some l => fetItems (atP st) ents dep (belowF (atP st) ents dep 5 (1 + 1)) [] 1 l [] from fun b => rfl)
  clear hdu
  generalize blobS (atP st) root = bb at *
  obtain ⟨be, b⟩ := bb
  go_enter Tryz.func56, Tryz.ntmps56
  go_wp2_with fail
  refine (unhide Hdu).mono ?_
  rintro e W2 ⟨hb2, (⟨hbe, rfl⟩ | ⟨hbe, hdc, rfl⟩ | ⟨hbe, items, vi, hdc, rfl, hoi⟩)⟩
  · have hbe : be ≠ 0 := hbe
    have hbw2 := hbA.trans (hb2.mono hbA.size)
    have b0 : (be == 0) = false := by simpa using hbe
    have Hr := hide (show fetchP (atP st) root ents dep = (be, []) by rw [unhide Hfp]; simp [hbe])
    clear Hdu hW1 hb2 hbA s4
    go_wp2_with fail
    go_ret2
    exact unhide Hend _ _ ⟨hbw2, _, by (rw [unhide Hr]; first | done | rfl), by rw [unhide Hr]; exact World.ownsRow_nil _ _ _ _⟩
  · have hbe : be = 0 := hbe
    subst hbe
    have hbw2 := hbA.trans (hb2.mono hbA.size)
    have Hr := hide (show fetchP (atP st) root ents dep = (8, []) by rw [unhide Hfp, unhide Hbf, hdc]; simp)
    clear Hdu hW1 hb2 hbA s4 hdc
    go_wp2_with fail
    go_ret2
    exact unhide Hend _ _ ⟨hbw2, _, by (rw [unhide Hr]; first | done | rfl), by rw [unhide Hr]; exact World.ownsRow_nil _ _ _ _⟩
  · have hbe : be = 0 := hbe
    have hdc : decOk b = some items := hdc
    subst hbe
    have hbw2 := hbA.trans (hb2.mono hbA.size)
    have hs42 := (hb2.block _ (Array.getElem?_eq_some_iff.1 hs4).1).trans hs4
    have hs62 := (hb2.block _ (Array.getElem?_eq_some_iff.1 hs6).1).trans hs6
    have hs72 := (hb2.block _ (Array.getElem?_eq_some_iff.1 hs7).1).trans hs7
    have c6 := cell_of_block (j := 0) hs62
    have c7 := cell_of_block (j := 0) hs72
    have f6 := free_block (j := 0) hs62
    have f7 := free_block (j := 0) hs72
    simp only [List.getElem?_toArray, List.getElem?_cons_zero] at c6 c7
    have hdir := (decOk_iff _ _).1 hdc
    have hok := dir_each items hdir.1
    have hil : items.length ≤ 40 := by have := hdir.1; unfold dirOk at this; simp only [Bool.and_eq_true, decide_eq_true_eq] at this; exact this.1
    have Hr := hide (show fetchP (atP st) root ents dep = if (fetItems (atP st) ents dep (belowF (atP st) ents dep 5 (1 + 1)) [] 1 items []).1 ≠ 0 then ((fetItems (atP st) ents dep (belowF (atP st) ents dep 5 (1 + 1)) [] 1 items []).1, []) else fetItems (atP st) ents dep (belowF (atP st) ents dep 5 (1 + 1)) [] 1 items [] by rw [unhide Hfp, unhide Hbf, hdc]; simp)
    have hlt7 := (Array.getElem?_eq_some_iff.1 hs7).1
    clear Hdu hW1 hbA s4 hdc hdir Hfp Hbf hs4 hs6 hs7
    go_wp2_with fail
    go_region
    go_wp2_with fail
    have hl4 := (Array.getElem?_eq_some_iff.1 hs42).1
    have hl6 := (Array.getElem?_eq_some_iff.1 hs62).1
    have hl7 := (Array.getElem?_eq_some_iff.1 hs72).1
    have hza : (W2.setCell ⟨w.heap.size + 1, 0, none⟩ (.int .i64 (min ents 40))).heap.size = W2.heap.size := by simp
    have hzb : ((W2.setCell ⟨w.heap.size + 1, 0, none⟩ (.int .i64 (min ents 40))).setCell ⟨w.heap.size + 1 + 1, 0, none⟩ (.int .i64 (min dep 5))).heap.size = W2.heap.size := by simp
    have hba : Below w.heap.size w ((W2.setCell ⟨w.heap.size + 1, 0, none⟩ (.int .i64 (min ents 40))).setCell ⟨w.heap.size + 1 + 1, 0, none⟩ (.int .i64 (min dep 5))) := (hbw2.setCell (p := ⟨w.heap.size + 1, 0, none⟩) (by simp) _).setCell (p := ⟨w.heap.size + 1 + 1, 0, none⟩) (by simp; omega) _
    have hkeep : ∀ b, b < W2.heap.size → b ≠ w.heap.size + 1 → b ≠ w.heap.size + 1 + 1 → ((((W2.setCell ⟨w.heap.size + 1, 0, none⟩ (.int .i64 (min ents 40))).setCell ⟨w.heap.size + 1 + 1, 0, none⟩ (.int .i64 (min dep 5))).alloc (.cells #[.slice none 0 0] 22)).drew).heap[b]? = W2.heap[b]? := fun b hb h1 h2 => by
      refine (Below.heap_alloc _ _ _ (by rw [hzb]; exact hb)).trans ?_
      rw [Below.heap_setCell _ _ _ _ (by simpa using h2), Below.heap_setCell _ _ _ _ (by simpa using h1)]
    have hb5 : Below w.heap.size w ((((W2.setCell ⟨w.heap.size + 1, 0, none⟩ (.int .i64 (min ents 40))).setCell ⟨w.heap.size + 1 + 1, 0, none⟩ (.int .i64 (min dep 5))).alloc (.cells #[.slice none 0 0] 22)).drew) := by
      have h0 := hba.alloc hba.size (.cells #[.slice none 0 0] 22)
      exact ⟨h0.os, h0.tape, h0.output, h0.size, h0.block⟩
    have hF5 : FSt ((((W2.setCell ⟨w.heap.size + 1, 0, none⟩ (.int .i64 (min ents 40))).setCell ⟨w.heap.size + 1 + 1, 0, none⟩ (.int .i64 (min dep 5))).alloc (.cells #[.slice none 0 0] 22)).drew) w.heap.size W2.heap.size (w.heap.size + 1) (w.heap.size + 1 + 1) w.heap.size (.slice none 0 0) [] ents dep pb um n room st := by
      refine ⟨?_, World.ownsRow_nil _ _ _ _, ?_, ?_, ?_, h.below hb5 (Nat.le_refl _), hg.below hb5 (Nat.le_refl _), by simp, hb5.size, hgb, by omega⟩
      · have := heap_alloc_new ((W2.setCell ⟨w.heap.size + 1, 0, none⟩ (.int .i64 (min ents 40))).setCell ⟨w.heap.size + 1 + 1, 0, none⟩ (.int .i64 (min dep 5))) (.cells #[.slice none 0 0] 22)
        rw [hzb] at this
        exact this
      · refine (Below.heap_alloc _ _ _ (by rw [hzb]; exact hl6)).trans ?_
        rw [Below.heap_setCell _ _ _ _ (by simp)]
        exact heap_set0 _ hs62
      · refine (Below.heap_alloc _ _ _ (by rw [hzb]; exact hl7)).trans ?_
        exact heap_set0 _ ((Below.heap_setCell _ _ _ _ (by simp)).trans hs72)
      · exact (hkeep _ hl4 (by omega) (by omega)).trans hs42
    have hz1 : w.heap.size + 1 + 1 < W1.heap.size := hlt7
    have hoi5 : OwnsIt ((((W2.setCell ⟨w.heap.size + 1, 0, none⟩ (.int .i64 (min ents 40))).setCell ⟨w.heap.size + 1 + 1, 0, none⟩ (.int .i64 (min dep 5))).alloc (.cells #[.slice none 0 0] 22)).drew) W1.heap.size vi items := ownsRow_same hoi (fun g hg' => hkeep g (own_lt hoi hg') (by have := (World.ownsRow.lt hoi g hg').1; omega) (by have := (World.ownsRow.lt hoi g hg').1; omega))
    have hth := through_all w.heap.size W2.heap.size (w.heap.size + 1) (w.heap.size + 1 + 1) w.heap.size ents dep pb um n room st hsz 5 0 rfl [] items vi W1.heap.size (.slice none 0 0) [] _ (.inl ⟨rfl, rfl⟩) (by simp) hok hoi5 (by omega) hF5
    rw [show (((0 : Nat) : Int) + 1) = 1 from rfl] at hth
    unfold visV ptr FThrEnd at hth
    have Hth := hide hth
    have Hb5 := hide hb5
    clear hth hF5 hoi5 hkeep hba hoi hbw2 hb2 hs42 hs62 hs72 h hg hza hzb
    generalize (((W2.setCell ⟨w.heap.size + 1, 0, none⟩ (.int .i64 (min ents 40))).setCell ⟨w.heap.size + 1 + 1, 0, none⟩ (.int .i64 (min dep 5))).alloc (.cells #[.slice none 0 0] 22)).drew = W5 at *
    generalize fetItems (atP st) ents dep (belowF (atP st) ents dep 5 (1 + 1)) [] 1 items [] = q at *
    obtain ⟨qe, qo⟩ := q
    simp only at Hr Hth
    refine (unhide Hth).mono ?_
    rintro e W6 ⟨rfl, hf6, hq6⟩
    have hb6 : Below w.heap.size w W6 := by
      have h5 := unhide Hb5
      refine ⟨hf6.os.trans h5.os, hf6.tape.trans h5.tape, hf6.output.trans h5.output, Nat.le_trans h5.size hf6.size, fun b hb => (hf6.block b (Nat.lt_of_lt_of_le hb h5.size) ?_).trans (h5.block b hb)⟩
      rintro (e | e)
      · omega
      · simp [Value.ownBlock] at e
    clear Hth hf6
    by_cases hq : qe = 0
    · subst hq
      obtain ⟨v6, hF6, -⟩ := hq6 rfl
      have Hrr := hide (show fetchP (atP st) root ents dep = (0, qo) by rw [unhide Hr]; simp)
      have k0 := cell_of_block (j := 0) hF6.l
      simp only [List.getElem?_toArray, List.getElem?_cons_zero] at k0
      obtain ⟨a6, c6', hv6⟩ := row_shape hF6.own
      have Ho := hide hF6.own
      clear hq6 hF6
      subst hv6
      go_wp2_with fail
      go_ret2
      exact unhide Hend _ _ ⟨hb6, _, by (rw [unhide Hrr]; first | done | rfl), by rw [unhide Hrr]; exact unhide Ho⟩
    · have b0 : (qe == 0) = false := by simpa using hq
      have Hrr := hide (show fetchP (atP st) root ents dep = (qe, []) by rw [unhide Hr, if_pos hq])
      clear hq6
      go_wp2_with fail
      go_ret2
      exact unhide Hend _ _ ⟨hb6, _, by (rw [unhide Hrr]; first | done | rfl), by rw [unhide Hrr]; exact World.ownsRow_nil _ _ _ _⟩
set_option maxHeartbeats 1000000 in
theorem cFetch_any (st : List (List UInt8 × List UInt8)) (sb pb um n : Nat) (room : Int) (root : List UInt8) (ents dep : Int) (w : World) (h : CS w sb pb um n room st) (hg : GlobOk w) (hd : root.length ≤ maxLen) (hsz : ∀ d b, atP st d = some b → b.length ≤ 10000000) :
    Calls Tryz.prog 28 #[.pointer (some ⟨sb, 0, none⟩), .string (bs root), .int .i64 ents, .int .i64 dep] w fun e w' => FetEnd (atP st) root ents dep w e w' := by
  have hp := fetTree_any st pb um n room root ents dep w h.p hg hd hsz
  have c0 := cell_of_block (j := 0) h.c
  simp only [List.getElem?_toArray, List.getElem?_cons_zero] at c0
  have Hp := hide hp
  clear hp h hg hsz
  go_enter Tryz.func28, Tryz.ntmps28
  go_wp2_with fail
  refine (unhide Hp).mono ?_
  rintro e w1 ⟨hb, v, rfl, ho⟩
  go_wp2_with fail
  go_ret2
  exact ⟨hb, v, rfl, ho⟩
end Go.Proofs.YtjmacegibchplaaGreatDoor
