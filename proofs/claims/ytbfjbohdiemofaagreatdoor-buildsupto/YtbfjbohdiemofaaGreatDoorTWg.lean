/-
  The program's AnyLeadsOut: whether a link of a tree leads out.
-/
import Derived.Test.YtbfjbohdiemofaaGreatDoorTWf
namespace Go.Proofs.YtbfjbohdiemofaaGreatDoor
open Go.RowKit
set_option linter.unusedVariables false

theorem heap_set0 {w : World} {b : Nat} {u : Value} {t : TypeId} (v : Value) (h : w.heap[b]? = some (.cells #[u] t (0, 0))) : (w.setCell ⟨b, 0, none⟩ v).heap[b]? = some (.cells #[v] t (0, 0)) := by
  rw [heap_setCell_same w b 0 #[u] t v h]; simp
set_option maxRecDepth 100000 in
set_option maxHeartbeats 2000000 in
theorem leadsOut1 (x : En) (w : World) (bo : Nat) (bv : Bool) (hbo : w.heap[bo]? = some (.cells #[.bool bv] 4 (0, 0))) (hg : GlobOk w) (hp : x.path.size ≤ 1100000) (hs : (sp x.path.data.toList).length ≤ 5) (hd : x.kind = 3 → x.data.size ≤ 1100000) :
    Calls Tryz.prog 41 #[entV x, ptr bo] w fun e w' => e = .returned (.tuple #[]) ∧ w'.heap[bo]? = some (.cells #[.bool (bv || escP x)] 4 (0, 0)) ∧ w.grownBy w' (some bo) := by
  obtain ⟨pa, kd, dt⟩ := x
  obtain ⟨p, rfl⟩ : ∃ p, pa = bs p := ⟨pa.data.toList, (bs_of pa).symm⟩
  obtain ⟨d, rfl⟩ : ∃ d, dt = bs d := ⟨dt.data.toList, (bs_of dt).symm⟩
  unfold entV ptr escP
  simp only [bs_data, bs_size] at hp hs hd ⊢
  have hlo : bo < w.heap.size := (Array.getElem?_eq_some_iff.1 hbo).1
  have hbA : Below w.heap.size w (w.alloc (.cells #[.string (bs p), .int .i64 kd, .string (bs d)] 32)) := (Below.refl _ _).alloc (Nat.le_refl _) _
  by_cases h3 : kd = 3
  · subst h3
    have hg1 : GlobOk ((w.alloc (.cells #[.string (bs p), .int .i64 3, .string (bs d)] 32)).drew) := by
      have := hg.below hbA (Nat.le_refl _)
      exact this
    have hpos : 1 ≤ (sp p).length := List.length_pos_iff.2 (sp_ne p)
    have hcount := fun w' => Tryz.strings_Count_one (bs p) 47 w'
    rw [bs_data, show Lib.countByte p 47 = (sp p).length - 1 by rw [sp_count]; rfl] at hcount
    have hn : (((sp p).length - 1 : Nat) : Int) = ((sp p).length : Int) - 1 := by omega
    simp only [hn] at hcount
    have hlead := leads_any (((sp p).length : Int) - 1) d _ hg1 (by omega) (by omega) (hd rfl)
    rw [show ((3 : Int) == 3) = true from rfl, Bool.true_and]
    generalize hob : outP (((sp p).length : Int) - 1) d = ob at *
    generalize ((sp p).length : Int) - 1 = n at *
    have Hlead := hide hlead
    clear hlead hob hg1
    have e0 := cell_of_block (j := 0) (heap_alloc_new w (.cells #[.string (bs p), .int .i64 3, .string (bs d)] 32))
    go_enter Tryz.func41, Tryz.ntmps41
    go_wp2_with fail
    go_region_held3 (fun w' => w'.cell? ⟨w.heap.size, 0, none⟩ = some (.string (bs p)) ∧ w'.cell? ⟨w.heap.size, 1, none⟩ = some (.int .i64 3) ∧ w'.cell? ⟨w.heap.size, 2, none⟩ = some (.string (bs d)))
      ((first | exact ⟨by assumption, by assumption, by assumption⟩ | go_keep))
      ((first | (go_at_call 43; refine (hcount _).mono ?_; rintro e w' ⟨rfl, hw'⟩; rw [hw']; clear hw' w')
              | (go_at_call 42; refine (unhide Hlead).mono ?_; rintro e w2 ⟨rfl, hb2⟩;
                 have s0 := ((bcell hb2).1 w.heap.size 0 (by simp)).trans (by simp : _ = some (.string (bs p)));
                 have s1 := ((bcell hb2).1 w.heap.size 1 (by simp)).trans (by simp : _ = some (.int .i64 3));
                 have s2 := ((bcell hb2).1 w.heap.size 2 (by simp)).trans (by simp : _ = some (.string (bs d))))))
    all_goals
      have hbo2 := (hb2.block bo (Nat.lt_of_lt_of_le hlo hbA.size)).trans ((Below.heap_alloc w _ bo hlo).trans hbo)
      have cbo := cell_of_block (j := 0) hbo2
      have fbo := free_block (j := 0) hbo2
      simp only [List.getElem?_toArray, List.getElem?_cons_zero] at cbo
      have hb3 : Below w.heap.size w w2 := Below.trans (b := (w.alloc (.cells #[.string (bs p), .int .i64 3, .string (bs d)] 32)).drew) ⟨hbA.os, hbA.tape, hbA.output, hbA.size, hbA.block⟩ (hb2.mono hbA.size)
      have Hbo := hide hbo2
      have Hb3 := hide hb3
      clear hbo2 hb3 hb2
      cases ob
      · go_wp2_with fail
        go_end0
        exact ⟨rfl, by rw [Bool.or_false]; exact unhide Hbo, ⟨(unhide Hb3).os, (unhide Hb3).tape, (unhide Hb3).output, (unhide Hb3).size, fun b h _ => (unhide Hb3).block b h⟩⟩
      · go_wp2_with fail
        go_end0
        exact ⟨rfl, by rw [Bool.or_true]; exact heap_set0 _ (unhide Hbo), ⟨(unhide Hb3).os, (unhide Hb3).tape, (unhide Hb3).output, by simp [(unhide Hb3).size], fun b h hne => (Below.heap_setCell _ _ _ _ (fun e => hne (by rw [e]))).trans ((unhide Hb3).block b h)⟩⟩
  · have b3 : (kd == 3) = false := by simpa using h3
    rw [b3, Bool.false_and, Bool.or_false]
    clear h3
    go_enter Tryz.func41, Tryz.ntmps41
    go_wp2_with fail
    go_quiet (fail)
    go_wp2_with fail
    go_end0
    exact ⟨rfl, (Below.heap_alloc w _ bo hlo).trans hbo, ⟨rfl, rfl, rfl, by simp, fun b h _ => Below.heap_alloc w _ b h⟩⟩
/-- what the visitor holds -/
def IL (l : List En) (w0 : World) (Own : Nat → Prop) (done : List Nat) (w : World) : Prop :=
  (∀ b, Own b ↔ b ≤ w0.heap.size) ∧ w.heap[w0.heap.size]? = some (.cells #[.bool (done.any (fun i => escP (l.getD i en0)))] 4 (0, 0)) ∧ Below w0.heap.size w0 w
theorem visitL (l : List En) (ht : Tree l) (hf : TFit l) (w0 : World) (hg : GlobOk w0) : Visitor l 41 #[ptr w0.heap.size] (IL l w0) where
  enters := enters_of Tryz.func41 (by kernel_rfl) rfl
  lt := by
    rintro Own done w ⟨h1, h2, h3⟩ b hb
    have := (h1 b).1 hb
    have := (Array.getElem?_eq_some_iff.1 h2).1
    omega
  stable := by
    rintro Own done w w' ⟨h1, h2, h3⟩ hk
    exact ⟨h1, (hk.block _ ((h1 _).2 (Nat.le_refl _))).trans h2, ⟨hk.os.trans h3.os, hk.tape.trans h3.tape, hk.output.trans h3.output, Nat.le_trans h3.size hk.size, fun b hb => (hk.block b ((h1 b).2 (by omega))).trans (h3.block b hb)⟩⟩
  visit := by
    rintro Own done i w hi _ ⟨h1, h2, h3⟩ _
    have hfi := hf i hi
    have hfn := ht.fine i hi
    have hk3 := fineP_link l i hi hfn
    have hdp := fineP_deep l i hi hfn
    rw [← en_getD l i hi] at hfi hk3 hdp
    refine (leadsOut1 (l.getD i en0) w w0.heap.size _ h2 (hg.below h3 (Nat.le_refl _)) hfi.1 hdp (fun h => ?_)).mono ?_
    · have := hk3 h
      simp only [P.isTarget, Bool.and_eq_true, decide_eq_true_eq] at this
      have h2 := this.1.2
      simp at h2
      have : (l.getD i en0).data.size = (l.getD i en0).data.data.toList.length := by simp
      omega
    · rintro e w' ⟨rfl, h4, h5⟩
      refine ⟨rfl, Own, ⟨h1, ?_, ?_⟩, ⟨h5.size, fun b hb hn => h5.block b hb (fun e => hn ((h1 b).2 (by have := Option.some.inj e; omega))), fun b h => .inl h⟩⟩
      · rw [h4, List.any_append]; simp
      · exact ⟨h5.os.trans h3.os, h5.tape.trans h3.tape, h5.output.trans h3.output, Nat.le_trans h3.size h5.size, fun b hb => (h5.block b (Nat.lt_of_lt_of_le hb h3.size) (fun e => by have := Option.some.inj e; omega)).trans (h3.block b hb)⟩
theorem any_walk (l : List En) (ht : Tree l) : (walkP l 6 []).any (fun i => escP (l.getD i en0)) = l.any escP := by
  rw [Bool.eq_iff_iff, List.any_eq_true, List.any_eq_true]
  constructor
  · rintro ⟨i, hi, h⟩
    have hl := (walk_all l ht i).1 hi
    rw [en_getD l i hl] at h
    exact ⟨_, List.getElem_mem hl, h⟩
  · rintro ⟨e, he, h⟩
    obtain ⟨i, hi, rfl⟩ := List.getElem_of_mem he
    exact ⟨i, (walk_all l ht i).2 hi, by rw [en_getD l i hi]; exact h⟩
set_option maxHeartbeats 1000000 in
theorem anyLeads_any (l : List En) (ht : Tree l) (hf : TFit l) (a : Option Addr) (c : Nat) (w : World) (hi : LiesE w a l) (hg : GlobOk w) :
    Calls Tryz.prog 25 #[.slice a l.length c] w fun e w' => e = .returned (.bool (l.any escP)) ∧ Below w.heap.size w w' := by
  have hmf : ∀ (fn : Fn) (first cap : Array Value) (w : World), (Instr.makeFunc fn first cap).run Tryz.prog w = .ok (.func fn first cap) w := fun _ _ _ _ => rfl
  have hbA : Below w.heap.size w (w.alloc (.cells #[.bool false] 4)) := (Below.refl _ _).alloc (Nat.le_refl _) _
  have hwalk := walk_any l ht hf a c 41 #[ptr w.heap.size] (IL l w) (visitL l ht hf w hg) (w.alloc (.cells #[.bool false] 4)) (hi.below hbA (Nat.le_refl _)) (fun b => b ≤ w.heap.size) ⟨fun _ => Iff.rfl, heap_alloc_new w _, hbA⟩
  rw [← any_walk l ht]
  unfold ptr at hwalk
  go_enter Tryz.func25, Tryz.ntmps25
  go_wp2_with fail
  refine hwalk.mono ?_
  rintro e w1 ⟨rfl, Own', ⟨_, h2, h3⟩, _⟩
  have c0 := cell_of_block (j := 0) h2
  simp only [List.getElem?_toArray, List.getElem?_cons_zero] at c0
  generalize hB : (walkP l 6 []).any (fun i => escP (l.getD i en0)) = B at *
  have HB := hide hB
  clear hwalk h2 hB
  go_wp2_with fail
  go_ret
  exact ⟨ret_bool (unhide HB).symm, h3⟩
end Go.Proofs.YtbfjbohdiemofaaGreatDoor
