import Derived.Test.YtjmacegibchplaaGreatDoorTWf
import Derived.Test.YtjmacegibchplaaGreatDoorTextB
import Derived.Laws.BytesArg
/-
  The program's AnyLeadsOut: whether a link of a tree leads out.
-/
namespace Go.Proofs.YtjmacegibchplaaGreatDoor
open Go.RowKit
set_option linter.unusedVariables false
theorem heap_set0 {w : World} {b : Nat} {u : Value} {t : TypeId} (v : Value) (h : w.heap[b]? = some (.cells #[u] t (0, 0))) : (w.setCell ⟨b, 0, none⟩ v).heap[b]? = some (.cells #[v] t (0, 0)) := by
  rw [heap_setCell_same w b 0 #[u] t v h]; simp
set_option maxRecDepth 100000 in
set_option maxHeartbeats 2000000 in
theorem leadsOut1 (x : En) (w : World) (bo : Nat) (bv : Bool) (hbo : w.heap[bo]? = some (.cells #[.bool bv] 4 (0, 0))) (hg : GlobOk w) (hp : x.path.size ≤ 1100000) (hs : (sp x.path.data.toList).length ≤ 5) (hd : x.kind = 3 → x.data.size ≤ 1100000) :
    Calls Tryz.prog 101 #[entV x, ptr bo] w fun e w' => e = .returned (.tuple #[]) ∧ w'.heap[bo]? = some (.cells #[.bool (bv || escP x)] 4 (0, 0)) ∧ w.grownBy w' (some bo) := by
  obtain ⟨pa, kd, dt⟩ := x
  obtain ⟨p, rfl⟩ : ∃ p, pa = bs p := ⟨pa.data.toList, (bs_of pa).symm⟩
  obtain ⟨d, rfl⟩ : ∃ d, dt = bs d := ⟨dt.data.toList, (bs_of dt).symm⟩
  unfold entV ptr escP
  simp only [bs_data, bs_size] at hp hs hd ⊢
  have hlo : bo < w.heap.size := (Array.getElem?_eq_some_iff.1 hbo).1
  have hbA : Below w.heap.size w (w.alloc (.cells #[.string (bs p), .int .i64 kd, .string (bs d)] 32)) := (Below.refl _ _).alloc (Nat.le_refl _) _
  by_cases h3 : kd = 3
  · subst h3
    have hg1 := hg.below hbA (Nat.le_refl _)
    have hlead := leads_any p d _ hg1 hp (by omega) (hd rfl)
    rw [show ((3 : Int) == 3) = true from rfl, Bool.true_and]
    generalize hob : outP (((sp p).length : Int) - 1) d = ob at *
    have Hlead := hide hlead
    clear hlead hob hg1
    have e0 := cell_of_block (j := 0) (heap_alloc_new w (.cells #[.string (bs p), .int .i64 3, .string (bs d)] 32))
    go_enter Tryz.func101, Tryz.ntmps101
    go_wp2_with fail
    refine (unhide Hlead).mono ?_
    rintro e w2 ⟨rfl, hb2⟩
    clear Hlead
    all_goals
      have hbo2 := (hb2.block bo (Nat.lt_of_lt_of_le hlo hbA.size)).trans ((Below.heap_alloc w _ bo hlo).trans hbo)
      have cbo := cell_of_block (j := 0) hbo2
      have fbo := free_block (j := 0) hbo2
      simp only [List.getElem?_toArray, List.getElem?_cons_zero] at cbo
      have hb3 : Below w.heap.size w w2 := hbA.trans (hb2.mono hbA.size)
      have Hbo := hide hbo2
      have Hb3 := hide hb3
      clear hbo2 hb3 hb2
      cases ob
      · go_wp2_with fail
        go_end0
        exact ⟨rfl, by rw [Bool.or_false]; exact unhide Hbo, ⟨(unhide Hb3).os, (unhide Hb3).tape, (unhide Hb3).output, (unhide Hb3).size, fun b h _ => (unhide Hb3).block b h⟩⟩
      · go_wp2_with fail
        go_end0
        exact ⟨rfl, by rw [Bool.or_true]; exact heap_set0 _ (unhide Hbo), ⟨(unhide Hb3).os, (unhide Hb3).tape, (unhide Hb3).output, by simp [(unhide Hb3).size], fun b h hne => (Below.heap_setCell _ _ _ _ (fun e => hne (by rw [e]))).trans ((unhide Hb3).block b h)⟩⟩
  · have b3 : (kd == 3) = false := by simpa using h3
    rw [b3, Bool.false_and, Bool.or_false]
    clear h3
    go_enter Tryz.func101, Tryz.ntmps101
    go_wp2_with fail
    go_end0
    exact ⟨rfl, (Below.heap_alloc w _ bo hlo).trans hbo, ⟨rfl, rfl, rfl, by simp, fun b h _ => Below.heap_alloc w _ b h⟩⟩
def IL (l : List En) (w0 : World) (Own : Nat → Prop) (done : List Nat) (w : World) : Prop :=
  (∀ b, Own b ↔ b ≤ w0.heap.size) ∧ w.heap[w0.heap.size]? = some (.cells #[.bool (done.any (fun i => escP (l.getD i en0)))] 4 (0, 0)) ∧ Below w0.heap.size w0 w
theorem visitL (l : List En) (ht : Tree l) (hf : TFit l) (w0 : World) (hg : GlobOk w0) : Visitor l 101 #[ptr w0.heap.size] (IL l w0) where
  enters := enters_of Tryz.func101 (by kernel_rfl) rfl
  lt := by
    rintro Own done w ⟨h1, h2, h3⟩ b hb
    have := (h1 b).1 hb
    have := (Array.getElem?_eq_some_iff.1 h2).1
    omega
  stable := by
    rintro Own done w w' ⟨h1, h2, h3⟩ hk
    exact ⟨h1, (hk.block _ ((h1 _).2 (Nat.le_refl _))).trans h2, ⟨hk.os.trans h3.os, hk.tape.trans h3.tape, hk.output.trans h3.output, Nat.le_trans h3.size hk.size, fun b hb => (hk.block b ((h1 b).2 (by omega))).trans (h3.block b hb)⟩⟩
  visit := by
    rintro Own done i w hi _ ⟨h1, h2, h3⟩ _
    have hfi := hf i hi
    have hfn := ht.fine i hi
    have hk3 := fineP_link l i hi hfn
    have hdp := fineP_deep l i hi hfn
    rw [← en_getD l i hi] at hfi hk3 hdp
    refine (leadsOut1 (l.getD i en0) w w0.heap.size _ h2 (hg.below h3 (Nat.le_refl _)) hfi.1 hdp (fun h => ?_)).mono ?_
    · have := hk3 h
      simp only [P.isTarget, Bool.and_eq_true, decide_eq_true_eq] at this
      have h2 := this.1.2
      simp at h2
      have : (l.getD i en0).data.size = (l.getD i en0).data.data.toList.length := by simp
      omega
    · rintro e w' ⟨rfl, h4, h5⟩
      refine ⟨rfl, Own, ⟨h1, ?_, ?_⟩, ⟨h5.size, fun b hb hn => h5.block b hb (fun e => hn ((h1 b).2 (by have := Option.some.inj e; omega))), fun b h => .inl h⟩⟩
      · rw [h4, List.any_append]; simp
      · exact ⟨h5.os.trans h3.os, h5.tape.trans h3.tape, h5.output.trans h3.output, Nat.le_trans h3.size h5.size, fun b hb => (h5.block b (Nat.lt_of_lt_of_le hb h3.size) (fun e => by have := Option.some.inj e; omega)).trans (h3.block b hb)⟩
theorem any_walk (l : List En) (ht : Tree l) : (walkP l 6 []).any (fun i => escP (l.getD i en0)) = l.any escP := by
  rw [Bool.eq_iff_iff, List.any_eq_true, List.any_eq_true]
  constructor
  · rintro ⟨i, hi, h⟩
    have hl := (walk_all l ht i).1 hi
    rw [en_getD l i hl] at h
    exact ⟨_, List.getElem_mem hl, h⟩
  · rintro ⟨e, he, h⟩
    obtain ⟨i, hi, rfl⟩ := List.getElem_of_mem he
    exact ⟨i, (walk_all l ht i).2 hi, by rw [en_getD l i hi]; exact h⟩
set_option maxHeartbeats 1000000 in
theorem anyLeads_any (l : List En) (ht : Tree l) (hf : TFit l) (a : Option Addr) (c : Nat) (w : World) (hi : LiesE w a l) (hg : GlobOk w) :
    Calls Tryz.prog 63 #[.slice a l.length c] w fun e w' => e = .returned (.bool (l.any escP)) ∧ Below w.heap.size w w' := by
  have hmf : ∀ (fn : Fn) (first cap : Array Value) (w : World), (Instr.makeFunc fn first cap).run Tryz.prog w = .ok (.func fn first cap) w := fun _ _ _ _ => rfl
  have hbA : Below w.heap.size w (w.alloc (.cells #[.bool false] 4)) := (Below.refl _ _).alloc (Nat.le_refl _) _
  have hwalk := walk_any l ht hf a c 101 #[ptr w.heap.size] (IL l w) (visitL l ht hf w hg) (w.alloc (.cells #[.bool false] 4)) (hi.below hbA (Nat.le_refl _)) (fun b => b ≤ w.heap.size) ⟨fun _ => Iff.rfl, heap_alloc_new w _, hbA⟩
  rw [← any_walk l ht]
  unfold ptr at hwalk
  go_enter Tryz.func63, Tryz.ntmps63
  go_wp2_with fail
  refine hwalk.mono ?_
  rintro e w1 ⟨rfl, Own', ⟨_, h2, h3⟩, _⟩
  have c0 := cell_of_block (j := 0) h2
  simp only [List.getElem?_toArray, List.getElem?_cons_zero] at c0
  generalize hB : (walkP l 6 []).any (fun i => escP (l.getD i en0)) = B at *
  have HB := hide hB
  clear hwalk h2 hB
  go_wp2_with fail
  go_ret
  exact ⟨ret_bool (unhide HB).symm, h3⟩
end Go.Proofs.YtjmacegibchplaaGreatDoor

/-
  strings.Clone at blobs: its contract.
-/
namespace Go.Proofs.YtjmacegibchplaaGreatDoor
open Go.RowKit
set_option linter.unusedVariables false
set_option maxRecDepth 100000 in
theorem cloneLite2 (l : List UInt8) (w : World) (hl : l.length ≤ 10000000) :
    Calls Tryz.prog 105 #[.string (bs l)] w fun e w' => e = .returned (.string (bs l)) ∧ Below w.heap.size w w' := by
  cases l with
  | nil =>
    go_enter Tryz.func105, Tryz.ntmps105
    go_wp2
    go_ret
    exact ⟨rfl, Below.refl _ _⟩
  | cons x r =>
    generalize hL : x :: r = L at *
    have hne : L ≠ [] := by rw [← hL]; simp
    have hpos : 0 < L.length := by rw [← hL]; simp
    clear hL
    have hsz := bs_size L
    obtain ⟨i0, hi, hz0, hz1, hz2⟩ := info_parts info_u8
    have hinfo : (Tryz.prog.info? 5).map (·.size) = some 1 := by rw [hi]; simp [hz1]
    obtain ⟨M, hMs, hmk⟩ : ∃ M : Array Value, M.size = L.length ∧ ∀ W : World, (Instr.makeSlice 102 (.int .i64 (L.length : Int)) (.int .i64 (L.length : Int))).run Tryz.prog W = .ok (.slice (some ⟨W.heap.size, 0, none⟩) L.length L.length) (W.alloc (.cells M 5)) := by
      refine ⟨madeCells (Value.int .u8 0).cells (((L.length : Nat) : Int).toNat * i0.size), by rw [size_madeCells, hz1]; simp, fun W => ?_⟩
      have h := run_make (P := Tryz.prog) W 102 5 i0 (.int .u8 0) Tryz.underlying102 hi hz0 .i64 .i64 (L.length : Int) (L.length : Int) (by omega) (by omega) (by rw [hz2]; omega) (by omega)
      simpa using h
    have hcp := Lib.run_copy_row_string (P := Tryz.prog) (w.alloc (.cells M 5)) 102 9 3 5 w.heap.size 0 L.length L.length (bs L) M 5 Tryz.underlying102 hinfo (heap_alloc_new w _) (by rw [hsz]; exact Nat.le_refl _) (by rw [hsz]; omega)
    obtain ⟨Y, hY⟩ : ∃ Y, Y = (M.toList.take 0 ++ Lib.byteCells (bs L).data.toList ++ M.toList.drop (0 + (bs L).size)).toArray := ⟨_, rfl⟩
    rw [← hY] at hcp
    have hYl : Y.toList = Lib.byteCells L := by
      rw [hY, bs_data, hsz]
      simp
      omega
    have hYs : Y.size = L.length := by rw [← Array.length_toList, hYl, Lib.byteCells_length]
    have hgY : ((w.alloc (.cells M 5)).setRow w.heap.size Y).heap[w.heap.size]? = some (.cells Y 5 (0, 0)) := setRow_heap _ _ M _ 5 (0, 0) (heap_alloc_new w _)
    have hUS := Lib.run_unsafeString_row (P := Tryz.prog) ((w.alloc (.cells M 5)).setRow w.heap.size Y) 197 3 9 5 Tryz.underlying197 cells_u8 w.heap.size Y.size (by unfold World.shape?; rw [hgY]) L hne (by omega) (by omega)
      (fun j y hy => Lib.cells_of_row hgY Y.size j _ (by rw [List.take_of_length_le (by rw [Array.length_toList]; exact Nat.le_refl _), hYl]; simp [Lib.byteCells, hy]))
    clear hY
    have hb1 : Below w.heap.size w (w.alloc (.cells M 5)) := (Below.refl _ w).alloc (Nat.le_refl _) _
    have hb2 : Below w.heap.size (w.alloc (.cells M 5)) ((w.alloc (.cells M 5)).setRow w.heap.size Y) := ⟨rfl, rfl, rfl, by simp, fun k hk => setRow_other _ _ _ _ (by omega)⟩
    have hb3 := Lib.below_freeze (hb1.trans hb2) (p := ⟨w.heap.size, 0, none⟩) (Nat.le_refl _) L.length
    rw [hsz] at hcp
    generalize (w.alloc (.cells M 5)).setRow w.heap.size Y = W2 at *
    have hb : ((L.length : Int) == 0) = false := by simp; omega
    have hlt : (0 : Int) < (L.length : Int) := by omega
    change Calls Tryz.prog 105 #[.string (bs L)] w fun e w' => e = .returned (.string (bs L)) ∧ Below w.heap.size w w'
    go_enter Tryz.func105, Tryz.ntmps105
    go_wp2
    go_ret
    exact ⟨rfl, hb3⟩
theorem clone3 (l : List UInt8) (w : World) (hl : l.length ≤ 10000000) :
    Calls Tryz.prog 66 #[.string (bs l)] w fun e w' => e = .returned (.string (bs l)) ∧ Below w.heap.size w w' := by
  go_enter Tryz.func66, Tryz.ntmps66
  go_wp2_with fail
  refine (cloneLite2 l w hl).mono ?_
  rintro e w' ⟨rfl, hb⟩
  go_wp2_with fail
  go_ret
  exact ⟨rfl, hb⟩
theorem clone2 (l : List UInt8) (w : World) (hl : l.length ≤ 100000) :
    Calls Tryz.prog 66 #[.string (bs l)] w fun e w' => e = .returned (.string (bs l)) ∧ Below w.heap.size w w' := clone3 l w (by omega)
end Go.Proofs.YtjmacegibchplaaGreatDoor

/-
  The program's digest: its contract.
-/
namespace Go.Proofs.YtjmacegibchplaaGreatDoor
open Go.RowKit
theorem conv_three (w : World) (x y z : Int) :
    (convert 102 9 (.slice (some ⟨w.heap.size, 0, none⟩) 3 3)).run Tryz.prog ((w.alloc (.cells #[.int .u8 x, .int .u8 y, .int .u8 z] 5)).drew) = .ok (.string (strOfNums [x, y, z])) ((w.alloc (.cells #[.int .u8 x, .int .u8 y, .int .u8 z] 5)).drew) := by
  refine run_convert_bytes_arg _ 102 5 Tryz.underlying102 Tryz.underlying5 _ 0 3 3 [x, y, z] rfl ?_ 9 Tryz.underlying9
  intro i hi
  match i, hi with
  | 0, _ => simp
  | 1, _ => simp
  | 2, _ => simp
theorem hex16 : ∀ i : Fin 16, P.hexb.data.toList[i.val]? = some (P.hexd.getD i.val 0) := by decide
theorem hex_at (a : Int) (h0 : 0 ≤ a) (h1 : a < 16) (hp : a.toNat < P.hexb.size) : P.hexb[a.toNat] = P.hex a := by
  have h := hex16 ⟨a.toNat, by omega⟩
  have h2 := (List.getElem?_eq_some_iff.1 h).2
  exact h2
theorem nums_three (x y z : UInt8) : strOfNums [(x.toNat : Int), (y.toNat : Int), (z.toNat : Int)] = ⟨#[x, y, z]⟩ := by simp [strOfNums]
set_option maxHeartbeats 400000 in
theorem textDigest_any (s : ByteArray) (w : World) (hs : s.size ≤ maxLen) :
    Calls Tryz.prog 51 #[.string s] w fun e w' => e = .returned (.string ⟨(P.digest s.data.toList).toArray⟩) ∧ Below w.heap.size w w' := by
  unfold maxLen at hs
  go_enter Tryz.func51, Tryz.ntmps51
  go_wp2
  go_loop [3, 7] (fun n i => ∃ k : Nat, k ≤ s.size ∧ i = .int .i64 k ∧ n = .int .i64 (P.dnum (s.data.toList.take k))) (fun _ i => s.size - (intOf i).toNat)
  case atStart => exact ⟨0, Nat.zero_le _, rfl, rfl⟩
  case round =>
    obtain ⟨k, hk, rfl, rfl⟩ := hrel
    have hd := P.dnum_bd (s.data.toList.take k)
    by_cases hlt : k < s.size
    · have hb : (s[k].toNat : Int) ≤ 255 := by have := s[k].toNat_lt; omega
      have HS := hide (P.dnum_next s k hlt)
      go_wp2
      go_round
      case rel => exact ⟨k + 1, by omega, by go_num, by rw [unhide HS]; go_num⟩
      case measure => simp [intOf]; omega
    · obtain rfl : k = s.size := by omega
      rw [List.take_of_length_le (by simp)] at hd ⊢
      generalize hn : P.dnum s.data.toList = n at *
      have Hn := hide hn
      clear hn
      have d1 : 0 ≤ n / 256 := by omega
      have e1 : n / 256 < 16 := by omega
      have d2 : 0 ≤ n / 16 % 16 := by omega
      have e2 : n / 16 % 16 < 16 := by omega
      have d3 : 0 ≤ n % 16 := by omega
      have e3 : n % 16 < 16 := by omega
      have hcv := conv_three w
      go_wp2
      go_region
      go_wp2
      go_ret
      refine ⟨ret_string ?_, ((Below.refl _ _).alloc (Nat.le_refl _) _).drew⟩
      rw [P.digest, unhide Hn]
      have f1 := hex_at (n / 256) d1 e1 (by show _ < 16; omega)
      have f2 := hex_at (n / 16 % 16) d2 e2 (by show _ < 16; omega)
      have f3 := hex_at (n % 16) d3 e3 (by show _ < 16; omega)
      refine (nums_three _ _ _).trans ?_
      unfold P.hexb at f1 f2 f3
      rw [f1, f2, f3]
      rfl
end Go.Proofs.YtjmacegibchplaaGreatDoor
