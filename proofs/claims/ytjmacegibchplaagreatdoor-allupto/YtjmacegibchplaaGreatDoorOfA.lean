import Derived.Test.YtjmacegibchplaaGreatDoorTWf
import Derived.Test.YtjmacegibchplaaGreatDoorTextB
import Derived.Laws.BytesArg
namespace Go.Proofs.YtjmacegibchplaaGreatDoor
open Go.RowKit
set_option linter.unusedVariables false
theorem heap_set0 {w : World} {b : Nat} {u : Value} {t : TypeId} (v : Value) (h : w.heap[b]? = some (.cells #[u] t (0, 0))) : (w.setCell ⟨b, 0, none⟩ v).heap[b]? = some (.cells #[v] t (0, 0)) := by
 rw [heap_setCell_same w b 0 #[u] t v h]; simp
set_option maxRecDepth 100000 in
set_option maxHeartbeats 2000000 in
theorem leadsOut1 (x : En) (w : World) (bo : Nat) (bv : Bool) (hbo : w.heap[bo]? = some (.cells #[.bool bv] 4 (0, 0))) (hg : GlobOk w) (hp : x.path.size ≤ 1100000) (hs : (sp x.path.data.toList).length ≤ 5) (hd : x.kind = 3 → x.data.size ≤ 1100000) :
  Calls Tryz.prog 101 #[entV x, ptr bo] w fun e w' => e = .returned (.tuple #[]) ∧ w'.heap[bo]? = some (.cells #[.bool (bv || escP x)] 4 (0, 0)) ∧ w.grownBy w' (some bo) := by
 obtain ⟨pa, kd, dt⟩ := x
 obtain ⟨p, rfl⟩ : ∃ p, pa = bs p := ⟨pa.data.toList, (bs_of pa).symm⟩
 obtain ⟨d, rfl⟩ : ∃ d, dt = bs d := ⟨dt.data.toList, (bs_of dt).symm⟩
 unfold entV ptr escP
 simp only [bs_data, bs_size] at hp hs hd ⊢
 have hlo : bo < w.heap.size := (Array.getElem?_eq_some_iff.1 hbo).1
 have hbA : Below w.heap.size w (w.alloc (.cells #[.string (bs p), .int .i64 kd, .string (bs d)] 32)) := (Below.refl _ _).alloc (Nat.le_refl _) _
 by_cases h3 : kd = 3
 ·subst h3
  have hg1 := hg.below hbA (Nat.le_refl _)
  have hlead := leads_any p d _ hg1 hp (by omega) (hd rfl)
  rw [show ((3 : Int) == 3) = true from rfl, Bool.true_and]
  generalize hob : outP (((sp p).length : Int) - 1) d = ob at *
  have Hlead := hide hlead
  clear hlead hob hg1
  have e0 := cell_of_block (j := 0) (heap_alloc_new w (.cells #[.string (bs p), .int .i64 3, .string (bs d)] 32))
  go_enter Tryz.func101, Tryz.ntmps101
  go_wp2_with fail
  refine (unhide Hlead).mono ?_
  rintro e w2 ⟨rfl, hb2⟩
  clear Hlead
  all_goals
   have hbo2 := (hb2.block bo (Nat.lt_of_lt_of_le hlo hbA.size)).trans ((Below.heap_alloc w _ bo hlo).trans hbo)
   have cbo := cell_of_block (j := 0) hbo2
   have fbo := free_block (j := 0) hbo2
   simp only [List.getElem?_toArray, List.getElem?_cons_zero] at cbo
   have hb3 : Below w.heap.size w w2 := hbA.trans (hb2.mono hbA.size)
   have Hbo := hide hbo2
   have Hb3 := hide hb3
   clear hbo2 hb3 hb2
   cases ob
   ·go_wp2_with fail
    go_end0
    exact ⟨rfl, by rw [Bool.or_false]; exact unhide Hbo, ⟨(unhide Hb3).os, (unhide Hb3).tape, (unhide Hb3).output, (unhide Hb3).size, fun b h _ => (unhide Hb3).block b h⟩⟩
   ·go_wp2_with fail
    go_end0
    exact ⟨rfl, by rw [Bool.or_true]; exact heap_set0 _ (unhide Hbo), ⟨(unhide Hb3).os, (unhide Hb3).tape, (unhide Hb3).output, by simp [(unhide Hb3).size], fun b h hne => (Below.heap_setCell _ _ _ _ (fun e => hne (by rw [e]))).trans ((unhide Hb3).block b h)⟩⟩
 ·have b3 : (kd == 3) = false := by simpa using h3
  rw [b3, Bool.false_and, Bool.or_false]
  clear h3
  go_enter Tryz.func101, Tryz.ntmps101
  go_wp2_with fail
  go_end0
  exact ⟨rfl, (Below.heap_alloc w _ bo hlo).trans hbo, ⟨rfl, rfl, rfl, by simp, fun b h _ => Below.heap_alloc w _ b h⟩⟩
def IL (l : List En) (w0 : World) (Own : Nat → Prop) (done : List Nat) (w : World) : Prop :=
 (∀ b, Own b ↔ b ≤ w0.heap.size) ∧ w.heap[w0.heap.size]? = some (.cells #[.bool (done.any (fun i => escP (l.getD i en0)))] 4 (0, 0)) ∧ Below w0.heap.size w0 w
theorem visitL (l : List En) (ht : Tree l) (hf : TFit l) (w0 : World) (hg : GlobOk w0) : Visitor l 101 #[ptr w0.heap.size] (IL l w0) where
 enters := enters_of Tryz.func101 (by kernel_rfl) rfl
 lt := by
  rintro Own done w ⟨h1, h2, h3⟩ b hb
  have := (h1 b).1 hb
  have := (Array.getElem?_eq_some_iff.1 h2).1
  omega
 stable := by
  rintro Own done w w' ⟨h1, h2, h3⟩ hk
  exact ⟨h1, (hk.block _ ((h1 _).2 (Nat.le_refl _))).trans h2, ⟨hk.os.trans h3.os, hk.tape.trans h3.tape, hk.output.trans h3.output, Nat.le_trans h3.size hk.size, fun b hb => (hk.block b ((h1 b).2 (by omega))).trans (h3.block b hb)⟩⟩
 visit := by
  rintro Own done i w hi _ ⟨h1, h2, h3⟩ _
  have hfi := hf i hi
  have hfn := ht.fine i hi
  have hk3 := fineP_link l i hi hfn
  have hdp := fineP_deep l i hi hfn
  rw [← en_getD l i hi] at hfi hk3 hdp
  refine (leadsOut1 (l.getD i en0) w w0.heap.size _ h2 (hg.below h3 (Nat.le_refl _)) hfi.1 hdp (fun h => ?_)).mono ?_
  ·have := hk3 h
   simp only [P.isTarget, Bool.and_eq_true, decide_eq_true_eq] at this
   have h2 := this.1.2
   simp at h2
   have : (l.getD i en0).data.size = (l.getD i en0).data.data.toList.length := by simp
   omega
  ·rintro e w' ⟨rfl, h4, h5⟩
   refine ⟨rfl, Own, ⟨h1, ?_, ?_⟩, ⟨h5.size, fun b hb hn => h5.block b hb (fun e => hn ((h1 b).2 (by have := Option.some.inj e; omega))), fun b h => .inl h⟩⟩
   ·rw [h4, List.any_append]; simp
   ·exact ⟨h5.os.trans h3.os, h5.tape.trans h3.tape, h5.output.trans h3.output, Nat.le_trans h3.size h5.size, fun b hb => (h5.block b (Nat.lt_of_lt_of_le hb h3.size) (fun e => by have := Option.some.inj e; omega)).trans (h3.block b hb)⟩
theorem any_walk (l : List En) (ht : Tree l) : (walkP l 6 []).any (fun i => escP (l.getD i en0)) = l.any escP := by
 rw [Bool.eq_iff_iff, List.any_eq_true, List.any_eq_true]
 constructor
 ·rintro ⟨i, hi, h⟩
  have hl := (walk_all l ht i).1 hi
  rw [en_getD l i hl] at h
  exact ⟨_, List.getElem_mem hl, h⟩
 ·rintro ⟨e, he, h⟩
  obtain ⟨i, hi, rfl⟩ := List.getElem_of_mem he
  exact ⟨i, (walk_all l ht i).2 hi, by rw [en_getD l i hi]; exact h⟩
set_option maxHeartbeats 1000000 in
theorem anyLeads_any (l : List En) (ht : Tree l) (hf : TFit l) (a : Option Addr) (c : Nat) (w : World) (hi : LiesE w a l) (hg : GlobOk w) :
  Calls Tryz.prog 63 #[.slice a l.length c] w fun e w' => e = .returned (.bool (l.any escP)) ∧ Below w.heap.size w w' := by
 have hmf : ∀ (fn : Fn) (first cap : Array Value) (w : World), (Instr.makeFunc fn first cap).run Tryz.prog w = .ok (.func fn first cap) w := fun _ _ _ _ => rfl
 have hbA : Below w.heap.size w (w.alloc (.cells #[.bool false] 4)) := (Below.refl _ _).alloc (Nat.le_refl _) _
 have hwalk := walk_any l ht hf a c 101 #[ptr w.heap.size] (IL l w) (visitL l ht hf w hg) (w.alloc (.cells #[.bool false] 4)) (hi.below hbA (Nat.le_refl _)) (fun b => b ≤ w.heap.size) ⟨fun _ => Iff.rfl, heap_alloc_new w _, hbA⟩
 rw [← any_walk l ht]
 unfold ptr at hwalk
 go_enter Tryz.func63, Tryz.ntmps63
 go_wp2_with fail
 refine hwalk.mono ?_
 rintro e w1 ⟨rfl, Own', ⟨_, h2, h3⟩, _⟩
 have c0 := cell_of_block (j := 0) h2
 simp only [List.getElem?_toArray, List.getElem?_cons_zero] at c0
 generalize hB : (walkP l 6 []).any (fun i => escP (l.getD i en0)) = B at *
 have HB := hide hB
 clear hwalk h2 hB
 go_wp2_with fail
 go_ret
 exact ⟨ret_bool (unhide HB).symm, h3⟩
set_option maxRecDepth 100000 in
theorem cloneLite2 (l : List UInt8) (w : World) (hl : l.length ≤ 10000000) :
  Calls Tryz.prog 105 #[.string (bs l)] w fun e w' => e = .returned (.string (bs l)) ∧ Below w.heap.size w w' := by
 cases l with
 | nil =>
  go_enter Tryz.func105, Tryz.ntmps105
  go_wp2
  go_ret
  exact ⟨rfl, Below.refl _ _⟩
 | cons x r =>
  generalize hL : x :: r = L at *
  have hne : L ≠ [] := by rw [← hL]; simp
  have hpos : 0 < L.length := by rw [← hL]; simp
  clear hL
  have hsz := bs_size L
  obtain ⟨i0, hi, hz0, hz1, hz2⟩ := info_parts info_u8
  have hinfo : (Tryz.prog.info? 5).map (·.size) = some 1 := by rw [hi]; simp [hz1]
  obtain ⟨M, hMs, hmk⟩ : ∃ M : Array Value, M.size = L.length ∧ ∀ W : World, (Instr.makeSlice 102 (.int .i64 (L.length : Int)) (.int .i64 (L.length : Int))).run Tryz.prog W = .ok (.slice (some ⟨W.heap.size, 0, none⟩) L.length L.length) (W.alloc (.cells M 5)) := by
   refine ⟨madeCells (Value.int .u8 0).cells (((L.length : Nat) : Int).toNat * i0.size), by rw [size_madeCells, hz1]; simp, fun W => ?_⟩
   have h := run_make (P := Tryz.prog) W 102 5 i0 (.int .u8 0) Tryz.underlying102 hi hz0 .i64 .i64 (L.length : Int) (L.length : Int) (by omega) (by omega) (by rw [hz2]; omega) (by omega)
   simpa using h
  have hcp := Lib.run_copy_row_string (P := Tryz.prog) (w.alloc (.cells M 5)) 102 9 3 5 w.heap.size 0 L.length L.length (bs L) M 5 Tryz.underlying102 hinfo (heap_alloc_new w _) (by rw [hsz]; exact Nat.le_refl _) (by rw [hsz]; omega)
  obtain ⟨Y, hY⟩ : ∃ Y, Y = (M.toList.take 0 ++ Lib.byteCells (bs L).data.toList ++ M.toList.drop (0 + (bs L).size)).toArray := ⟨_, rfl⟩
  rw [← hY] at hcp
  have hYl : Y.toList = Lib.byteCells L := by
   rw [hY, bs_data, hsz]
   simp
   omega
  have hYs : Y.size = L.length := by rw [← Array.length_toList, hYl, Lib.byteCells_length]
  have hgY : ((w.alloc (.cells M 5)).setRow w.heap.size Y).heap[w.heap.size]? = some (.cells Y 5 (0, 0)) := setRow_heap _ _ M _ 5 (0, 0) (heap_alloc_new w _)
  have hUS := Lib.run_unsafeString_row (P := Tryz.prog) ((w.alloc (.cells M 5)).setRow w.heap.size Y) 197 3 9 5 Tryz.underlying197 cells_u8 w.heap.size Y.size (by unfold World.shape?; rw [hgY]) L hne (by omega) (by omega)
   (fun j y hy => Lib.cells_of_row hgY Y.size j _ (by rw [List.take_of_length_le (by rw [Array.length_toList]; exact Nat.le_refl _), hYl]; simp [Lib.byteCells, hy]))
  clear hY
  have hb1 : Below w.heap.size w (w.alloc (.cells M 5)) := (Below.refl _ w).alloc (Nat.le_refl _) _
  have hb2 : Below w.heap.size (w.alloc (.cells M 5)) ((w.alloc (.cells M 5)).setRow w.heap.size Y) := ⟨rfl, rfl, rfl, by simp, fun k hk => setRow_other _ _ _ _ (by omega)⟩
  have hb3 := Lib.below_freeze (hb1.trans hb2) (p := ⟨w.heap.size, 0, none⟩) (Nat.le_refl _) L.length
  rw [hsz] at hcp
  generalize (w.alloc (.cells M 5)).setRow w.heap.size Y = W2 at *
  have hb : ((L.length : Int) == 0) = false := by simp; omega
  have hlt : (0 : Int) < (L.length : Int) := by omega
  change Calls Tryz.prog 105 #[.string (bs L)] w fun e w' => e = .returned (.string (bs L)) ∧ Below w.heap.size w w'
  go_enter Tryz.func105, Tryz.ntmps105
  go_wp2
  go_ret
  exact ⟨rfl, hb3⟩
theorem clone3 (l : List UInt8) (w : World) (hl : l.length ≤ 10000000) :
  Calls Tryz.prog 66 #[.string (bs l)] w fun e w' => e = .returned (.string (bs l)) ∧ Below w.heap.size w w' := by
 go_enter Tryz.func66, Tryz.ntmps66
 go_wp2_with fail
 refine (cloneLite2 l w hl).mono ?_
 rintro e w' ⟨rfl, hb⟩
 go_wp2_with fail
 go_ret
 exact ⟨rfl, hb⟩
theorem clone2 (l : List UInt8) (w : World) (hl : l.length ≤ 100000) :
  Calls Tryz.prog 66 #[.string (bs l)] w fun e w' => e = .returned (.string (bs l)) ∧ Below w.heap.size w w' := clone3 l w (by omega)
end Go.Proofs.YtjmacegibchplaaGreatDoor
namespace Go.Proofs.YtjmacegibchplaaGreatDoor
open Go.RowKit
theorem conv_three (w : World) (x y z : Int) :
  (convert 102 9 (.slice (some ⟨w.heap.size, 0, none⟩) 3 3)).run Tryz.prog ((w.alloc (.cells #[.int .u8 x, .int .u8 y, .int .u8 z] 5)).drew) = .ok (.string (strOfNums [x, y, z])) ((w.alloc (.cells #[.int .u8 x, .int .u8 y, .int .u8 z] 5)).drew) := by
 refine run_convert_bytes_arg _ 102 5 Tryz.underlying102 Tryz.underlying5 _ 0 3 3 [x, y, z] rfl ?_ 9 Tryz.underlying9
 intro i hi
 match i, hi with
 | 0, _ => simp
 | 1, _ => simp
 | 2, _ => simp
theorem hex16 : ∀ i : Fin 16, P.hexb.data.toList[i.val]? = some (P.hexd.getD i.val 0) := by decide
theorem hex_at (a : Int) (h0 : 0 ≤ a) (h1 : a < 16) (hp : a.toNat < P.hexb.size) : P.hexb[a.toNat] = P.hex a := by
 have h := hex16 ⟨a.toNat, by omega⟩
 have h2 := (List.getElem?_eq_some_iff.1 h).2
 exact h2
theorem nums_three (x y z : UInt8) : strOfNums [(x.toNat : Int), (y.toNat : Int), (z.toNat : Int)] = ⟨#[x, y, z]⟩ := by simp [strOfNums]
set_option maxHeartbeats 400000 in
theorem textDigest_any (s : ByteArray) (w : World) (hs : s.size ≤ maxLen) :
  Calls Tryz.prog 51 #[.string s] w fun e w' => e = .returned (.string ⟨(P.digest s.data.toList).toArray⟩) ∧ Below w.heap.size w w' := by
 unfold maxLen at hs
 go_enter Tryz.func51, Tryz.ntmps51
 go_wp2
 go_loop [3, 7] (fun n i => ∃ k : Nat, k ≤ s.size ∧ i = .int .i64 k ∧ n = .int .i64 (P.dnum (s.data.toList.take k))) (fun _ i => s.size - (intOf i).toNat)
 case atStart => exact ⟨0, Nat.zero_le _, rfl, rfl⟩
 case round =>
  obtain ⟨k, hk, rfl, rfl⟩ := hrel
  have hd := P.dnum_bd (s.data.toList.take k)
  by_cases hlt : k < s.size
  ·have hb : (s[k].toNat : Int) ≤ 255 := by have := s[k].toNat_lt; omega
   have HS := hide (P.dnum_next s k hlt)
   go_wp2
   go_round
   case rel => exact ⟨k + 1, by omega, by go_num, by rw [unhide HS]; go_num⟩
   case measure => simp [intOf]; omega
  ·obtain rfl : k = s.size := by omega
   rw [List.take_of_length_le (by simp)] at hd ⊢
   generalize hn : P.dnum s.data.toList = n at *
   have Hn := hide hn
   clear hn
   have d1 : 0 ≤ n / 256 := by omega
   have e1 : n / 256 < 16 := by omega
   have d2 : 0 ≤ n / 16 % 16 := by omega
   have e2 : n / 16 % 16 < 16 := by omega
   have d3 : 0 ≤ n % 16 := by omega
   have e3 : n % 16 < 16 := by omega
   have hcv := conv_three w
   go_wp2
   go_region
   go_wp2
   go_ret
   refine ⟨ret_string ?_, ((Below.refl _ _).alloc (Nat.le_refl _) _).drew⟩
   rw [P.digest, unhide Hn]
   have f1 := hex_at (n / 256) d1 e1 (by show _ < 16; omega)
   have f2 := hex_at (n / 16 % 16) d2 e2 (by show _ < 16; omega)
   have f3 := hex_at (n % 16) d3 e3 (by show _ < 16; omega)
   refine (nums_three _ _ _).trans ?_
   unfold P.hexb at f1 f2 f3
   rw [f1, f2, f3]
   rfl
end Go.Proofs.YtjmacegibchplaaGreatDoor
namespace Go.Proofs.YtjmacegibchplaaGreatDoor
open Go.RowKit
set_option linter.unusedVariables false
structure Fr (S : Nat → Prop) (w w' : World) : Prop where
 os : w'.os = w.os
 tape : w'.tape = w.tape
 output : w'.output = w.output
 size : w.heap.size ≤ w'.heap.size
 block : ∀ b, b < w.heap.size → ¬ S b → w'.heap[b]? = w.heap[b]?
theorem Fr.trans {S : Nat → Prop} {a b c : World} (h : Fr S a b) (k : Fr S b c) : Fr S a c :=
 ⟨k.os.trans h.os, k.tape.trans h.tape, k.output.trans h.output, Nat.le_trans h.size k.size, fun x hx hn => (k.block x (Nat.lt_of_lt_of_le hx h.size) hn).trans (h.block x hx hn)⟩
theorem Fr.below {S : Nat → Prop} {a b : World} (h : Below a.heap.size a b) : Fr S a b := ⟨h.os, h.tape, h.output, h.size, fun x hx _ => h.block x hx⟩
theorem Fr.grown {S : Nat → Prop} {a b : World} {row : Option Nat} (h : a.grownBy b row) (hr : ∀ g, row = some g → S g) : Fr S a b := ⟨h.os, h.tape, h.output, h.size, fun x hx hn => h.block x hx (fun e => hn (hr x e.symm))⟩
theorem Fr.mono {S T : Nat → Prop} {a b : World} (h : Fr S a b) (hs : ∀ x, S x → T x) : Fr T a b := ⟨h.os, h.tape, h.output, h.size, fun x hx hn => h.block x hx (fun e => hn (hs x e))⟩
theorem Fr.set {S : Nat → Prop} (w : World) (b j : Nat) (v : Value) (h : S b) : Fr S w (w.setCell ⟨b, j, none⟩ v) := ⟨rfl, rfl, rfl, by simp, fun x _ hn => Below.heap_setCell w _ _ x (fun e => hn (by rw [e]; exact h))⟩
def blobV (b : List UInt8) : Value := .agg #[.string (bs b)]
def lastR (kr : List (List UInt8)) (d : List UInt8) : Option (List UInt8) := kr.find? (fun b => P.digest b == d)
def blobsF (kr : List (List UInt8)) : List UInt8 → Option Value := fun d => (lastR kr d).map blobV
def clashR : List (List UInt8) → Bool
 | [] => false
 | x :: r => clashR r || (match lastR r (P.digest x) with | some y => !(y == x) | none => false)
theorem blobsF_cons (kr : List (List UInt8)) (x : List UInt8) : updF (blobsF kr) (P.digest x) (blobV x) = blobsF (x :: kr) := by
 funext d
 unfold updF blobsF lastR
 by_cases h : d = P.digest x
 ·rw [if_pos h, h]; simp
 ·rw [if_neg h, List.find?_cons_of_neg (by simpa using fun e => h e.symm)]
theorem lastR_some {kr : List (List UInt8)} {d y : List UInt8} (h : lastR kr d = some y) : y ∈ kr ∧ P.digest y = d := by
 unfold lastR at h
 exact ⟨List.mem_of_find?_eq_some h, by have := List.find?_some h; simpa using this⟩
theorem lastR_none {kr : List (List UInt8)} {d : List UInt8} (h : lastR kr d = none) : ∀ y ∈ kr, P.digest y ≠ d := by
 unfold lastR at h
 rw [List.find?_eq_none] at h
 intro y hy e
 exact h y hy (by simpa using e)
theorem clashR_false : ∀ (kr : List (List UInt8)), clashR kr = false → ∀ x ∈ kr, ∀ y ∈ kr, P.digest x = P.digest y → x = y
 | [], _ => by simp
 | z :: r, h => by
  simp only [clashR, Bool.or_eq_false_iff] at h
  have ih := clashR_false r h.1
  have key : ∀ y ∈ r, P.digest y = P.digest z → y = z := by
   intro y hy e
   cases hl : lastR r (P.digest z) with
   | none => exact absurd e (lastR_none hl y hy)
   | some u =>
    have h2 := h.2
    rw [hl] at h2
    have huz : u = z := by simpa using h2
    obtain ⟨hu, hue⟩ := lastR_some hl
    rw [← huz]
    exact ih y hy u hu (by rw [e, hue])
  intro x hx y hy e
  rcases List.mem_cons.1 hx with hx | hx
  ·rcases List.mem_cons.1 hy with hy | hy
   ·rw [hx, hy]
   ·rw [hx] at e ⊢; exact (key y hy e.symm).symm
  ·rcases List.mem_cons.1 hy with hy | hy
   ·rw [hy] at e ⊢; exact key x hx e
   ·exact ih x hx y hy e
theorem clashR_true : ∀ (kr : List (List UInt8)), clashR kr = true → ∃ x ∈ kr, ∃ y ∈ kr, P.digest x = P.digest y ∧ x ≠ y
 | [], h => by simp [clashR] at h
 | z :: r, h => by
  simp only [clashR, Bool.or_eq_true] at h
  rcases h with h | h
  ·obtain ⟨x, hx, y, hy, e⟩ := clashR_true r h
   exact ⟨x, by simp [hx], y, by simp [hy], e⟩
  ·cases hl : lastR r (P.digest z) with
   | none => rw [hl] at h; simp at h
   | some u =>
    rw [hl] at h
    obtain ⟨hu, hue⟩ := lastR_some hl
    exact ⟨u, by simp [hu], z, by simp, hue, by simpa using h⟩
structure KeepIs (w : World) (bu bc um n : Nat) (kr : List (List UInt8)) : Prop where
 u : w.heap[bu]? = some (.cells #[.map (some um)] 75 (0, 0))
 c : w.heap[bc]? = some (.cells #[.bool (clashR kr)] 4 (0, 0))
 m : MapIs w um n (blobsF kr)
theorem KeepIs.same {w w' : World} {bu bc um n : Nat} {kr : List (List UInt8)} (h : KeepIs w bu bc um n kr) (hs : ∀ b, b = bu ∨ b = bc ∨ b = um → w'.heap[b]? = w.heap[b]?) : KeepIs w' bu bc um n kr :=
 ⟨(hs bu (.inl rfl)).trans h.u, (hs bc (.inr (.inl rfl))).trans h.c, h.m.same (hs um (.inr (.inr rfl)))⟩
theorem KeepIs.lt {w : World} {bu bc um n : Nat} {kr : List (List UInt8)} (h : KeepIs w bu bc um n kr) : ∀ b, b = bu ∨ b = bc ∨ b = um → b < w.heap.size := by
 rintro b (rfl | rfl | rfl)
 ·exact (Array.getElem?_eq_some_iff.1 h.u).1
 ·exact (Array.getElem?_eq_some_iff.1 h.c).1
 ·exact h.m.lt
theorem map_ne_cells {w : World} {b m n t : Nat} {cur : Array Value} {F : List UInt8 → Option Value} (h : MapIs w m n F) (hb : w.heap[b]? = some (.cells cur t (0, 0))) : b ≠ m := by
 obtain ⟨D, ⟨es, clock, hm, _⟩, _⟩ := h
 intro e
 subst e
 rw [hm] at hb; simp at hb
theorem under40 : Tryz.prog.underlying 75 = some (.map 9 107) := by kernel_rfl
theorem zero_blob (w : World) : (zeroValue 107).run Tryz.prog w = .ok (.agg #[.string ⟨#[]⟩]) w := by kernel_rfl
theorem digest_len (B : List UInt8) : (P.digest B).length = 3 := rfl
set_option maxRecDepth 100000 in
set_option maxHeartbeats 2000000 in
theorem keep_any (B : List UInt8) (kr : List (List UInt8)) (w : World) (bu bc um n : Nat) (h : KeepIs w bu bc um n kr) (hB : B.length ≤ 100000) (hn : n < maxLen) :
  Calls Tryz.prog 65 #[.string (bs B), ptr bu, ptr bc] w fun e w' => e = .returned (.string (bs (P.digest B))) ∧ KeepIs w' bu bc um (n + 1) (B :: kr) ∧ Fr (fun b => b = bc ∨ b = um) w w' := by
 have hdig := textDigest_any (bs B) w (by rw [bs_size]; unfold maxLen; omega)
 rw [bs_data] at hdig
 change Calls Tryz.prog 51 #[.string (bs B)] w fun e w' => e = .returned (.string (bs (P.digest B))) ∧ Below w.heap.size w w' at hdig
 have hcl := fun w' => clone2 B w' hB
 have hdl : (P.digest B).length ≤ maxLen := by rw [digest_len]; decide
 have hFc := blobsF_cons kr B
 have hcr : clashR (B :: kr) = (clashR kr || (match lastR kr (P.digest B) with | some y => !(y == B) | none => false)) := rfl
 have hbf : blobsF kr (P.digest B) = (lastR kr (P.digest B)).map blobV := rfl
 generalize P.digest B = D at *
 unfold ptr
 go_enter Tryz.func65, Tryz.ntmps65
 go_wp2_with fail
 refine hdig.mono ?_
 rintro e w1 ⟨rfl, hb1⟩
 have h1 : KeepIs w1 bu bc um n kr := h.same (fun b hb => hb1.block b (h.lt b hb))
 have hF1 : Fr (fun b => b = bc ∨ b = um) w w1 := Fr.below hb1
 clear hb1 hdig h
 have cu := cell_of_block (j := 0) h1.u
 have cc := cell_of_block (j := 0) h1.c
 have fc := free_block (j := 0) h1.c
 simp only [List.getElem?_toArray, List.getElem?_cons_zero] at cu cc
 have hbuc : bu ≠ bc := fun e => by
  have a := h1.u
  have b := h1.c
  rw [e, b] at a
  simp at a
 have HFc := hide hFc
 clear hFc
 cases hlr : lastR kr D with
 | none =>
  rw [hlr] at hcr hbf
  have hce : clashR kr = clashR (B :: kr) := by rw [hcr, Bool.or_false]
  have hok : clashR (B :: kr) = clashR kr := hce.symm
  have hWu : (w1.alloc (.cells #[.string ⟨#[]⟩] 107)).heap[bu]? = some (.cells #[.map (some um)] 75 (0, 0)) := (Below.heap_alloc w1 _ _ (h1.lt bu (.inl rfl))).trans h1.u
  have hWc : (w1.alloc (.cells #[.string ⟨#[]⟩] 107)).heap[bc]? = some (.cells #[.bool (clashR (B :: kr))] 4 (0, 0)) := by rw [← hce]; exact (Below.heap_alloc w1 _ _ (h1.lt bc (.inr (.inl rfl)))).trans h1.c
  have hmW : MapIs (w1.alloc (.cells #[.string ⟨#[]⟩] 107)) um n (blobsF kr) := h1.m.alloc _
  have hFW : Fr (fun b => b = bc ∨ b = um) w (w1.alloc (.cells #[.string ⟨#[]⟩] 107)) := hF1.trans (Fr.below ((Below.refl _ _).alloc (Nat.le_refl _) _))
  have hlu : bu < (w1.alloc (.cells #[.string ⟨#[]⟩] 107)).heap.size := (Array.getElem?_eq_some_iff.1 hWu).1
  have hlc : bc < (w1.alloc (.cells #[.string ⟨#[]⟩] 107)).heap.size := (Array.getElem?_eq_some_iff.1 hWc).1
  have hlm : um < (w1.alloc (.cells #[.string ⟨#[]⟩] 107)).heap.size := hmW.lt
  have hnu := map_ne_cells hmW hWu
  have hnc := map_ne_cells hmW hWc
  have ck := cell_of_block (j := 0) hWu
  simp only [List.getElem?_toArray, List.getElem?_cons_zero] at ck
  have HW := hide (And.intro hWu (And.intro hWc hFW))
  clear hWu hWc hFW
  clear hcr hce hok hlr
  go_wp2_with (at_lookup; refine wp_look_ok rfl _ _ 75 rfl 107 under40 (.agg #[.string ⟨#[]⟩]) (zero_blob _) um n (blobsF kr) rfl h1.m D rfl hdl ?_; rw [hbf]; simp only [Option.map_none, Option.getD_none, Option.isSome_none])
  go_region_held3 (fun w' => w'.cell? ⟨bu, 0, none⟩ = some (.map (some um)))
   ((first | assumption | go_keep))
   ((go_at_call 66; refine (hcl _).mono ?_; rintro e w4 ⟨rfl, hb4⟩; have s4 := ((bcell hb4).1 bu 0 (by simpa using hlu)).trans ck; obtain ⟨w5, hrun5, hm5, hg5⟩ := MapIs.store (MapIs.same (w' := w4) hmW (hb4.block um hlm)) 75 107 under40 hn D hdl (.agg #[.string (bs B)]); have s5 := cell_grown hg5 s4 (by simpa using hnu)))
  all_goals go_wp2_with fail
  all_goals go_ret
  all_goals
   have hk4 : w4.heap[bu]? = some (.cells #[.map (some um)] 75 (0, 0)) := (hb4.block bu hlu).trans (unhide HW).1
   have hc4 := (hb4.block bc hlc).trans (unhide HW).2.1
   refine ⟨rfl, ⟨(hg5.block bu (Nat.lt_of_lt_of_le hlu hb4.size) (by simpa using hnu)).trans hk4, (hg5.block bc (Nat.lt_of_lt_of_le hlc hb4.size) (by simpa using hnc)).trans hc4, by rw [← unhide HFc]; exact hm5⟩, ?_⟩
   exact (unhide HW).2.2.trans (Fr.trans (b := w4) ⟨hb4.os, hb4.tape, hb4.output, hb4.size, fun x hx _ => hb4.block x hx⟩ (Fr.grown hg5 (fun g hg => by cases hg; exact Or.inr rfl)))
 | some y =>
  rw [hlr] at hcr hbf
  have s1 := str_eq2 y B
  by_cases hyB : y = B
  ·subst hyB
   have hce : clashR kr = clashR (y :: kr) := by rw [hcr]; simp
   have s1' : ((bs y).toList != (bs y).toList) = false := by simp
   have hWu : (w1.alloc (.cells #[.string (bs y)] 107)).heap[bu]? = some (.cells #[.map (some um)] 75 (0, 0)) := (Below.heap_alloc w1 _ _ (h1.lt bu (.inl rfl))).trans h1.u
   have hWc : (w1.alloc (.cells #[.string (bs y)] 107)).heap[bc]? = some (.cells #[.bool (clashR (y :: kr))] 4 (0, 0)) := by rw [← hce]; exact (Below.heap_alloc w1 _ _ (h1.lt bc (.inr (.inl rfl)))).trans h1.c
   have hmW : MapIs (w1.alloc (.cells #[.string (bs y)] 107)) um n (blobsF kr) := h1.m.alloc _
   have hFW : Fr (fun b => b = bc ∨ b = um) w (w1.alloc (.cells #[.string (bs y)] 107)) := hF1.trans (Fr.below ((Below.refl _ _).alloc (Nat.le_refl _) _))
   have hlu : bu < (w1.alloc (.cells #[.string (bs y)] 107)).heap.size := (Array.getElem?_eq_some_iff.1 hWu).1
   have hlc : bc < (w1.alloc (.cells #[.string (bs y)] 107)).heap.size := (Array.getElem?_eq_some_iff.1 hWc).1
   have hlm : um < (w1.alloc (.cells #[.string (bs y)] 107)).heap.size := hmW.lt
   have hnu := map_ne_cells hmW hWu
   have hnc := map_ne_cells hmW hWc
   have ck := cell_of_block (j := 0) hWu
   simp only [List.getElem?_toArray, List.getElem?_cons_zero] at ck
   have HW := hide (And.intro hWu (And.intro hWc hFW))
   clear hWu hWc hFW
   clear hcr hce hlr s1
   go_wp2_with (at_lookup; refine wp_look_ok rfl _ _ 75 rfl 107 under40 (.agg #[.string ⟨#[]⟩]) (zero_blob _) um n (blobsF kr) rfl h1.m D rfl hdl ?_; rw [hbf]; simp only [Option.map_some, Option.getD_some, Option.isSome_some, blobV])
   go_region_held3 (fun w' => w'.cell? ⟨bu, 0, none⟩ = some (.map (some um)))
    ((first | assumption | go_keep))
    ((go_at_call 66; refine (hcl _).mono ?_; rintro e w4 ⟨rfl, hb4⟩; have s4 := ((bcell hb4).1 bu 0 (by simpa using hlu)).trans ck; obtain ⟨w5, hrun5, hm5, hg5⟩ := MapIs.store (MapIs.same (w' := w4) hmW (hb4.block um hlm)) 75 107 under40 hn D hdl (.agg #[.string (bs y)]); have s5 := cell_grown hg5 s4 (by simpa using hnu)))
   all_goals go_wp2_with fail
   all_goals go_ret
   all_goals
    have hk4 : w4.heap[bu]? = some (.cells #[.map (some um)] 75 (0, 0)) := (hb4.block bu hlu).trans (unhide HW).1
    have hc4 := (hb4.block bc hlc).trans (unhide HW).2.1
    refine ⟨rfl, ⟨(hg5.block bu (Nat.lt_of_lt_of_le hlu hb4.size) (by simpa using hnu)).trans hk4, (hg5.block bc (Nat.lt_of_lt_of_le hlc hb4.size) (by simpa using hnc)).trans hc4, by rw [← unhide HFc]; exact hm5⟩, ?_⟩
    exact (unhide HW).2.2.trans (Fr.trans (b := w4) ⟨hb4.os, hb4.tape, hb4.output, hb4.size, fun x hx _ => hb4.block x hx⟩ (Fr.grown hg5 (fun g hg => by cases hg; exact Or.inr rfl)))
  ·have s1' : ((bs y).toList == (bs B).toList) = false := by rw [s1]; simpa using hyB
   have s1'' : ((bs y).toList != (bs B).toList) = true := by rw [bne, s1']; rfl
   have hce : clashR (B :: kr) = true := by rw [hcr]; simp [hyB]
   have HCe := hide hce
   have hA := (Below.heap_alloc w1 (.cells #[.string (bs y)] 107) _ (h1.lt bc (.inr (.inl rfl)))).trans h1.c
   have ccA := cell_of_block (j := 0) hA
   have fcA := free_block (j := 0) hA
   simp only [List.getElem?_toArray, List.getElem?_cons_zero] at ccA
   have hlb := h1.lt bc (.inr (.inl rfl))
   have hWu : ((w1.setCell ⟨bc, 0, none⟩ (.bool true)).alloc (.cells #[.string (bs y)] 107)).heap[bu]? = some (.cells #[.map (some um)] 75 (0, 0)) := (Below.heap_alloc _ _ _ (by simpa using h1.lt bu (.inl rfl))).trans ((Below.heap_setCell _ _ _ _ (by simpa using hbuc)).trans h1.u)
   have hWc : ((w1.setCell ⟨bc, 0, none⟩ (.bool true)).alloc (.cells #[.string (bs y)] 107)).heap[bc]? = some (.cells #[.bool true] 4 (0, 0)) := (Below.heap_alloc _ _ _ (by simpa using h1.lt bc (.inr (.inl rfl)))).trans (heap_set0 _ h1.c)
   have hmW : MapIs ((w1.setCell ⟨bc, 0, none⟩ (.bool true)).alloc (.cells #[.string (bs y)] 107)) um n (blobsF kr) := (h1.m.same (Below.heap_setCell _ _ _ _ (fun e => map_ne_cells h1.m h1.c e.symm))).alloc _
   have hFW : Fr (fun b => b = bc ∨ b = um) w ((w1.setCell ⟨bc, 0, none⟩ (.bool true)).alloc (.cells #[.string (bs y)] 107)) := (hF1.trans (Fr.set _ _ _ _ (Or.inl rfl))).trans (Fr.below ((Below.refl _ _).alloc (Nat.le_refl _) _))
   have hlu : bu < ((w1.setCell ⟨bc, 0, none⟩ (.bool true)).alloc (.cells #[.string (bs y)] 107)).heap.size := (Array.getElem?_eq_some_iff.1 hWu).1
   have hlc : bc < ((w1.setCell ⟨bc, 0, none⟩ (.bool true)).alloc (.cells #[.string (bs y)] 107)).heap.size := (Array.getElem?_eq_some_iff.1 hWc).1
   have hlm : um < ((w1.setCell ⟨bc, 0, none⟩ (.bool true)).alloc (.cells #[.string (bs y)] 107)).heap.size := hmW.lt
   have hnu := map_ne_cells hmW hWu
   have hnc := map_ne_cells hmW hWc
   have ck := cell_of_block (j := 0) hWu
   simp only [List.getElem?_toArray, List.getElem?_cons_zero] at ck
   have HW := hide (And.intro hWu (And.intro hWc hFW))
   clear hWu hWc hFW
   clear hcr hlr s1 hyB hce
   go_wp2_with (at_lookup; refine wp_look_ok rfl _ _ 75 rfl 107 under40 (.agg #[.string ⟨#[]⟩]) (zero_blob _) um n (blobsF kr) rfl h1.m D rfl hdl ?_; rw [hbf]; simp only [Option.map_some, Option.getD_some, Option.isSome_some, blobV])
   go_region_held3 (fun w' => w'.cell? ⟨bu, 0, none⟩ = some (.map (some um)))
    ((first | assumption | go_keep))
    ((go_at_call 66; refine (hcl _).mono ?_; rintro e w4 ⟨rfl, hb4⟩; have s4 := ((bcell hb4).1 bu 0 (by simpa using hlu)).trans ck; obtain ⟨w5, hrun5, hm5, hg5⟩ := MapIs.store (MapIs.same (w' := w4) hmW (hb4.block um hlm)) 75 107 under40 hn D hdl (.agg #[.string (bs B)]); have s5 := cell_grown hg5 s4 (by simpa using hnu)))
   all_goals go_wp2_with fail
   all_goals go_ret
   all_goals
    have hk4 : w4.heap[bu]? = some (.cells #[.map (some um)] 75 (0, 0)) := (hb4.block bu hlu).trans (unhide HW).1
    have hc4 := (hb4.block bc hlc).trans (unhide HW).2.1
    refine ⟨rfl, ⟨(hg5.block bu (Nat.lt_of_lt_of_le hlu hb4.size) (by simpa using hnu)).trans hk4, (hg5.block bc (Nat.lt_of_lt_of_le hlc hb4.size) (by simpa using hnc)).trans (by rw [unhide HCe]; exact hc4), by rw [← unhide HFc]; exact hm5⟩, ?_⟩
    exact (unhide HW).2.2.trans (Fr.trans (b := w4) ⟨hb4.os, hb4.tape, hb4.output, hb4.size, fun x hx _ => hb4.block x hx⟩ (Fr.grown hg5 (fun g hg => by cases hg; exact Or.inr rfl)))
end Go.Proofs.YtjmacegibchplaaGreatDoor