import Derived.Test.YtjmacegibchplaaGreatDoorTWg
import Derived.Test.YtjmacegibchplaaGreatDoorKit
import Derived.Test.YtjmacegibchplaaGreatDoorPlain
import Derived.Laws.BytesArg
/-
  strings.Clone at blobs: its contract.
-/
namespace Go.Proofs.YtjmacegibchplaaGreatDoor
open Go.RowKit
set_option linter.unusedVariables false

set_option maxRecDepth 100000 in
theorem cloneLite2 (l : List UInt8) (w : World) (hl : l.length ≤ 10000000) :
    Calls Tryz.prog 105 #[.string (bs l)] w fun e w' => e = .returned (.string (bs l)) ∧ Below w.heap.size w w' := by
  cases l with
  | nil =>
    go_enter Tryz.func105, Tryz.ntmps105
    go_wp2
    go_ret
    exact ⟨rfl, Below.refl _ _⟩
  | cons x r =>
    generalize hL : x :: r = L at *
    have hne : L ≠ [] := by rw [← hL]; simp
    have hpos : 0 < L.length := by rw [← hL]; simp
    clear hL
    have hsz := bs_size L
    obtain ⟨i0, hi, hz0, hz1, hz2⟩ := info_parts info_u8
    have hinfo : (Tryz.prog.info? 5).map (·.size) = some 1 := by rw [hi]; simp [hz1]
    obtain ⟨M, hMs, hmk⟩ : ∃ M : Array Value, M.size = L.length ∧ ∀ W : World, (Instr.makeSlice 102 (.int .i64 (L.length : Int)) (.int .i64 (L.length : Int))).run Tryz.prog W = .ok (.slice (some ⟨W.heap.size, 0, none⟩) L.length L.length) (W.alloc (.cells M 5)) := by
      refine ⟨madeCells (Value.int .u8 0).cells (((L.length : Nat) : Int).toNat * i0.size), by rw [size_madeCells, hz1]; simp, fun W => ?_⟩
      have h := run_make (P := Tryz.prog) W 102 5 i0 (.int .u8 0) Tryz.underlying102 hi hz0 .i64 .i64 (L.length : Int) (L.length : Int) (by omega) (by omega) (by rw [hz2]; omega) (by omega)
      simpa using h
    have hcp := Lib.run_copy_row_string (P := Tryz.prog) (w.alloc (.cells M 5)) 102 9 3 5 w.heap.size 0 L.length L.length (bs L) M 5 Tryz.underlying102 hinfo (heap_alloc_new w _) (by rw [hsz]; exact Nat.le_refl _) (by rw [hsz]; omega)
    obtain ⟨Y, hY⟩ : ∃ Y, Y = (M.toList.take 0 ++ Lib.byteCells (bs L).data.toList ++ M.toList.drop (0 + (bs L).size)).toArray := ⟨_, rfl⟩
    rw [← hY] at hcp
    have hYl : Y.toList = Lib.byteCells L := by
      rw [hY, bs_data, hsz]
      simp
      omega
    have hYs : Y.size = L.length := by rw [← Array.length_toList, hYl, Lib.byteCells_length]
    have hgY : ((w.alloc (.cells M 5)).setRow w.heap.size Y).heap[w.heap.size]? = some (.cells Y 5 (0, 0)) := setRow_heap _ _ M _ 5 (0, 0) (heap_alloc_new w _)
    have hUS := Lib.run_unsafeString_row (P := Tryz.prog) ((w.alloc (.cells M 5)).setRow w.heap.size Y) 197 3 9 5 Tryz.underlying197 cells_u8 w.heap.size Y.size (by unfold World.shape?; rw [hgY]) L hne (by omega) (by omega)
      (fun j y hy => Lib.cells_of_row hgY Y.size j _ (by rw [List.take_of_length_le (by rw [Array.length_toList]; exact Nat.le_refl _), hYl]; simp [Lib.byteCells, hy]))
    clear hY
    have hb1 : Below w.heap.size w (w.alloc (.cells M 5)) := (Below.refl _ w).alloc (Nat.le_refl _) _
    have hb2 : Below w.heap.size (w.alloc (.cells M 5)) ((w.alloc (.cells M 5)).setRow w.heap.size Y) := ⟨rfl, rfl, rfl, by simp, fun k hk => setRow_other _ _ _ _ (by omega)⟩
    have hb3 := Lib.below_freeze (hb1.trans hb2) (p := ⟨w.heap.size, 0, none⟩) (Nat.le_refl _) L.length
    rw [hsz] at hcp
    generalize (w.alloc (.cells M 5)).setRow w.heap.size Y = W2 at *
    have hb : ((L.length : Int) == 0) = false := by simp; omega
    have hlt : (0 : Int) < (L.length : Int) := by omega
    change Calls Tryz.prog 105 #[.string (bs L)] w fun e w' => e = .returned (.string (bs L)) ∧ Below w.heap.size w w'
    go_enter Tryz.func105, Tryz.ntmps105
    go_wp2
    go_ret
    exact ⟨rfl, hb3⟩
theorem clone3 (l : List UInt8) (w : World) (hl : l.length ≤ 10000000) :
    Calls Tryz.prog 66 #[.string (bs l)] w fun e w' => e = .returned (.string (bs l)) ∧ Below w.heap.size w w' := by
  go_enter Tryz.func66, Tryz.ntmps66
  go_wp2_with fail
  refine (cloneLite2 l w hl).mono ?_
  rintro e w' ⟨rfl, hb⟩
  go_wp2_with fail
  go_ret
  exact ⟨rfl, hb⟩
theorem clone2 (l : List UInt8) (w : World) (hl : l.length ≤ 100000) :
    Calls Tryz.prog 66 #[.string (bs l)] w fun e w' => e = .returned (.string (bs l)) ∧ Below w.heap.size w w' := clone3 l w (by omega)

end Go.Proofs.YtjmacegibchplaaGreatDoor

/-
  The program's digest: its contract.
-/
namespace Go.Proofs.YtjmacegibchplaaGreatDoor
open Go.RowKit

theorem conv_three (w : World) (x y z : Int) :
    (convert 102 9 (.slice (some ⟨w.heap.size, 0, none⟩) 3 3)).run Tryz.prog ((w.alloc (.cells #[.int .u8 x, .int .u8 y, .int .u8 z] 5)).drew) = .ok (.string (strOfNums [x, y, z])) ((w.alloc (.cells #[.int .u8 x, .int .u8 y, .int .u8 z] 5)).drew) := by
  refine run_convert_bytes_arg _ 102 5 Tryz.underlying102 Tryz.underlying5 _ 0 3 3 [x, y, z] rfl ?_ 9 Tryz.underlying9
  intro i hi
  match i, hi with
  | 0, _ => simp
  | 1, _ => simp
  | 2, _ => simp
theorem hex16 : ∀ i : Fin 16, P.hexb.data.toList[i.val]? = some (P.hexd.getD i.val 0) := by decide
theorem hex_at (a : Int) (h0 : 0 ≤ a) (h1 : a < 16) (hp : a.toNat < P.hexb.size) : P.hexb[a.toNat] = P.hex a := by
  have h := hex16 ⟨a.toNat, by omega⟩
  have h2 := (List.getElem?_eq_some_iff.1 h).2
  exact h2
theorem nums_three (x y z : UInt8) : strOfNums [(x.toNat : Int), (y.toNat : Int), (z.toNat : Int)] = ⟨#[x, y, z]⟩ := by simp [strOfNums]
set_option maxHeartbeats 400000 in
theorem textDigest_any (s : ByteArray) (w : World) (hs : s.size ≤ maxLen) :
    Calls Tryz.prog 51 #[.string s] w fun e w' => e = .returned (.string ⟨(P.digest s.data.toList).toArray⟩) ∧ Below w.heap.size w w' := by
  unfold maxLen at hs
  go_enter Tryz.func51, Tryz.ntmps51
  go_wp2
  go_loop [3, 7] (fun n i => ∃ k : Nat, k ≤ s.size ∧ i = .int .i64 k ∧ n = .int .i64 (P.dnum (s.data.toList.take k))) (fun _ i => s.size - (intOf i).toNat)
  case atStart => exact ⟨0, Nat.zero_le _, rfl, rfl⟩
  case round =>
    obtain ⟨k, hk, rfl, rfl⟩ := hrel
    have hd := P.dnum_bd (s.data.toList.take k)
    by_cases hlt : k < s.size
    · have hb : (s[k].toNat : Int) ≤ 255 := by have := s[k].toNat_lt; omega
      have HS := hide (P.dnum_next s k hlt)
      go_wp2
      go_round
      case rel => exact ⟨k + 1, by omega, by go_num, by rw [unhide HS]; go_num⟩
      case measure => simp [intOf]; omega
    · obtain rfl : k = s.size := by omega
      rw [List.take_of_length_le (by simp)] at hd ⊢
      generalize hn : P.dnum s.data.toList = n at *
      have Hn := hide hn
      clear hn
      have d1 : 0 ≤ n / 256 := by omega
      have e1 : n / 256 < 16 := by omega
      have d2 : 0 ≤ n / 16 % 16 := by omega
      have e2 : n / 16 % 16 < 16 := by omega
      have d3 : 0 ≤ n % 16 := by omega
      have e3 : n % 16 < 16 := by omega
      have hcv := conv_three w
      go_wp2
      go_region
      go_wp2
      go_ret
      refine ⟨ret_string ?_, ((Below.refl _ _).alloc (Nat.le_refl _) _).drew⟩
      rw [P.digest, unhide Hn]
      have f1 := hex_at (n / 256) d1 e1 (by show _ < 16; omega)
      have f2 := hex_at (n / 16 % 16) d2 e2 (by show _ < 16; omega)
      have f3 := hex_at (n % 16) d3 e3 (by show _ < 16; omega)
      refine (nums_three _ _ _).trans ?_
      unfold P.hexb at f1 f2 f3
      rw [f1, f2, f3]
      rfl
end Go.Proofs.YtjmacegibchplaaGreatDoor

/-
  The program's set of blobs: how one is kept (the closure of Of).
-/
namespace Go.Proofs.YtjmacegibchplaaGreatDoor
open Go.RowKit
set_option linter.unusedVariables false

/-- all but the blocks S stand -/
structure Fr (S : Nat → Prop) (w w' : World) : Prop where
  os : w'.os = w.os
  tape : w'.tape = w.tape
  output : w'.output = w.output
  size : w.heap.size ≤ w'.heap.size
  block : ∀ b, b < w.heap.size → ¬ S b → w'.heap[b]? = w.heap[b]?
theorem Fr.trans {S : Nat → Prop} {a b c : World} (h : Fr S a b) (k : Fr S b c) : Fr S a c :=
  ⟨k.os.trans h.os, k.tape.trans h.tape, k.output.trans h.output, Nat.le_trans h.size k.size, fun x hx hn => (k.block x (Nat.lt_of_lt_of_le hx h.size) hn).trans (h.block x hx hn)⟩
theorem Fr.below {S : Nat → Prop} {a b : World} (h : Below a.heap.size a b) : Fr S a b := ⟨h.os, h.tape, h.output, h.size, fun x hx _ => h.block x hx⟩
theorem Fr.grown {S : Nat → Prop} {a b : World} {row : Option Nat} (h : a.grownBy b row) (hr : ∀ g, row = some g → S g) : Fr S a b := ⟨h.os, h.tape, h.output, h.size, fun x hx hn => h.block x hx (fun e => hn (hr x e.symm))⟩
theorem Fr.mono {S T : Nat → Prop} {a b : World} (h : Fr S a b) (hs : ∀ x, S x → T x) : Fr T a b := ⟨h.os, h.tape, h.output, h.size, fun x hx hn => h.block x hx (fun e => hn (hs x e))⟩
theorem Fr.set {S : Nat → Prop} (w : World) (b j : Nat) (v : Value) (h : S b) : Fr S w (w.setCell ⟨b, j, none⟩ v) := ⟨rfl, rfl, rfl, by simp, fun x _ hn => Below.heap_setCell w _ _ x (fun e => hn (by rw [e]; exact h))⟩
def blobV (b : List UInt8) : Value := .agg #[.string (bs b)]
/-- what is kept, the latest first -/
def lastR (kr : List (List UInt8)) (d : List UInt8) : Option (List UInt8) := kr.find? (fun b => P.digest b == d)
def blobsF (kr : List (List UInt8)) : List UInt8 → Option Value := fun d => (lastR kr d).map blobV
def clashR : List (List UInt8) → Bool
  | [] => false
  | x :: r => clashR r || (match lastR r (P.digest x) with | some y => !(y == x) | none => false)
theorem blobsF_cons (kr : List (List UInt8)) (x : List UInt8) : updF (blobsF kr) (P.digest x) (blobV x) = blobsF (x :: kr) := by
  funext d
  unfold updF blobsF lastR
  by_cases h : d = P.digest x
  · rw [if_pos h, h]; simp
  · rw [if_neg h, List.find?_cons_of_neg (by simpa using fun e => h e.symm)]
theorem lastR_some {kr : List (List UInt8)} {d y : List UInt8} (h : lastR kr d = some y) : y ∈ kr ∧ P.digest y = d := by
  unfold lastR at h
  exact ⟨List.mem_of_find?_eq_some h, by have := List.find?_some h; simpa using this⟩
theorem lastR_none {kr : List (List UInt8)} {d : List UInt8} (h : lastR kr d = none) : ∀ y ∈ kr, P.digest y ≠ d := by
  unfold lastR at h
  rw [List.find?_eq_none] at h
  intro y hy e
  exact h y hy (by simpa using e)
theorem clashR_false : ∀ (kr : List (List UInt8)), clashR kr = false → ∀ x ∈ kr, ∀ y ∈ kr, P.digest x = P.digest y → x = y
  | [], _ => by simp
  | z :: r, h => by
    simp only [clashR, Bool.or_eq_false_iff] at h
    have ih := clashR_false r h.1
    have key : ∀ y ∈ r, P.digest y = P.digest z → y = z := by
      intro y hy e
      cases hl : lastR r (P.digest z) with
      | none => exact absurd e (lastR_none hl y hy)
      | some u =>
        have h2 := h.2
        rw [hl] at h2
        have huz : u = z := by simpa using h2
        obtain ⟨hu, hue⟩ := lastR_some hl
        rw [← huz]
        exact ih y hy u hu (by rw [e, hue])
    intro x hx y hy e
    rcases List.mem_cons.1 hx with hx | hx
    · rcases List.mem_cons.1 hy with hy | hy
      · rw [hx, hy]
      · rw [hx] at e ⊢; exact (key y hy e.symm).symm
    · rcases List.mem_cons.1 hy with hy | hy
      · rw [hy] at e ⊢; exact key x hx e
      · exact ih x hx y hy e
theorem clashR_true : ∀ (kr : List (List UInt8)), clashR kr = true → ∃ x ∈ kr, ∃ y ∈ kr, P.digest x = P.digest y ∧ x ≠ y
  | [], h => by simp [clashR] at h
  | z :: r, h => by
    simp only [clashR, Bool.or_eq_true] at h
    rcases h with h | h
    · obtain ⟨x, hx, y, hy, e⟩ := clashR_true r h
      exact ⟨x, by simp [hx], y, by simp [hy], e⟩
    · cases hl : lastR r (P.digest z) with
      | none => rw [hl] at h; simp at h
      | some u =>
        rw [hl] at h
        obtain ⟨hu, hue⟩ := lastR_some hl
        exact ⟨u, by simp [hu], z, by simp, hue, by simpa using h⟩
structure KeepIs (w : World) (bu bc um n : Nat) (kr : List (List UInt8)) : Prop where
  u : w.heap[bu]? = some (.cells #[.map (some um)] 75 (0, 0))
  c : w.heap[bc]? = some (.cells #[.bool (clashR kr)] 4 (0, 0))
  m : MapIs w um n (blobsF kr)
theorem KeepIs.same {w w' : World} {bu bc um n : Nat} {kr : List (List UInt8)} (h : KeepIs w bu bc um n kr) (hs : ∀ b, b = bu ∨ b = bc ∨ b = um → w'.heap[b]? = w.heap[b]?) : KeepIs w' bu bc um n kr :=
  ⟨(hs bu (.inl rfl)).trans h.u, (hs bc (.inr (.inl rfl))).trans h.c, h.m.same (hs um (.inr (.inr rfl)))⟩
theorem KeepIs.lt {w : World} {bu bc um n : Nat} {kr : List (List UInt8)} (h : KeepIs w bu bc um n kr) : ∀ b, b = bu ∨ b = bc ∨ b = um → b < w.heap.size := by
  rintro b (rfl | rfl | rfl)
  · exact (Array.getElem?_eq_some_iff.1 h.u).1
  · exact (Array.getElem?_eq_some_iff.1 h.c).1
  · exact h.m.lt
theorem map_ne_cells {w : World} {b m n t : Nat} {cur : Array Value} {F : List UInt8 → Option Value} (h : MapIs w m n F) (hb : w.heap[b]? = some (.cells cur t (0, 0))) : b ≠ m := by
  obtain ⟨D, ⟨es, clock, hm, _⟩, _⟩ := h
  intro e
  subst e
  rw [hm] at hb; simp at hb
theorem under40 : Tryz.prog.underlying 75 = some (.map 9 107) := by kernel_rfl
theorem zero_blob (w : World) : (zeroValue 107).run Tryz.prog w = .ok (.agg #[.string ⟨#[]⟩]) w := by kernel_rfl
theorem digest_len (B : List UInt8) : (P.digest B).length = 3 := rfl
set_option maxRecDepth 100000 in
set_option maxHeartbeats 2000000 in
theorem keep_any (B : List UInt8) (kr : List (List UInt8)) (w : World) (bu bc um n : Nat) (h : KeepIs w bu bc um n kr) (hB : B.length ≤ 100000) (hn : n < maxLen) :
    Calls Tryz.prog 65 #[.string (bs B), ptr bu, ptr bc] w fun e w' => e = .returned (.string (bs (P.digest B))) ∧ KeepIs w' bu bc um (n + 1) (B :: kr) ∧ Fr (fun b => b = bc ∨ b = um) w w' := by
  have hdig := textDigest_any (bs B) w (by rw [bs_size]; unfold maxLen; omega)
  rw [bs_data] at hdig
  change Calls Tryz.prog 51 #[.string (bs B)] w fun e w' => e = .returned (.string (bs (P.digest B))) ∧ Below w.heap.size w w' at hdig
  have hcl := fun w' => clone2 B w' hB
  have hdl : (P.digest B).length ≤ maxLen := by rw [digest_len]; decide
  have hFc := blobsF_cons kr B
  have hcr : clashR (B :: kr) = (clashR kr || (match lastR kr (P.digest B) with | some y => !(y == B) | none => false)) := rfl
  have hbf : blobsF kr (P.digest B) = (lastR kr (P.digest B)).map blobV := rfl
  generalize P.digest B = D at *
  unfold ptr
  go_enter Tryz.func65, Tryz.ntmps65
  go_wp2_with fail
  refine hdig.mono ?_
  rintro e w1 ⟨rfl, hb1⟩
  have h1 : KeepIs w1 bu bc um n kr := h.same (fun b hb => hb1.block b (h.lt b hb))
  have hF1 : Fr (fun b => b = bc ∨ b = um) w w1 := Fr.below hb1
  clear hb1 hdig h
  have cu := cell_of_block (j := 0) h1.u
  have cc := cell_of_block (j := 0) h1.c
  have fc := free_block (j := 0) h1.c
  simp only [List.getElem?_toArray, List.getElem?_cons_zero] at cu cc
  have hbuc : bu ≠ bc := fun e => by
    have a := h1.u
    have b := h1.c
    rw [e, b] at a
    simp at a
  have HFc := hide hFc
  clear hFc
  cases hlr : lastR kr D with
  | none =>
    rw [hlr] at hcr hbf
    have hce : clashR kr = clashR (B :: kr) := by rw [hcr, Bool.or_false]
    have hok : clashR (B :: kr) = clashR kr := hce.symm
    have hWu : (w1.alloc (.cells #[.string ⟨#[]⟩] 107)).heap[bu]? = some (.cells #[.map (some um)] 75 (0, 0)) := (Below.heap_alloc w1 _ _ (h1.lt bu (.inl rfl))).trans h1.u
    have hWc : (w1.alloc (.cells #[.string ⟨#[]⟩] 107)).heap[bc]? = some (.cells #[.bool (clashR (B :: kr))] 4 (0, 0)) := by rw [← hce]; exact (Below.heap_alloc w1 _ _ (h1.lt bc (.inr (.inl rfl)))).trans h1.c
    have hmW : MapIs (w1.alloc (.cells #[.string ⟨#[]⟩] 107)) um n (blobsF kr) := h1.m.alloc _
    have hFW : Fr (fun b => b = bc ∨ b = um) w (w1.alloc (.cells #[.string ⟨#[]⟩] 107)) := hF1.trans (Fr.below ((Below.refl _ _).alloc (Nat.le_refl _) _))
    have hlu : bu < (w1.alloc (.cells #[.string ⟨#[]⟩] 107)).heap.size := (Array.getElem?_eq_some_iff.1 hWu).1
    have hlc : bc < (w1.alloc (.cells #[.string ⟨#[]⟩] 107)).heap.size := (Array.getElem?_eq_some_iff.1 hWc).1
    have hlm : um < (w1.alloc (.cells #[.string ⟨#[]⟩] 107)).heap.size := hmW.lt
    have hnu := map_ne_cells hmW hWu
    have hnc := map_ne_cells hmW hWc
    have ck := cell_of_block (j := 0) hWu
    simp only [List.getElem?_toArray, List.getElem?_cons_zero] at ck
    have HW := hide (And.intro hWu (And.intro hWc hFW))
    clear hWu hWc hFW
    clear hcr hce hok hlr
    go_wp2_with (at_lookup; refine wp_look_ok rfl _ _ 75 rfl 107 under40 (.agg #[.string ⟨#[]⟩]) (zero_blob _) um n (blobsF kr) rfl h1.m D rfl hdl ?_; rw [hbf]; simp only [Option.map_none, Option.getD_none, Option.isSome_none])
    go_region_held3 (fun w' => w'.cell? ⟨bu, 0, none⟩ = some (.map (some um)))
      ((first | assumption | go_keep))
      ((go_at_call 66; refine (hcl _).mono ?_; rintro e w4 ⟨rfl, hb4⟩;
        have s4 := ((bcell hb4).1 bu 0 (by simpa using hlu)).trans ck;
        obtain ⟨w5, hrun5, hm5, hg5⟩ := MapIs.store (MapIs.same (w' := w4) hmW (hb4.block um hlm)) 75 107 under40 hn D hdl (.agg #[.string (bs B)]);
        have s5 := cell_grown hg5 s4 (by simpa using hnu)))
    all_goals go_wp2_with fail
    all_goals go_ret
    all_goals
      have hk4 : w4.heap[bu]? = some (.cells #[.map (some um)] 75 (0, 0)) := (hb4.block bu hlu).trans (unhide HW).1
      have hc4 := (hb4.block bc hlc).trans (unhide HW).2.1
      refine ⟨rfl, ⟨(hg5.block bu (Nat.lt_of_lt_of_le hlu hb4.size) (by simpa using hnu)).trans hk4, (hg5.block bc (Nat.lt_of_lt_of_le hlc hb4.size) (by simpa using hnc)).trans hc4, by rw [← unhide HFc]; exact hm5⟩, ?_⟩
      exact (unhide HW).2.2.trans (Fr.trans (b := w4) ⟨hb4.os, hb4.tape, hb4.output, hb4.size, fun x hx _ => hb4.block x hx⟩ (Fr.grown hg5 (fun g hg => by cases hg; exact Or.inr rfl)))
  | some y =>
    rw [hlr] at hcr hbf
    have s1 := str_eq2 y B
    by_cases hyB : y = B
    · subst hyB
      have hce : clashR kr = clashR (y :: kr) := by rw [hcr]; simp
      have s1' : ((bs y).toList != (bs y).toList) = false := by simp
      have hWu : (w1.alloc (.cells #[.string (bs y)] 107)).heap[bu]? = some (.cells #[.map (some um)] 75 (0, 0)) := (Below.heap_alloc w1 _ _ (h1.lt bu (.inl rfl))).trans h1.u
      have hWc : (w1.alloc (.cells #[.string (bs y)] 107)).heap[bc]? = some (.cells #[.bool (clashR (y :: kr))] 4 (0, 0)) := by rw [← hce]; exact (Below.heap_alloc w1 _ _ (h1.lt bc (.inr (.inl rfl)))).trans h1.c
      have hmW : MapIs (w1.alloc (.cells #[.string (bs y)] 107)) um n (blobsF kr) := h1.m.alloc _
      have hFW : Fr (fun b => b = bc ∨ b = um) w (w1.alloc (.cells #[.string (bs y)] 107)) := hF1.trans (Fr.below ((Below.refl _ _).alloc (Nat.le_refl _) _))
      have hlu : bu < (w1.alloc (.cells #[.string (bs y)] 107)).heap.size := (Array.getElem?_eq_some_iff.1 hWu).1
      have hlc : bc < (w1.alloc (.cells #[.string (bs y)] 107)).heap.size := (Array.getElem?_eq_some_iff.1 hWc).1
      have hlm : um < (w1.alloc (.cells #[.string (bs y)] 107)).heap.size := hmW.lt
      have hnu := map_ne_cells hmW hWu
      have hnc := map_ne_cells hmW hWc
      have ck := cell_of_block (j := 0) hWu
      simp only [List.getElem?_toArray, List.getElem?_cons_zero] at ck
      have HW := hide (And.intro hWu (And.intro hWc hFW))
      clear hWu hWc hFW
      clear hcr hce hlr s1
      go_wp2_with (at_lookup; refine wp_look_ok rfl _ _ 75 rfl 107 under40 (.agg #[.string ⟨#[]⟩]) (zero_blob _) um n (blobsF kr) rfl h1.m D rfl hdl ?_; rw [hbf]; simp only [Option.map_some, Option.getD_some, Option.isSome_some, blobV])
      go_region_held3 (fun w' => w'.cell? ⟨bu, 0, none⟩ = some (.map (some um)))
        ((first | assumption | go_keep))
        ((go_at_call 66; refine (hcl _).mono ?_; rintro e w4 ⟨rfl, hb4⟩;
          have s4 := ((bcell hb4).1 bu 0 (by simpa using hlu)).trans ck;
          obtain ⟨w5, hrun5, hm5, hg5⟩ := MapIs.store (MapIs.same (w' := w4) hmW (hb4.block um hlm)) 75 107 under40 hn D hdl (.agg #[.string (bs y)]);
          have s5 := cell_grown hg5 s4 (by simpa using hnu)))
      all_goals go_wp2_with fail
      all_goals go_ret
      all_goals
        have hk4 : w4.heap[bu]? = some (.cells #[.map (some um)] 75 (0, 0)) := (hb4.block bu hlu).trans (unhide HW).1
        have hc4 := (hb4.block bc hlc).trans (unhide HW).2.1
        refine ⟨rfl, ⟨(hg5.block bu (Nat.lt_of_lt_of_le hlu hb4.size) (by simpa using hnu)).trans hk4, (hg5.block bc (Nat.lt_of_lt_of_le hlc hb4.size) (by simpa using hnc)).trans hc4, by rw [← unhide HFc]; exact hm5⟩, ?_⟩
        exact (unhide HW).2.2.trans (Fr.trans (b := w4) ⟨hb4.os, hb4.tape, hb4.output, hb4.size, fun x hx _ => hb4.block x hx⟩ (Fr.grown hg5 (fun g hg => by cases hg; exact Or.inr rfl)))
    · have s1' : ((bs y).toList == (bs B).toList) = false := by rw [s1]; simpa using hyB
      have s1'' : ((bs y).toList != (bs B).toList) = true := by rw [bne, s1']; rfl
      have hce : clashR (B :: kr) = true := by rw [hcr]; simp [hyB]
      have HCe := hide hce
      have hA := (Below.heap_alloc w1 (.cells #[.string (bs y)] 107) _ (h1.lt bc (.inr (.inl rfl)))).trans h1.c
      have ccA := cell_of_block (j := 0) hA
      have fcA := free_block (j := 0) hA
      simp only [List.getElem?_toArray, List.getElem?_cons_zero] at ccA
      have hlb := h1.lt bc (.inr (.inl rfl))
      have hWu : ((w1.setCell ⟨bc, 0, none⟩ (.bool true)).alloc (.cells #[.string (bs y)] 107)).heap[bu]? = some (.cells #[.map (some um)] 75 (0, 0)) := (Below.heap_alloc _ _ _ (by simpa using h1.lt bu (.inl rfl))).trans ((Below.heap_setCell _ _ _ _ (by simpa using hbuc)).trans h1.u)
      have hWc : ((w1.setCell ⟨bc, 0, none⟩ (.bool true)).alloc (.cells #[.string (bs y)] 107)).heap[bc]? = some (.cells #[.bool true] 4 (0, 0)) := (Below.heap_alloc _ _ _ (by simpa using h1.lt bc (.inr (.inl rfl)))).trans (heap_set0 _ h1.c)
      have hmW : MapIs ((w1.setCell ⟨bc, 0, none⟩ (.bool true)).alloc (.cells #[.string (bs y)] 107)) um n (blobsF kr) := (h1.m.same (Below.heap_setCell _ _ _ _ (fun e => map_ne_cells h1.m h1.c e.symm))).alloc _
      have hFW : Fr (fun b => b = bc ∨ b = um) w ((w1.setCell ⟨bc, 0, none⟩ (.bool true)).alloc (.cells #[.string (bs y)] 107)) := (hF1.trans (Fr.set _ _ _ _ (Or.inl rfl))).trans (Fr.below ((Below.refl _ _).alloc (Nat.le_refl _) _))
      have hlu : bu < ((w1.setCell ⟨bc, 0, none⟩ (.bool true)).alloc (.cells #[.string (bs y)] 107)).heap.size := (Array.getElem?_eq_some_iff.1 hWu).1
      have hlc : bc < ((w1.setCell ⟨bc, 0, none⟩ (.bool true)).alloc (.cells #[.string (bs y)] 107)).heap.size := (Array.getElem?_eq_some_iff.1 hWc).1
      have hlm : um < ((w1.setCell ⟨bc, 0, none⟩ (.bool true)).alloc (.cells #[.string (bs y)] 107)).heap.size := hmW.lt
      have hnu := map_ne_cells hmW hWu
      have hnc := map_ne_cells hmW hWc
      have ck := cell_of_block (j := 0) hWu
      simp only [List.getElem?_toArray, List.getElem?_cons_zero] at ck
      have HW := hide (And.intro hWu (And.intro hWc hFW))
      clear hWu hWc hFW
      clear hcr hlr s1 hyB hce
      go_wp2_with (at_lookup; refine wp_look_ok rfl _ _ 75 rfl 107 under40 (.agg #[.string ⟨#[]⟩]) (zero_blob _) um n (blobsF kr) rfl h1.m D rfl hdl ?_; rw [hbf]; simp only [Option.map_some, Option.getD_some, Option.isSome_some, blobV])
      go_region_held3 (fun w' => w'.cell? ⟨bu, 0, none⟩ = some (.map (some um)))
        ((first | assumption | go_keep))
        ((go_at_call 66; refine (hcl _).mono ?_; rintro e w4 ⟨rfl, hb4⟩;
          have s4 := ((bcell hb4).1 bu 0 (by simpa using hlu)).trans ck;
          obtain ⟨w5, hrun5, hm5, hg5⟩ := MapIs.store (MapIs.same (w' := w4) hmW (hb4.block um hlm)) 75 107 under40 hn D hdl (.agg #[.string (bs B)]);
          have s5 := cell_grown hg5 s4 (by simpa using hnu)))
      all_goals go_wp2_with fail
      all_goals go_ret
      all_goals
        have hk4 : w4.heap[bu]? = some (.cells #[.map (some um)] 75 (0, 0)) := (hb4.block bu hlu).trans (unhide HW).1
        have hc4 := (hb4.block bc hlc).trans (unhide HW).2.1
        refine ⟨rfl, ⟨(hg5.block bu (Nat.lt_of_lt_of_le hlu hb4.size) (by simpa using hnu)).trans hk4, (hg5.block bc (Nat.lt_of_lt_of_le hlc hb4.size) (by simpa using hnc)).trans (by rw [unhide HCe]; exact hc4), by rw [← unhide HFc]; exact hm5⟩, ?_⟩
        exact (unhide HW).2.2.trans (Fr.trans (b := w4) ⟨hb4.os, hb4.tape, hb4.output, hb4.size, fun x hx _ => hb4.block x hx⟩ (Fr.grown hg5 (fun g hg => by cases hg; exact Or.inr rfl)))
end Go.Proofs.YtjmacegibchplaaGreatDoor

/-
  The program's gather: what is made of each entry (its closure).
-/
namespace Go.Proofs.YtjmacegibchplaaGreatDoor
open Go.RowKit
set_option linter.unusedVariables false

theorem MapIs.mono {w : World} {b n m : Nat} {f : List UInt8 → Option Value} (h : MapIs w b n f) (hn : n ≤ m) : MapIs w b m f := by
  obtain ⟨D, h, hf⟩ := h
  exact ⟨D, h.mono hn, hf⟩
theorem KeepIs.mono {w : World} {bu bc um n m : Nat} {kr : List (List UInt8)} (h : KeepIs w bu bc um n kr) (hn : n ≤ m) : KeepIs w bu bc um m kr := ⟨h.u, h.c, h.m.mono hn⟩
theorem itCells_one1 (y : P.It) : ∀ u ∈ itCells y, u.oneCell' = true := fun u hu => itCells_one [y] u (by simpa [rowCells] using hu)
theorem row_lies {w : World} {base : Nat} {v : Value} {l : List P.It} (h : w.ownsRow base 47 5 v l.length (rowCells itCells l)) : ∃ a c, v = .slice a l.length c ∧ Lies w a l := by
  obtain ⟨a, c, h1, h2, _⟩ := OwnsIt.lies (show OwnsIt w base v l from h)
  exact ⟨a, c, h1, h2⟩
set_option maxHeartbeats 1000000 in
theorem encode_any (l : List P.It) (v : Value) (w : World) (base : Nat) (hown : w.ownsRow base 47 5 v l.length (rowCells itCells l)) (hf : FitAll l) (hd : dirOk l = true) :
    Calls Tryz.prog 104 #[v] w fun e w' => e = .returned (.string (bs (dirBytes l))) ∧ Below w.heap.size w w' := by
  obtain ⟨a, c, rfl, hl⟩ := row_lies hown
  have h40 := len_of_dirOk l hd
  have he := dirEncode_yes l a c w (by unfold maxLen; omega) hl hf hd
  change Calls Tryz.prog 57 #[.slice a l.length c] w fun e w' => e = .returned (.tuple #[.string (bs (dirBytes l)), .int .i64 0]) ∧ Below w.heap.size w w' at he
  generalize dirBytes l = B at *
  go_enter Tryz.func104, Tryz.ntmps104
  go_wp2_with fail
  refine he.mono ?_
  rintro e w1 ⟨rfl, hb1⟩
  go_wp2_with fail
  go_ret
  exact ⟨rfl, hb1⟩
def keptR (l : List En) (done : List Nat) : List (List UInt8) := (done.flatMap (fun i => partP l (l.getD i en0))).reverse
theorem keptR_snoc (l : List En) (done : List Nat) (i : Nat) : keptR l (done ++ [i]) = (partP l (l.getD i en0)).reverse ++ keptR l done := by
  unfold keptR; rw [List.flatMap_append]; simp
def itemsF (l : List En) (done : List Nat) : List UInt8 → List P.It := fun d => (done.filter (fun j => upAt l j == d)).map (itemQ l)
theorem itemsF_snoc (l : List En) (done : List Nat) (i : Nat) : itemsF l (done ++ [i]) = updG (itemsF l done) (upAt l i) (itemQ l i) := by
  funext d
  unfold itemsF updG
  rw [List.filter_append]
  by_cases h : d = upAt l i
  · rw [if_pos h, h]; simp
  · rw [if_neg h]
    have : ¬ upAt l i = d := fun e => h e.symm
    simp [this]
theorem itemsF_len (l : List En) (done : List Nat) (d : List UInt8) : (itemsF l done d).length ≤ done.length := by
  unfold itemsF; rw [List.length_map]; exact List.length_filter_le _ _
/-- what the visitor of gather holds -/
structure IG (l : List En) (base : Nat) (wB : World) (bit bk im bu bc um : Nat) (Own : Nat → Prop) (done : List Nat) (w : World) : Prop where
  lt : ∀ b, Own b → b < w.heap.size
  old : ∀ b, b < base → Own b
  ci : w.heap[bit]? = some (.cells #[.map (some im)] 150 (0, 0))
  ck : w.heap[bk]? = some (.cells #[.func (.func 65) #[] #[ptr bu, ptr bc]] 38 (0, 0))
  oi : Own bit
  ok : Own bk
  oku : ∀ b, b = bu ∨ b = bc ∨ b = um → Own b
  new : base ≤ bc ∧ base ≤ um ∧ base ≤ im
  grp : ∃ FI, Grp 47 5 itCells w base im done.length Own FI (itemsF l done)
  keep : KeepIs w bu bc um done.length (keptR l done)
  below : Below base wB w
theorem IG.stable {l : List En} {base : Nat} {wB : World} {bit bk im bu bc um : Nat} {Own : Nat → Prop} {done : List Nat} {w w' : World} (h : IG l base wB bit bk im bu bc um Own done w) (hk : OwnK Own w w') : IG l base wB bit bk im bu bc um Own done w' := by
  obtain ⟨FI, hg⟩ := h.grp
  exact ⟨fun b hb => Nat.lt_of_lt_of_le (h.lt b hb) hk.size, h.old, (hk.block bit h.oi).trans h.ci, (hk.block bk h.ok).trans h.ck, h.oi, h.ok, h.oku, h.new, ⟨FI, hg.kept (fun b hb _ => hk.block b hb)⟩, h.keep.same (fun b hb => hk.block b (h.oku b hb)),
    ⟨hk.os.trans h.below.os, hk.tape.trans h.below.tape, hk.output.trans h.below.output, Nat.le_trans h.below.size hk.size, fun b hb => (hk.block b (h.old b hb)).trans (h.below.block b hb)⟩⟩
theorem under72 : Tryz.prog.underlying 150 = some (.map 9 43) := by kernel_rfl
theorem under59 : Tryz.prog.underlying 43 = some (.slice 47) := by kernel_rfl
theorem zero_items (w : World) : (zeroValue 43).run Tryz.prog w = .ok (.slice none 0 0) w := by kernel_rfl
/-- the world ahead of the last statement -/
structure TailIn (base im n bit bt sz : Nat) (Own : Nat → Prop) (FI : List UInt8 → Option Value) (GI : List UInt8 → List P.It) (it : P.It) (W : World) : Prop where
  grp : Grp 47 5 itCells W base im n (fun b => Own b ∨ sz ≤ b) FI GI
  ci : W.heap[bit]? = some (.cells #[.map (some im)] 150 (0, 0))
  ct : W.heap[bt]? = some (.cells (itCells it).toArray 47 (0, 0))
  rows : ∀ d g, ((FI d).getD (.slice none 0 0)).ownBlock = some g → g ≠ bt
  sz : sz ≤ W.heap.size
  base : base ≤ W.heap.size
/-- what the last statement leaves -/
structure TailOut (base im n sz : Nat) (Own : Nat → Prop) (GI : List UInt8 → List P.It) (d : List UInt8) (it : P.It) (W W' : World) : Prop where
  grp : ∃ F', Grp 47 5 itCells W' base im (n + 1) (fun b => Own b ∨ sz ≤ b) F' (updG GI d it)
  fr : ∃ row : Option Nat, (∀ g, row = some g → (Own g ∨ sz ≤ g) ∧ base ≤ g ∧ ∃ cur, W.heap[g]? = some (.cells cur 47 (0, 0))) ∧ Fr (fun b => b = im ∨ some b = row) W W'

/-- what the walk of the last statement needs -/
theorem tail_facts {base im n bit bt sz : Nat} {Own : Nat → Prop} {FI : List UInt8 → Option Value} {GI : List UInt8 → List P.It} {it : P.It} {W : World} (h : TailIn base im n bit bt sz Own FI GI it W) (d : List UInt8) (hd : d.length ≤ maxLen) (hn : n < 5000000000) (hG : (GI d).length ≤ n) :
    ∃ v, (FI d).getD (.slice none 0 0) = v ∧
      (∀ W' : World, W'.heap[im]? = W.heap[im]? → (Instr.lookup 150 (.map (some im)) (.string (bs d)) false).run Tryz.prog W' = .ok v W') ∧
      W.ownsRow base 47 5 v (GI d).length (rowCells itCells (GI d)) ∧
      some bit ≠ v.ownBlock ∧ some bt ≠ v.ownBlock ∧ im < W.heap.size ∧ bit < W.heap.size ∧ bt < W.heap.size ∧ bit ≠ im ∧ bt ≠ im ∧
      (∀ (w4 : World) (v' : Value), W.grownBy w4 v.ownBlock → w4.ownsRow base 47 5 v' ((GI d).length + 1) (rowCells itCells (GI d ++ [it])) → (v'.ownBlock = v.ownBlock ∨ ∃ g, v'.ownBlock = some g ∧ W.heap.size ≤ g) →
        ∃ w5, (Instr.mapUpdate 150 (.map (some im)) (.string (bs d)) v').run Tryz.prog w4 = .ok () w5 ∧ w4.grownBy w5 (some im) ∧ TailOut base im n sz Own GI d it W w5) := by
  have hat := h.grp.at d
  refine ⟨_, rfl, fun W' hW => (h.grp.map.same hW).look 150 43 under72 (.slice none 0 0) (zero_items _) d hd, hat, row_not_cell hat h.ci (by decide), fun e => h.rows d bt e.symm rfl, h.grp.map.lt, (Array.getElem?_eq_some_iff.1 h.ci).1, (Array.getElem?_eq_some_iff.1 h.ct).1, map_ne_cells h.grp.map h.ci, map_ne_cells h.grp.map h.ct, ?_⟩
  intro w4 v' hg ho hl
  obtain ⟨w5, hrun, hgrp, hg5⟩ := h.grp.put (w1 := w4) 150 43 under72 (by unfold maxLen; omega) d hd it v' hg ho hl (fun b hb => .inr (Nat.le_trans h.sz hb))
  refine ⟨w5, hrun, hg5, ⟨⟨_, hgrp⟩, ((FI d).getD (.slice none 0 0)).ownBlock, fun g hgg => ⟨h.grp.ownAt d g hgg, (World.ownsRow.lt hat g hgg).1, ?_⟩, ?_⟩⟩
  · rcases hat.2 with ⟨e, _⟩ | ⟨g', c, cur, e, _, hc, _⟩
    · rw [e] at hgg; simp [Value.ownBlock] at hgg
    · rw [e] at hgg
      simp only [Value.ownBlock, Option.some.injEq] at hgg
      subst hgg
      exact ⟨cur, hc⟩
  · exact (Fr.grown hg (fun g hgg => .inr hgg.symm)).trans (Fr.grown hg5 (fun g hgg => by cases hgg; exact .inl rfl))
end Go.Proofs.YtjmacegibchplaaGreatDoor
