import Derived.Test.YtjmacegibchplaaGreatDoorTextB
import Derived.Lib.AppendStr
/-
  Items of directories as values and in memory; the program's test of one item.
-/
namespace Go.Proofs.YtjmacegibchplaaGreatDoor
open Go.RowKit
set_option linter.unusedVariables false
def itVal (x : P.It) : Value := .agg #[.string x.name, .int .i64 x.kind, .string x.dig, .int .i64 x.size, .string x.tgt]
def Fits (x : P.It) : Prop := x.name.size ≤ maxLen ∧ x.dig.size ≤ maxLen ∧ x.tgt.size ≤ maxLen
set_option maxHeartbeats 1000000 in
theorem isItem_any (nm : ByteArray) (kd : Int) (dg : ByteArray) (sz : Int) (tg : ByteArray) (w : World) (h1 : nm.size ≤ maxLen) (h2 : dg.size ≤ maxLen) (h3 : tg.size ≤ maxLen) :
    Calls Tryz.prog 127 #[.agg #[.string nm, .int .i64 kd, .string dg, .int .i64 sz, .string tg]] w fun e w' => e = .returned (.bool (P.itemOk ⟨nm, kd, dg, sz, tg⟩)) ∧ Below w.heap.size w w' := by
  go_enter Tryz.func127, Tryz.ntmps127
  go_wp2_with (first
    | (go_at_call 170; refine (isName_any _ _ h1).mono ?_; rintro e w' ⟨rfl, rfl⟩)
    | (go_at_call 144; refine (shapeOf_any _ _).mono ?_; rintro e w' ⟨rfl, rfl⟩)
    | (go_at_call 171; refine (isDigest_any _ _ h2).mono ?_; rintro e w' ⟨rfl, rfl⟩)
    | (go_at_call 86; refine (within_any _ _ _ _ (by decide)).mono ?_; rintro e w' ⟨rfl, rfl⟩)
    | (go_at_call 172; refine (isTarget_any _ _ h3).mono ?_; rintro e w' ⟨rfl, rfl⟩))
  all_goals
    go_ret
    refine ⟨ret_bool ?_, (Below.refl _ _).alloc (Nat.le_refl _) _⟩
    simp only [P.itemOk, P.plainOk, P.linkOk]
    simp_all
def ItemAt (w : World) (b p : Nat) (x : P.It) : Prop :=
  w.cell? ⟨b, p, none⟩ = some (.string x.name) ∧ w.cell? ⟨b, p + 1, none⟩ = some (.int .i64 x.kind)
    ∧ w.cell? ⟨b, p + 2, none⟩ = some (.string x.dig) ∧ w.cell? ⟨b, p + 3, none⟩ = some (.int .i64 x.size) ∧ w.cell? ⟨b, p + 4, none⟩ = some (.string x.tgt)
def ItemsAt (w : World) (b o : Nat) (l : List P.It) : Prop := ∀ i (h : i < l.length), ItemAt w b (o + i * 5) l[i]
def FitAll (l : List P.It) : Prop := ∀ i (h : i < l.length), Fits l[i]
theorem block_lt {w : World} {b o : Nat} {v : Value} (h : w.cell? ⟨b, o, none⟩ = some v) : b < w.heap.size := by
  rcases Nat.lt_or_ge b w.heap.size with hl | hl
  · exact hl
  · have hn : w.heap[b]? = none := by simp [hl]
    simp [World.cell?, hn] at h
theorem ItemAt.lt {w : World} {b p : Nat} {x : P.It} (h : ItemAt w b p x) : b < w.heap.size := block_lt h.1
theorem ItemAt.below {B : Nat} {w w' : World} {b p : Nat} {x : P.It} (h : ItemAt w b p x) (hb : Below B w w') (hB : b < B) : ItemAt w' b p x := by
  obtain ⟨c0, c1, c2, c3, c4⟩ := h
  exact ⟨(hb.cell (p := ⟨b, _, none⟩) hB).trans c0, (hb.cell (p := ⟨b, _, none⟩) hB).trans c1, (hb.cell (p := ⟨b, _, none⟩) hB).trans c2, (hb.cell (p := ⟨b, _, none⟩) hB).trans c3, (hb.cell (p := ⟨b, _, none⟩) hB).trans c4⟩
theorem ItemsAt.below {B : Nat} {w w' : World} {b o : Nat} {l : List P.It} (h : ItemsAt w b o l) (hb : Below B w w') (hB : w.heap.size ≤ B) : ItemsAt w' b o l :=
  fun i hi => (h i hi).below hb (Nat.lt_of_lt_of_le (h i hi).lt hB)
def it0 : P.It := ⟨ByteArray.empty, 0, ByteArray.empty, 0, ByteArray.empty⟩
def okAt (l : List P.It) (i : Nat) : Bool := P.itemOk (l.getD i it0) && (i == 0 || Op.bytesLess (l.getD (i - 1) it0).name.toList (l.getD i it0).name.toList)
def okTo (l : List P.It) (k : Nat) : Bool := (List.range k).all (okAt l)
def dirOk (l : List P.It) : Bool := decide (l.length ≤ 40) && okTo l l.length
theorem okTo_succ (l : List P.It) (k : Nat) : okTo l (k + 1) = (okTo l k && okAt l k) := by simp [okTo, List.range_succ]
theorem okTo_mono (l : List P.It) (k n : Nat) (h : k ≤ n) (hk : okTo l k = false) : okTo l n = false := by
  simp only [okTo, List.all_eq_false, List.mem_range] at *
  obtain ⟨i, hi, hx⟩ := hk
  exact ⟨i, by omega, hx⟩
theorem getD_eq (l : List P.It) (k : Nat) (h : k < l.length) : l.getD k it0 = l[k] := by simp [List.getD, h]
theorem okAt_no (l : List P.It) (k : Nat) (h : k < l.length) (hn : P.itemOk l[k] = false) : okAt l k = false := by
  unfold okAt; rw [getD_eq l k h, hn]; rfl
theorem okAt_zero (l : List P.It) (h : 0 < l.length) (hy : P.itemOk l[0] = true) : okAt l 0 = true := by
  unfold okAt; rw [getD_eq l 0 h, hy]; rfl
theorem okAt_succ (l : List P.It) (j : Nat) (h : j + 1 < l.length) (hj : j < l.length) (hy : P.itemOk l[j + 1] = true) : okAt l (j + 1) = Op.bytesLess l[j].name.toList l[j + 1].name.toList := by
  unfold okAt; rw [Nat.add_sub_cancel, getD_eq l (j + 1) h, getD_eq l j hj, hy]; rfl
theorem dirOk_at (l : List P.It) (k : Nat) (h : k < l.length) (hn : okAt l k = false) : dirOk l = false := by
  have := okTo_mono l (k + 1) l.length (by omega) (by rw [okTo_succ, hn]; simp)
  unfold dirOk; rw [this]; simp
set_option maxHeartbeats 1000000 in
theorem isDirectory_some (l : List P.It) (b o c : Nat) (w : World) (hl : l.length ≤ maxLen) (hi : ItemsAt w b o l) (hf : FitAll l) :
    Calls Tryz.prog 85 #[.slice (some ⟨b, o, none⟩) l.length c] w fun e w' => e = .returned (.bool (dirOk l)) ∧ Below w.heap.size w w' := by
  unfold maxLen at hl
  by_cases h40 : (40 : Int) < (l.length : Int)
  · go_enter Tryz.func85, Tryz.ntmps85
    go_wp2
    go_ret
    exact ⟨ret_bool (by simp [dirOk]; omega), Below.refl _ _⟩
  go_enter Tryz.func85, Tryz.ntmps85
  go_wp2
  go_loopw [10] (fun i wr => ∃ k : Nat, k ≤ l.length ∧ i = .int .i64 k ∧ Below w.heap.size w wr ∧ okTo l k = true) (fun i _ => l.length - (intOf i).toNat)
  case atStart => exact ⟨0, Nat.zero_le _, rfl, Below.refl _ _, rfl⟩
  case round =>
    obtain ⟨k, hk, rfl, hbel, hok⟩ := hrel
    have Hok := hide hok
    clear hok
    by_cases hlt : k < l.length
    · obtain ⟨x, hx⟩ : ∃ x, l[k] = x := ⟨_, rfl⟩
      obtain ⟨nm, kd, dg, sz, tg⟩ := x
      obtain ⟨c0, c1, c2, c3, c4⟩ := (hi k hlt).below hbel (hi k hlt).lt
      obtain ⟨f0, f1, f2⟩ := hf k hlt
      rw [hx] at c0 c1 c2 c3 c4 f0 f1 f2
      have Hx := hide hx
      clear hx
      simp only at c0 c1 c2 c3 c4 f0 f1 f2
      by_cases hit : P.itemOk ⟨nm, kd, dg, sz, tg⟩ = true
      · have Hit := hide hit
        go_wp2_with fail
        refine (isItem_any nm kd dg sz tg _ f0 f1 f2).mono ?_
        rintro e w2 ⟨rfl, hb2⟩
        rw [hit]
        clear hit
        have hb2' : Below w.heap.size w w2 := (hbel.alloc hbel.size _).trans (hb2.mono (by simp; exact Nat.le_trans hbel.size (Nat.le_succ _)))
        have q0 : w2.cell? ⟨wr.heap.size, 0, none⟩ = some (.string nm) := by
          rw [hb2.cell (p := ⟨wr.heap.size, 0, none⟩) (by simp)]; simp
        rcases Nat.eq_zero_or_pos k with h0 | hp
        · subst h0
          go_wp2_with fail
          go_quiet (fail)
          go_wp2
          go_roundw
          case rel =>
            refine ⟨1, by omega, rfl, below_drewN hb2' _, ?_⟩
            rw [okTo_succ, unhide Hok, okAt_zero l hlt (by rw [unhide Hx]; exact unhide Hit)]; rfl
          case measure => simp [intOf]; omega
        · obtain ⟨j, rfl⟩ : ∃ j, k = j + 1 := ⟨k - 1, by omega⟩
          have hj : j < l.length := by omega
          have hj' : (j : Int) < (l.length : Int) := by omega
          obtain ⟨p0, -⟩ := (hi j hj).below hb2' (hi j hj).lt
          have Hs := hide (okAt_succ l j hlt hj (by rw [unhide Hx]; exact unhide Hit))
          rw [unhide Hx] at Hs
          generalize l[j].name = pn at *
          clear c0 c1 c2 c3 c4 hb2
          go_wp2_with fail
          go_quiet (fail)
          go_wp2
          · have hn : (!Op.bytesLess pn.toList nm.toList) = true := by assumption
            go_ret
            refine ⟨ret_bool (dirOk_at l (j + 1) hlt ?_).symm, below_drewN hb2' _⟩
            rw [unhide Hs]; simpa using hn
          · have hn : (!Op.bytesLess pn.toList nm.toList) = false := by assumption
            go_roundw
            case rel =>
              refine ⟨j + 1 + 1, by omega, by go_num, below_drewN hb2' _, ?_⟩
              rw [okTo_succ, unhide Hok, unhide Hs]; simpa using hn
            case measure => simp [intOf]; omega
      · have hit' : P.itemOk ⟨nm, kd, dg, sz, tg⟩ = false := by simpa using hit
        have Hit := hide hit'
        clear hit
        go_wp2_with fail
        refine (isItem_any nm kd dg sz tg _ f0 f1 f2).mono ?_
        rintro e w2 ⟨rfl, hb2⟩
        rw [hit']
        clear hit'
        have hb2' : Below w.heap.size w w2 := (hbel.alloc hbel.size _).trans (hb2.mono (by simp; exact Nat.le_trans hbel.size (Nat.le_succ _)))
        clear hb2
        go_wp2_with fail
        go_ret
        exact ⟨ret_bool (dirOk_at l k hlt (okAt_no l k hlt (by rw [unhide Hx]; exact unhide Hit))).symm, hb2'⟩
    · obtain rfl : k = l.length := by omega
      go_wp2
      go_ret
      exact ⟨ret_bool (by unfold dirOk; rw [unhide Hok, decide_eq_true (by omega)]; rfl), hbel⟩
end Go.Proofs.YtjmacegibchplaaGreatDoor

/-
  The program's bytes of a directory: what the appends leave.
-/
namespace Go.Proofs.YtjmacegibchplaaGreatDoor
open Go.RowKit
set_option linter.unusedVariables false
theorem byteVal_one (l : List UInt8) : ∀ u ∈ l.map byteVal, u.oneCell' = true := by
  intro u hu
  obtain ⟨b, _, rfl⟩ := List.mem_map.1 hu
  rfl
theorem Owns.alloc {w : World} {base : Nat} {v : Value} {l : List UInt8} (h : Owns w base v l) (o : Obj) : Owns (w.alloc o) base v l := World.ownsRow.alloc h o
theorem app_bytes {w : World} {ops : Array Oper} {rest : List Oper} {o : Oper} {a : Act} {Q : Exit → Act → World → Prop} (hgd : o.guard = none) (s x : Operand)
    (ho : o.op = .call { callee := .builtin .append, args := #[s, x], argTypes := #[102, 102] }) (base : Nat) (v : Value) (l : List UInt8) (hs : a.eval s = v) (hown : Owns w base v l)
    (ad : Addr) (m c : Nat) (news : List UInt8) (hx : a.eval x = .slice (some ad) m c) (hm : news.length = m) (hnews : ∀ j (h : j < news.length), w.cell? (ad.add j) = some (byteVal news[j]))
    (hlen : l.length + m ≤ 1000000) (hbase : base ≤ w.heap.size)
    (h : ∀ v' w', Owns w' base v' (l ++ news) → Keeps base 5 w w' → wpList Tryz.prog ops Q rest (a.put o.dst v') w') : wpList Tryz.prog ops Q (o :: rest) a w := by
  obtain ⟨i0, hi, hz0, hz1, hz2⟩ := info_parts info_u8
  refine wpList_append_own w hgd s x 102 ho base 5 i0 (.int .u8 0) 1 1 Tryz.underlying102 hi hz0 hz1 hz2 rfl (by decide) v l.length (l.map byteVal) hs hown ad m c (news.map byteVal) hx (by simp [hm]) ?_ (byteVal_one _) (by unfold maxLen; omega) (by omega) hbase ?_
  · intro j u hj
    have hjl : j < news.length := by
      have := (List.getElem?_eq_some_iff.1 hj).1
      simpa using this
    rw [hnews j hjl]
    simp [List.getElem?_eq_getElem hjl] at hj
    rw [← hj]
  · intro v' w' h2 h3 _
    refine h v' w' ?_ (Keeps.grown hown h3)
    unfold Owns
    rw [List.map_append, List.length_append, hm]
    exact h2
theorem app_string {w : World} {ops : Array Oper} {rest : List Oper} {o : Oper} {a : Act} {Q : Exit → Act → World → Prop} (hgd : o.guard = none) (sl x : Operand)
    (ho : o.op = .call { callee := .builtin .append, args := #[sl, x], argTypes := #[102, 9] }) (base : Nat) (v : Value) (l : List UInt8) (hs : a.eval sl = v) (hown : Owns w base v l)
    (s : ByteArray) (hx : a.eval x = .string s) (hlen : l.length + s.size ≤ 1000000) (hbase : base ≤ w.heap.size)
    (h : ∀ v' w', Owns w' base v' (l ++ s.data.toList) → Keeps base 5 w w' → wpList Tryz.prog ops Q rest (a.put o.dst v') w') : wpList Tryz.prog ops Q (o :: rest) a w := by
  obtain ⟨i0, hi, hz0, hz1, hz2⟩ := info_parts info_u8
  refine Lib.wpList_append_own_string w hgd sl x 102 9 ho base 5 i0 Tryz.underlying102 Tryz.underlying9 hi hz0 hz1 hz2 v l.length (l.map byteVal) hs hown s hx (by unfold maxLen; omega) (by omega) hbase ?_
  intro v' w' h2 h3 _
  refine h v' w' ?_ (Keeps.grown hown h3)
  unfold Owns
  rw [List.map_append, List.length_append, len_eq]
  exact h2
theorem byteVal_nat (n : Nat) (h : n < 256) : byteVal (UInt8.ofNat n) = .int .u8 (n : Int) := by
  unfold byteVal; rw [UInt8.toNat_ofNat_of_lt' (by simpa using h)]
theorem one_new (w : World) (n : Nat) (h : n < 256) : ∀ j (hj : j < [UInt8.ofNat n].length), (w.alloc (.cells #[.int .u8 (n : Int)] 5)).cell? ((⟨w.heap.size, 0, none⟩ : Addr).add j) = some (byteVal [UInt8.ofNat n][j]) := by
  intro j hj
  match j, hj with
  | 0, _ => simp only [List.getElem_cons_zero, byteVal_nat n h]; simp [Addr.add]
set_option maxHeartbeats 1000000 in
theorem appendCounted_any (base : Nat) (v : Value) (l : List UInt8) (s : ByteArray) (w : World) (hs : s.size < 256) (hl : l.length ≤ 100000) (hb : base ≤ w.heap.size) (ho : Owns w base v l) :
    Calls Tryz.prog 143 #[v, .string s] w fun e w' => ∃ v', e = .returned v' ∧ Owns w' base v' (l ++ UInt8.ofNat s.size :: s.data.toList) ∧ Keeps base 5 w w' := by
  go_enter Tryz.func143, Tryz.ntmps143
  go_wp2_with (at_builtin; refine app_bytes rfl (.tmp 5) (.tmp 9) rfl base v l rfl (ho.alloc _) ⟨w.heap.size, 0, none⟩ 1 1 [UInt8.ofNat s.size] rfl rfl ?qa ?qb ?qc ?_)
  case qa => exact one_new w s.size hs
  case qb => omega
  case qc => simp; omega
  intro v1 w1 ho1 hk1
  go_wp2_with (at_builtin; refine app_string rfl (.tmp 11) (.tmp 12) rfl base v1 _ rfl ho1 s rfl ?qd ?qe ?_)
  case qd => simp; omega
  case qe => have := hk1.size; simp at this; omega
  intro v2 w2 ho2 hk2
  go_wp2
  go_ret
  refine ⟨v2, rfl, ?_, ((Keeps.refl _ _ _).alloc _).trans (hk1.trans hk2)⟩
  simpa using ho2
def itemBytes (x : P.It) : List UInt8 :=
  UInt8.ofNat x.kind.toNat :: UInt8.ofNat x.name.size :: (x.name.data.toList ++ (if x.kind = 3 then UInt8.ofNat x.tgt.size :: x.tgt.data.toList
    else x.dig.data.toList ++ [UInt8.ofNat (x.size % 256).toNat, UInt8.ofNat (x.size / 256).toNat]))
theorem two_new (w : World) (m n : Nat) (hm : m < 256) (hn : n < 256) : ∀ j (hj : j < [UInt8.ofNat m, UInt8.ofNat n].length), (w.alloc (.cells #[.int .u8 (m : Int), .int .u8 (n : Int)] 5)).cell? ((⟨w.heap.size, 0, none⟩ : Addr).add j) = some (byteVal [UInt8.ofNat m, UInt8.ofNat n][j]) := by
  intro j hj
  match j, hj with
  | 0, _ => simp only [List.getElem_cons_zero, byteVal_nat m hm]; simp [Addr.add]
  | 1, _ => simp only [List.getElem_cons_succ, List.getElem_cons_zero, byteVal_nat n hn]; simp [Addr.add]
structure Sane (x : P.It) : Prop where
  k0 : 0 ≤ x.kind
  k3 : x.kind ≤ 3
  nm : x.name.size ≤ 12
  tg : x.tgt.size ≤ 30
  dg : x.dig.size ≤ 3
  s0 : 0 ≤ x.size
  s1 : x.size ≤ 2000
def Box (w : World) (k : Nat) (nm : ByteArray) (kd : Int) (dg : ByteArray) (sz : Int) (tg : ByteArray) : Prop :=
  w.heap[k]? = some (.cells #[.string nm, .int .i64 kd, .string dg, .int .i64 sz, .string tg] 47 (0, 0))
theorem Box.cells {w : World} {k : Nat} {nm : ByteArray} {kd : Int} {dg : ByteArray} {sz : Int} {tg : ByteArray} (h : Box w k nm kd dg sz tg) :
    w.cell? ⟨k, 0, none⟩ = some (.string nm) ∧ w.cell? ⟨k, 1, none⟩ = some (.int .i64 kd) ∧ w.cell? ⟨k, 2, none⟩ = some (.string dg) ∧ w.cell? ⟨k, 3, none⟩ = some (.int .i64 sz) ∧ w.cell? ⟨k, 4, none⟩ = some (.string tg) := by
  refine ⟨?_, ?_, ?_, ?_, ?_⟩ <;> (rw [cell_of_block h]; rfl)
theorem Box.kept {base : Nat} {w w' : World} {k : Nat} {nm : ByteArray} {kd : Int} {dg : ByteArray} {sz : Int} {tg : ByteArray} (h : Box w k nm kd dg sz tg) (hk : Keeps base 5 w w') : Box w' k nm kd dg sz tg :=
  hk.other h (by decide)
theorem Box.new (w : World) (nm : ByteArray) (kd : Int) (dg : ByteArray) (sz : Int) (tg : ByteArray) : Box (w.alloc (.cells #[.string nm, .int .i64 kd, .string dg, .int .i64 sz, .string tg] 47)) w.heap.size nm kd dg sz tg := heap_alloc_new w _
set_option maxHeartbeats 1000000 in
theorem appendItem_any (base : Nat) (v : Value) (l : List UInt8) (nm : ByteArray) (kd : Nat) (dg : ByteArray) (sz : Int) (tg : ByteArray) (w : World) (hx : Sane ⟨nm, kd, dg, sz, tg⟩) (hl : l.length ≤ 10000) (hb : base ≤ w.heap.size) (ho : Owns w base v l) :
    Calls Tryz.prog 94 #[v, .agg #[.string nm, .int .i64 kd, .string dg, .int .i64 sz, .string tg]] w fun e w' => ∃ v', e = .returned v' ∧ Owns w' base v' (l ++ itemBytes ⟨nm, kd, dg, sz, tg⟩) ∧ Keeps base 5 w w' := by
  obtain ⟨k0, k3, h1, h2, h3, s0, s1⟩ := hx
  simp only at k0 k3 h1 h2 h3 s0 s1
  go_enter Tryz.func94, Tryz.ntmps94
  go_wp2_with (at_builtin; refine app_bytes rfl (.tmp 5) (.tmp 9) rfl base v l rfl ((ho.alloc _).alloc _) ⟨w.heap.size + 1, 0, none⟩ 1 1 [UInt8.ofNat kd] rfl rfl ?qa ?qb ?qc ?_)
  case qa =>
    have := one_new (w.alloc (.cells #[.string nm, .int .i64 kd, .string dg, .int .i64 sz, .string tg] 47)) kd (by omega)
    simpa using this
  case qb => omega
  case qc => simp; omega
  intro v1 w1 ho1 hk1
  have hk1' : Keeps base 5 (w.alloc (.cells #[.string nm, .int .i64 kd, .string dg, .int .i64 sz, .string tg] 47)) w1 := ((Keeps.refl _ _ _).alloc _).trans hk1
  have hx1 := (Box.new w nm kd dg sz tg).kept hk1'
  have z1 : w.heap.size + 1 ≤ w1.heap.size := by have := hk1'.size; simpa using this
  obtain ⟨c0, c1, c2, c3, c4⟩ := hx1.cells
  clear hk1
  go_wp2_with fail
  refine (appendCounted_any base v1 _ nm _ (by omega) (by simp; omega) (by omega) ho1).mono ?_
  rintro e w2 ⟨v2, rfl, ho2, hk2⟩
  have hx2 := hx1.kept hk2
  have z2 := hk2.size
  clear c0 c1 c2 c3 c4
  obtain ⟨c0, c1, c2, c3, c4⟩ := hx2.cells
  have Hh := hide (show P.shape (kd : Int) = if (kd : Int) = 3 then 2 else 1 by unfold P.shape; repeat (first | omega | split))
  go_wp2_with fail
  refine (shapeOf_any _ _).mono ?_
  rintro e w3 ⟨rfl, hw3⟩
  subst hw3
  by_cases h3k : kd = 3
  · subst h3k
    have e3 : P.shape ((3 : Nat) : Int) = 2 := rfl
    rw [e3]
    go_wp2_with fail
    refine (appendCounted_any base v2 _ tg _ (by omega) (by simp; omega) (by omega) ho2).mono ?_
    rintro e w4 ⟨v4, rfl, ho4, hk4⟩
    go_wp2_with fail
    go_ret
    refine ⟨v4, rfl, ?_, ((Keeps.refl _ _ _).alloc _).trans (hk1'.trans (hk2.trans hk4))⟩
    simpa [itemBytes] using ho4
  · have e1 : P.shape (kd : Int) = 1 := by rw [unhide Hh, if_neg (by omega)]
    rw [e1]
    clear e1
    go_wp2_with (at_builtin; refine app_string rfl (.tmp 23) (.tmp 25) rfl base v2 _ rfl ho2 dg rfl ?qd ?qe ?_)
    case qd => simp; omega
    case qe => omega
    intro v4 w4 ho4 hk4
    have hx4 := hx2.kept hk4
    have z4 := hk4.size
    clear c0 c1 c2 c3 c4
    obtain ⟨c0, c1, c2, c3, c4⟩ := hx4.cells
    obtain ⟨sn, rfl⟩ : ∃ sn : Nat, sz = sn := ⟨sz.toNat, by omega⟩
    go_wp2_with (at_builtin; refine app_bytes rfl (.tmp 27) (.tmp 36) rfl base v4 _ rfl (ho4.alloc _) ⟨w4.heap.size, 0, none⟩ 2 2 [UInt8.ofNat (sn % 256), UInt8.ofNat (sn / 256)] rfl rfl ?qf ?qg ?qh ?_)
    case qf =>
      have h := two_new w4 (sn % 256) (sn / 256) (by omega) (by omega)
      simpa using h
    case qg => simp; omega
    case qh => simp; omega
    intro v5 w5 ho5 hk5
    go_wp2_with fail
    go_ret
    refine ⟨v5, rfl, ?_, ((Keeps.refl _ _ _).alloc _).trans (hk1'.trans (hk2.trans (hk4.trans (((Keeps.refl _ _ _).alloc _).trans hk5))))⟩
    have a1 : ((sn : Int) % 256).toNat = sn % 256 := by omega
    have a2 : ((sn : Int) / 256).toNat = sn / 256 := by omega
    unfold itemBytes
    simp only
    rw [if_neg (by omega), a1, a2, Int.toNat_natCast]
    exact ho5
def itemsBytes (l : List P.It) : List UInt8 := (l.map itemBytes).flatten
def dirBytes (l : List P.It) : List UInt8 := 84 :: UInt8.ofNat l.length :: itemsBytes l
theorem itemsBytes_snoc (l : List P.It) (x : P.It) : itemsBytes (l ++ [x]) = itemsBytes l ++ itemBytes x := by simp [itemsBytes]
theorem itemBytes_len (x : P.It) (h : Sane x) : (itemBytes x).length ≤ 60 := by
  obtain ⟨k0, k3, h1, h2, h3, s0, s1⟩ := h
  unfold itemBytes
  split
  · simp; omega
  · simp; omega
theorem itemsBytes_len : ∀ (l : List P.It), (∀ x ∈ l, Sane x) → (itemsBytes l).length ≤ 60 * l.length
  | [], _ => by simp [itemsBytes]
  | x :: l, h => by
    have h1 := itemBytes_len x (h x (by simp))
    have h2 := itemsBytes_len l (fun y hy => h y (by simp [hy]))
    have e : itemsBytes (x :: l) = itemBytes x ++ itemsBytes l := by simp [itemsBytes]
    rw [e, List.length_append, List.length_cons]; omega
theorem sane_of_ok (x : P.It) (h : P.itemOk x = true) : Sane x := by
  unfold P.itemOk at h
  rw [Bool.and_eq_true] at h
  obtain ⟨hn, hr⟩ := h
  unfold P.isName at hn
  simp only [Bool.and_eq_true, decide_eq_true_eq, len_eq] at hn
  by_cases k1 : P.shape x.kind = 1
  · rw [if_pos k1] at hr
    unfold P.plainOk P.isDigest P.within at hr
    simp only [Bool.and_eq_true, decide_eq_true_eq, len_eq, ByteArray.toList_eq, List.isEmpty_iff] at hr
    have ht : x.tgt.size = 0 := by rw [← len_eq, hr.2]; rfl
    have hk : x.kind = 0 ∨ x.kind = 1 ∨ x.kind = 2 := by
      unfold P.shape at k1
      repeat (first | omega | split at k1)
    exact ⟨by omega, by omega, by omega, by omega, by omega, by omega, by omega⟩
  · rw [if_neg k1] at hr
    by_cases k2 : P.shape x.kind = 2
    · rw [if_pos k2] at hr
      unfold P.linkOk P.isTarget at hr
      simp only [Bool.and_eq_true, decide_eq_true_eq, len_eq, ByteArray.toList_eq, List.isEmpty_iff, beq_iff_eq] at hr
      have ht : x.dig.size = 0 := by rw [← len_eq, hr.1.2]; rfl
      have hk : x.kind = 3 := by
        unfold P.shape at k2
        repeat (first | omega | split at k2)
      exact ⟨by omega, by omega, by omega, by omega, by omega, by omega, by omega⟩
    · rw [if_neg k2] at hr; simp at hr
theorem ok_of_dirOk (l : List P.It) (h : dirOk l = true) (k : Nat) (hk : k < l.length) : P.itemOk l[k] = true := by
  unfold dirOk okTo at h
  rw [Bool.and_eq_true, List.all_eq_true] at h
  have := h.2 k (by simpa using hk)
  unfold okAt at this
  rw [getD_eq l k hk, Bool.and_eq_true] at this
  exact this.1
theorem len_of_dirOk (l : List P.It) (h : dirOk l = true) : l.length ≤ 40 := by
  unfold dirOk at h
  rw [Bool.and_eq_true, decide_eq_true_eq] at h
  exact h.1
end Go.Proofs.YtjmacegibchplaaGreatDoor
