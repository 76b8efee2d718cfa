import Derived.Test.YtjmacegibchplaaGreatDoorTextB
import Derived.Laws.IdiomCopy
import Derived.Test.YtjmacegibchplaaGreatDoorReadA
import Derived.Lib.SliceRun
import Derived.Test.YtjmacegibchplaaGreatDoorReadB
/-
  Rows of records in memory: n cells a record; made, copied, stored.
-/
namespace Go.Proofs.YtjmacegibchplaaGreatDoor
open Go.RowKit
set_option linter.unusedVariables false
section
variable {α : Type} (enc : α → List Value) (n : Nat)
def rowCells (l : List α) : List Value := (l.map enc).flatten
def RowAt (w : World) (b o : Nat) (l : List α) : Prop :=
  ∀ i (h : i < l.length) j (v : Value), (enc l[i])[j]? = some v → w.cell? ⟨b, o + i * n + j, none⟩ = some v
variable {enc n}
theorem rowCells_length (hn : ∀ x, (enc x).length = n) (l : List α) : (rowCells enc l).length = l.length * n := by
  induction l with
  | nil => simp [rowCells]
  | cons x l ih =>
    have e : rowCells enc (x :: l) = enc x ++ rowCells enc l := by simp [rowCells]
    rw [e, List.length_append, hn, ih, List.length_cons, Nat.add_mul, Nat.one_mul, Nat.add_comm]
theorem rowCells_at (hn : ∀ x, (enc x).length = n) : ∀ (l : List α) (i : Nat) (h : i < l.length) (j : Nat), j < n → (rowCells enc l)[i * n + j]? = (enc l[i])[j]?
  | [], i, h, _, _ => absurd h (by simp)
  | x :: l, 0, _, j, hj => by
    have e : rowCells enc (x :: l) = enc x ++ rowCells enc l := by simp [rowCells]
    rw [e, Nat.zero_mul, Nat.zero_add, List.getElem?_append_left (by rw [hn]; exact hj)]; rfl
  | x :: l, i + 1, h, j, hj => by
    have e : rowCells enc (x :: l) = enc x ++ rowCells enc l := by simp [rowCells]
    rw [e, List.getElem?_append_right (by rw [hn, Nat.add_mul]; omega), hn]
    have := rowCells_at hn l i (by simpa using h) j hj
    rw [show (i + 1) * n + j - n = i * n + j by rw [Nat.add_mul]; omega, this]; rfl
theorem RowAt.below {B : Nat} {w w' : World} {b o : Nat} {l : List α} (h : RowAt enc n w b o l) (hb : Below B w w') (hB : w.heap.size ≤ B) : RowAt enc n w' b o l := by
  intro i hi j v hv
  have h1 := h i hi j v hv
  have hl : b < w.heap.size := by
    rcases Nat.lt_or_ge b w.heap.size with hl | hl
    · exact hl
    · have hz : w.heap[b]? = none := by simp [hl]
      simp [World.cell?, hz] at h1
  exact (hb.cell (p := ⟨b, _, none⟩) (Nat.lt_of_lt_of_le hl hB)).trans h1
theorem RowAt.made (hn : ∀ x, (enc x).length = n) (x0 : α) (z : Array Value) (hz : z.toList = enc x0) (N : Nat) (w : World) (e : TypeId) :
    RowAt enc n (w.alloc (.cells (madeCells z (N * n)) e)) w.heap.size 0 (List.replicate N x0) := by
  intro i hi j v hv
  have hiN : i < N := by simpa using hi
  rw [List.getElem_replicate] at hv
  have hjn : j < n := by
    have := (List.getElem?_eq_some_iff.1 hv).1
    rwa [hn] at this
  have hzs : z.size = n := by rw [← Array.length_toList, hz, hn]
  have hlt : i * n + j < N * n := by
    have : (i + 1) * n ≤ N * n := Nat.mul_le_mul_right _ (by omega)
    rw [Nat.add_mul] at this; omega
  rw [cell_of_block (heap_alloc_new w _), Nat.zero_add]
  have hm : (madeCells z (N * n))[i * n + j]? = some z[(i * n + j) % z.size]! := by
    unfold madeCells
    simp [hlt]
  rw [hm, hzs, Nat.mul_add_mod', Nat.mod_eq_of_lt hjn]
  rw [← hz] at hv
  simp at hv
  simp [getElem!_def, hv]
theorem RowAt.store (hn : ∀ x, (enc x).length = n) {w : World} {b o : Nat} {l : List α} (h : RowAt enc n w b o l) (i : Nat) (hi : i < l.length) (x : α) :
    RowAt enc n (w.setCells b (o + i * n) (enc x)) b o (l.set i x) := by
  intro k hk j v hv
  have hkl : k < l.length := by simpa using hk
  by_cases hik : i = k
  · subst hik
    rw [List.getElem_set_self] at hv
    obtain ⟨hj, hjv⟩ := List.getElem?_eq_some_iff.1 hv
    have := World.cell?_setCells_in b (enc x) (o + i * n) w (fun j' hj' => by
      have hj2 : j' < (enc l[i]).length := by rw [hn]; rw [hn] at hj'; exact hj'
      rw [h i hi j' (enc l[i])[j'] (List.getElem?_eq_getElem hj2)]; rfl) j hj
    rw [this, hjv]
  · rw [List.getElem_set_ne hik] at hv
    have hjn : j < n := by
      have := (List.getElem?_eq_some_iff.1 hv).1
      rwa [hn] at this
    rw [World.cell?_setCells_out b (enc x) _ w _ (fun _ _ => ?_)]
    · exact h k hkl j v hv
    · simp only [hn]
      rcases Nat.lt_or_ge k i with hlt | hge
      · left
        have : (k + 1) * n ≤ i * n := Nat.mul_le_mul_right _ hlt
        rw [Nat.add_mul] at this; omega
      · right
        have : (i + 1) * n ≤ k * n := Nat.mul_le_mul_right _ (by omega)
        rw [Nat.add_mul] at this; omega
theorem RowAt.cell (hn : ∀ x, (enc x).length = n) {w : World} {b o : Nat} {l : List α} (h : RowAt enc n w b o l) (j : Nat) (hj : j < l.length * n) : ∃ v, (rowCells enc l)[j]? = some v ∧ w.cell? ⟨b, o + j, none⟩ = some v := by
  have hnp : 0 < n := by
    rcases Nat.eq_zero_or_pos n with h0 | h0
    · subst h0; simp at hj
    · exact h0
  have hq : j / n < l.length := Nat.div_lt_of_lt_mul (by rw [Nat.mul_comm]; exact hj)
  have hr : j % n < n := Nat.mod_lt _ hnp
  have hj2 : j % n < (enc l[j / n]).length := by rw [hn]; exact hr
  have e := Nat.div_add_mod j n
  rw [Nat.mul_comm] at e
  refine ⟨(enc l[j / n])[j % n], ?_, ?_⟩
  · have := rowCells_at hn l (j / n) hq (j % n) hr
    rw [e] at this
    rw [this]; exact List.getElem?_eq_getElem hj2
  · have := h (j / n) hq (j % n) _ (List.getElem?_eq_getElem hj2)
    rw [Nat.add_assoc, e] at this
    exact this
theorem RowAt.src (hn : ∀ x, (enc x).length = n) {w : World} {b o : Nat} {l : List α} (h : RowAt enc n w b o l) : ∀ j v, (rowCells enc l)[j]? = some v → w.cell? ((⟨b, o, none⟩ : Addr).add j) = some v := by
  intro j v hv
  have hj : j < l.length * n := by
    have := (List.getElem?_eq_some_iff.1 hv).1
    rwa [rowCells_length hn] at this
  obtain ⟨u, hu, hc⟩ := h.cell hn j hj
  rw [hv] at hu
  have hadd : (⟨b, o, none⟩ : Addr).add j = ⟨b, o + j, none⟩ := by unfold Addr.add; split <;> simp_all
  rw [hadd, hc, hu]
end
end Go.Proofs.YtjmacegibchplaaGreatDoor

/-
  The statements' own copies of lists of items, and how they are looked at again.
-/
namespace Go.Proofs.YtjmacegibchplaaGreatDoor
open Go.RowKit
set_option linter.unusedVariables false
def itCells (x : P.It) : List Value := [.string x.name, .int .i64 x.kind, .string x.dig, .int .i64 x.size, .string x.tgt]
theorem itCells_len (x : P.It) : (itCells x).length = 5 := rfl
theorem itCells_one (l : List P.It) : ∀ v ∈ rowCells itCells l, v.oneCell' = true := by
  intro v hv
  simp only [rowCells, List.mem_flatten, List.mem_map] at hv
  obtain ⟨c, ⟨x, _, rfl⟩, hx⟩ := hv
  simp only [itCells, List.mem_cons, List.not_mem_nil, or_false] at hx
  rcases hx with rfl | rfl | rfl | rfl | rfl <;> rfl
theorem ItemsAt.row {w : World} {b o : Nat} {l : List P.It} (h : ItemsAt w b o l) : RowAt itCells 5 w b o l := by
  intro i hi j v hv
  obtain ⟨c0, c1, c2, c3, c4⟩ := h i hi
  match j, hv with
  | 0, hv => simp [itCells] at hv; rw [← hv]; exact c0
  | 1, hv => simp [itCells] at hv; rw [← hv]; exact c1
  | 2, hv => simp [itCells] at hv; rw [← hv]; exact c2
  | 3, hv => simp [itCells] at hv; rw [← hv]; exact c3
  | 4, hv => simp [itCells] at hv; rw [← hv]; exact c4
  | j + 5, hv => simp [itCells] at hv
theorem ItemsAt.of_row {w : World} {b o : Nat} {l : List P.It} (h : RowAt itCells 5 w b o l) : ItemsAt w b o l := by
  intro i hi
  exact ⟨h i hi 0 _ rfl, h i hi 1 _ rfl, h i hi 2 _ rfl, h i hi 3 _ rfl, h i hi 4 _ rfl⟩
theorem info_item : (Tryz.prog.info? 47).map (fun i => (i.zero, i.size, i.bytes)) = some (some (.agg #[.string ⟨#[]⟩, .int .i64 0, .string ⟨#[]⟩, .int .i64 0, .string ⟨#[]⟩]), 5, 64) := by kernel_rfl
theorem Lies.src {w : World} {ad : Addr} {l : List P.It} (h : Lies w (some ad) l) : ∀ j v, (rowCells itCells l)[j]? = some v → w.cell? (ad.add j) = some v := by
  rcases h with rfl | ⟨b, o, e, h⟩
  · intro j v hv; simp [rowCells] at hv
  · simp at e; subst e
    exact h.row.src itCells_len
end Go.Proofs.YtjmacegibchplaaGreatDoor

/-
  The program's reading of a directory's bytes: its contract.
-/
namespace Go.Proofs.YtjmacegibchplaaGreatDoor
open Go.RowKit
set_option linter.unusedVariables false
def rAt (s : RS) : Nat → RS
  | 0 => s
  | k + 1 => (rItem (rAt s k)).2
def rGot (s : RS) : Nat → List P.It
  | 0 => []
  | k + 1 => rGot s k ++ [(rItem (rAt s k)).1]
theorem rGot_len (s : RS) : ∀ k, (rGot s k).length = k
  | 0 => rfl
  | k + 1 => by simp [rGot, rGot_len s k]
theorem rItem_len (s : RS) : (rItem s).2.rest.length ≤ s.rest.length := by
  unfold rItem
  simp only
  have z1 := rOne_len s
  have z2 := rOne_len (rOne s).2
  have z3 := rTake_len (rOne (rOne s).2).2 (rOne (rOne s).2).1
  split
  · have z4 := rOne_len (rTake (rOne (rOne s).2).2 (rOne (rOne s).2).1).2
    have z5 := rTake_len (rOne (rTake (rOne (rOne s).2).2 (rOne (rOne s).2).1).2).2 (rOne (rTake (rOne (rOne s).2).2 (rOne (rOne s).2).1).2).1
    simp only; omega
  · have z4 := rTake_len (rTake (rOne (rOne s).2).2 (rOne (rOne s).2).1).2 3
    have z5 := rOne_len (rTake (rTake (rOne (rOne s).2).2 (rOne (rOne s).2).1).2 3).2
    have z6 := rOne_len (rOne (rTake (rTake (rOne (rOne s).2).2 (rOne (rOne s).2).1).2 3).2).2
    simp only; omega
theorem rAt_len (s : RS) : ∀ k, (rAt s k).rest.length ≤ s.rest.length
  | 0 => Nat.le_refl _
  | k + 1 => Nat.le_trans (rItem_len _) (rAt_len s k)
theorem take_part (s : RS) (n : Nat) : (rTake s n).1.length ≤ s.rest.length := by
  unfold rTake; split <;> simp; omega
theorem rItem_fits (s : RS) (h : s.rest.length ≤ maxLen) : Fits (rItem s).1 := by
  unfold rItem
  simp only
  have z1 := rOne_len s
  have z2 := rOne_len (rOne s).2
  have z3 := rTake_len (rOne (rOne s).2).2 (rOne (rOne s).2).1
  have p3 := take_part (rOne (rOne s).2).2 (rOne (rOne s).2).1
  split
  · have z4 := rOne_len (rTake (rOne (rOne s).2).2 (rOne (rOne s).2).1).2
    have p5 := take_part (rOne (rTake (rOne (rOne s).2).2 (rOne (rOne s).2).1).2).2 (rOne (rTake (rOne (rOne s).2).2 (rOne (rOne s).2).1).2).1
    exact ⟨by simp only [bs_size]; omega, Nat.zero_le _, by simp only [bs_size]; omega⟩
  · have p4 := take_part (rTake (rOne (rOne s).2).2 (rOne (rOne s).2).1).2 3
    exact ⟨by simp only [bs_size]; omega, by simp only [bs_size]; omega, Nat.zero_le _⟩
theorem rGot_fits (s : RS) (h : s.rest.length ≤ maxLen) : ∀ k, FitAll (rGot s k)
  | 0 => fun i hi => absurd hi (by simp [rGot])
  | k + 1 => fun i hi => by
    have ih := rGot_fits s h k
    simp only [rGot] at hi ⊢
    by_cases hlt : i < (rGot s k).length
    · rw [List.getElem_append_left hlt]; exact ih i hlt
    · rw [List.getElem_append_right (by omega)]
      have : i - (rGot s k).length = 0 := by simp at hi; omega
      simp only [this, List.getElem_cons_zero]
      exact rItem_fits _ (Nat.le_trans (rAt_len s k) h)
def readOk (l : List UInt8) : Option (List P.It) :=
  if (rOne ⟨l, false⟩).1 = 84 then
    let c := rOne (rOne ⟨l, false⟩).2
    if c.2.short = false ∧ (rAt c.2 c.1).short = false ∧ (rAt c.2 c.1).rest = [] then some (rGot c.2 c.1) else none
  else none
theorem rTake_stays (s : RS) (n : Nat) (h : s.short = true) : (rTake s n).2.short = true := by
  unfold rTake; split
  · rfl
  · exact h
theorem rOne_stays (s : RS) (h : s.short = true) : (rOne s).2.short = true := by
  have := rTake_stays s 1 h
  unfold rOne; split <;> exact this
theorem rItem_stays (s : RS) (h : s.short = true) : (rItem s).2.short = true := by
  unfold rItem
  simp only
  have z1 := rOne_stays s h
  have z2 := rOne_stays (rOne s).2 z1
  have z3 := rTake_stays (rOne (rOne s).2).2 (rOne (rOne s).2).1 z2
  generalize rTake (rOne (rOne s).2).2 (rOne (rOne s).2).1 = nm at *
  split
  · have z4 := rOne_stays nm.2 z3
    have z5 := rTake_stays (rOne nm.2).2 (rOne nm.2).1 z4
    simp only; exact z5
  · have z4 := rTake_stays nm.2 3 z3
    have z5 := rOne_stays (rTake nm.2 3).2 z4
    have z6 := rOne_stays (rOne (rTake nm.2 3).2).2 z5
    simp only; exact z6
theorem rAt_stays (s : RS) (k : Nat) (h : (rAt s k).short = true) : ∀ n, k ≤ n → (rAt s n).short = true
  | 0, hn => by obtain rfl : k = 0 := by omega
                exact h
  | n + 1, hn => by
    by_cases e : k = n + 1
    · subst e; exact h
    · exact rItem_stays _ (rAt_stays s k h n (by omega))
def OwnsIt (w : World) (base : Nat) (v : Value) (l : List P.It) : Prop := w.ownsRow base 47 5 v l.length (rowCells itCells l)
theorem OwnsIt.lies {w : World} {base : Nat} {v : Value} {l : List P.It} (h : OwnsIt w base v l) : ∃ a c, v = .slice a l.length c ∧ Lies w a l ∧ (a = none → c = 0) := by
  rcases h.2 with ⟨rfl, hn⟩ | ⟨g, cap, cur, rfl, _, hg, hnc, hcm, hcs, htake⟩
  · exact ⟨none, 0, by rw [hn], .inl (List.eq_nil_of_length_eq_zero hn), fun _ => rfl⟩
  · refine ⟨some ⟨g, 0, none⟩, cap, rfl, .inr ⟨g, 0, rfl, ItemsAt.of_row ?_⟩, fun h => by simp at h⟩
    intro i hi j v hv
    have hj : j < 5 := (List.getElem?_eq_some_iff.1 hv).1
    have := World.ownsRow.cells h (g := g) rfl (i * 5 + j) v (by rw [rowCells_at itCells_len l i hi j hj]; exact hv)
    have hadd : (⟨g, 0, none⟩ : Addr).add (i * 5 + j) = ⟨g, 0 + i * 5 + j, none⟩ := by
      unfold Addr.add; split <;> simp_all
    rw [hadd] at this
    exact this
theorem OwnsIt.grown {w w' : World} {base q : Nat} {v : Value} {l : List P.It} {s : RS} (h : OwnsIt w base v l) (hr : Rd w q s) (hg : w.grownBy w' (some q)) : OwnsIt w' base v l := by
  refine World.ownsRow.kept h hg ?_
  rcases h.2 with ⟨rfl, hn⟩ | ⟨g, cap, cur, rfl, _, hgg, _⟩
  · left; rfl
  · right
    simp only [Value.ownBlock]
    intro e
    simp at e
    subst e
    unfold Rd at hr
    rw [hgg] at hr
    simp at hr
theorem Rd.apart {w w' : World} {base q : Nat} {v : Value} {l : List P.It} {s : RS} (hr : Rd w q s) (h : OwnsIt w base v l) (hg : w.grownBy w' v.ownBlock) : Rd w' q s := by
  refine (hg.block q hr.lt ?_).trans hr
  rcases h.2 with ⟨rfl, hn⟩ | ⟨g, cap, cur, rfl, _, hgg, _⟩
  · simp [Value.ownBlock]
  · simp only [Value.ownBlock]
    intro e
    simp at e
    subst e
    unfold Rd at hr
    rw [hgg] at hr
    simp at hr
theorem app_item {w : World} {ops : Array Oper} {rest : List Oper} {o : Oper} {a : Act} {Q : Exit → Act → World → Prop} (hgd : o.guard = none) (s x : Operand)
    (ho : o.op = .call { callee := .builtin .append, args := #[s, x], argTypes := #[43, 43] }) (base : Nat) (v : Value) (l : List P.It) (hs : a.eval s = v) (hown : OwnsIt w base v l)
    (ad : Addr) (y : P.It) (hx : a.eval x = .slice (some ad) 1 1) (hnews : ∀ j u, (itCells y)[j]? = some u → w.cell? (ad.add j) = some u)
    (hlen : l.length ≤ 1000000) (hbase : base ≤ w.heap.size)
    (h : ∀ v' w', OwnsIt w' base v' (l ++ [y]) → w.grownBy w' v.ownBlock → wpList Tryz.prog ops Q rest (a.put o.dst v') w') : wpList Tryz.prog ops Q (o :: rest) a w := by
  obtain ⟨i0, hi, hz0, hz1, hz2⟩ := info_parts info_item
  refine wpList_append_own w hgd s x 43 ho base 47 i0 _ 5 64 Tryz.underlying43 hi hz0 hz1 hz2 rfl (by decide) v l.length (rowCells itCells l) hs hown ad 1 1 (itCells y) hx rfl hnews ?_ (by unfold maxLen; omega) (by omega) hbase ?_
  · intro u hu
    exact itCells_one [y] u (by simpa [rowCells] using hu)
  · intro v' w' h2 h3 _
    refine h v' w' ?_ h3
    unfold OwnsIt
    rw [show rowCells itCells (l ++ [y]) = rowCells itCells l ++ itCells y by simp [rowCells], List.length_append]
    exact h2
set_option maxHeartbeats 2000000 in
theorem read_any (l : List UInt8) (w : World) (hl : l.length ≤ maxLen) :
    Calls Tryz.prog 84 #[.string (bs l)] w fun e w' => ∃ v b, e = .returned (.tuple #[v, .bool b]) ∧ Below w.heap.size w w' ∧ (b = false → readOk l = none)
      ∧ (b = true → ∃ items, readOk l = some items ∧ FitAll items ∧ items.length ≤ 255 ∧ OwnsIt w' w.heap.size v items) := by
  obtain ⟨k1, hk1⟩ : ∃ k1, rOne ⟨l, false⟩ = k1 := ⟨_, rfl⟩
  obtain ⟨c1, hc1⟩ : ∃ c1, rOne k1.2 = c1 := ⟨_, rfl⟩
  have z1 := rOne_len ⟨l, false⟩
  have z2 := rOne_len k1.2
  have bc := rOne_bd k1.2
  have bk := rOne_bd ⟨l, false⟩
  rw [hk1] at z1 bk
  rw [hc1] at z2 bc
  simp only at z1
  have hok : readOk l = if k1.1 = 84 then (if c1.2.short = false ∧ (rAt c1.2 c1.1).short = false ∧ (rAt c1.2 c1.1).rest = [] then some (rGot c1.2 c1.1) else none) else none := by
    unfold readOk; rw [hk1]; simp only; rw [hc1]
  have Hok := hide hok
  have H1 := hide hk1
  have H2 := hide hc1
  clear hok hk1 hc1
  have hr0 : Rd (w.alloc (.cells #[.string (bs l), .bool false] 168)) w.heap.size ⟨l, false⟩ := heap_alloc_new w _
  go_enter Tryz.func84, Tryz.ntmps84
  go_wp2_with fail
  refine (one_any w.heap.size ⟨l, false⟩ _ hl hr0).mono ?_
  rintro e w1 ⟨rfl, h1, g1⟩
  rw [unhide H1] at h1 ⊢
  have hb1 : Below w.heap.size w w1 := ((Below.refl _ _).alloc (Nat.le_refl _) _).grown g1 (by simp) (fun k hk => by simp at hk; omega)
  clear g1 hr0
  by_cases h84 : k1.1 = 84
  · have g84 : (((k1.1 : Nat) : Int) != 84) = false := by rw [h84]; rfl
    have Hok2 := unhide Hok
    rw [if_pos h84] at Hok2
    have Hok3 := hide Hok2
    clear Hok2 h84
    go_wp2_with fail
    refine (one_any w.heap.size k1.2 w1 (by omega) h1).mono ?_
    rintro e w2 ⟨rfl, h2, g2⟩
    rw [unhide H2] at h2 ⊢
    have hb2 : Below w.heap.size w w2 := hb1.grown g2 hb1.size (fun k hk => by simp at hk; omega)
    clear g2 h1
    go_wp2_with fail
    go_loopw [6, 13] (fun v i wr => ∃ k : Nat, k ≤ c1.1 ∧ i = .int .i64 k ∧ OwnsIt wr w.heap.size v (rGot c1.2 k) ∧ Rd wr w.heap.size (rAt c1.2 k) ∧ Below w.heap.size w wr) (fun _ i _ => c1.1 - (intOf i).toNat)
    case atStart => exact ⟨0, Nat.zero_le _, rfl, World.ownsRow_nil _ _ _ _, h2, hb2⟩
    case round =>
      obtain ⟨k, hk, rfl, hown, hrd, hbel⟩ := hrel
      clear h2 hb2 hb1
      have hlen := rAt_len c1.2 k
      have hgl := rGot_len c1.2 k
      by_cases hlt : k < c1.1
      · go_wp2_with fail
        refine (item_any w.heap.size (rAt c1.2 k) wr (by omega) hrd).mono ?_
        rintro e w3 ⟨rfl, h3, g3⟩
        have ho3 := hown.grown hrd g3
        have hb3 : Below w.heap.size w w3 := hbel.grown g3 hbel.size (fun k hk => by simp at hk; omega)
        clear g3 hrd hown hbel
        obtain ⟨x, hx⟩ : ∃ x, (rItem (rAt c1.2 k)).1 = x := ⟨_, rfl⟩
        rw [hx]
        have Hx := hide hx
        clear hx
        obtain ⟨nm, kd, dg, sz, tg⟩ := x
        unfold itVal
        simp only
        have hsz3 := hb3.size
        have hgl' : (rGot c1.2 k).length ≤ 1000000 := by omega
        have Hgl := hide hgl
        clear hgl
        go_wp2_with (at_builtin; refine app_item rfl (.tmp 15) (.tmp 17) rfl w.heap.size _ (rGot c1.2 k) rfl (World.ownsRow.alloc ho3 _) ⟨w3.heap.size, 0, none⟩ ⟨nm, kd, dg, sz, tg⟩ rfl ?qa ?qb ?qc ?_)
        case qa =>
          intro j u hu
          have := (Box.new w3 nm kd dg sz tg)
          have hj : j < 5 := (List.getElem?_eq_some_iff.1 hu).1
          have hadd : (⟨w3.heap.size, 0, none⟩ : Addr).add j = ⟨w3.heap.size, j, none⟩ := by unfold Addr.add; split <;> simp_all
          rw [hadd, cell_of_block this, ← hu, List.getElem?_toArray]
          rfl
        case qb => exact hgl'
        case qc => simp; omega
        intro v4 w4 ho4 g4
        have h3' : Rd (w3.alloc (.cells #[.string nm, .int .i64 kd, .string dg, .int .i64 sz, .string tg] 47)) w.heap.size (rItem (rAt c1.2 k)).2 := (Below.heap_alloc w3 _ _ h3.lt).trans h3
        have h4 := h3'.apart (World.ownsRow.alloc ho3 _) g4
        have hb4 : Below w.heap.size w w4 := (hb3.alloc hb3.size _).grown g4 (by simp; omega) (fun k hk => (World.ownsRow.lt ho3 k hk).1)
        clear g4 h3 h3' ho3 hb3
        obtain ⟨c0, c1', f0, f1⟩ := h4.cells
        cases hsh : (rItem (rAt c1.2 k)).2.short with
        | true =>
          rw [hsh] at c1'
          have Hsh := hide hsh
          clear hsh
          go_wp2_with fail
          go_ret2
          refine ⟨_, false, rfl, hb4, fun _ => ?_, fun h => by simp at h⟩
          rw [unhide Hok3, if_neg]
          rintro ⟨_, hn, _⟩
          have := rAt_stays c1.2 (k + 1) (unhide Hsh) c1.1 hlt
          rw [this] at hn
          simp at hn
        | false =>
          rw [hsh] at c1'
          have Hsh := hide hsh
          clear hsh
          go_wp2_with fail
          go_roundw
          case rel =>
            refine ⟨k + 1, by omega, by go_num, ?_, h4, hb4⟩
            have : rGot c1.2 (k + 1) = rGot c1.2 k ++ [⟨nm, kd, dg, sz, tg⟩] := by rw [← unhide Hx]; rfl
            rw [this]
            exact ho4
          case measure => simp [intOf]; omega
      · obtain rfl : k = c1.1 := by omega
        obtain ⟨c0, c1', f0, f1⟩ := hrd.cells
        cases hsh : (rAt c1.2 c1.1).short with
        | true =>
          rw [hsh] at c1'
          have Hsh := hide hsh
          clear hsh
          go_wp2_with fail
          go_quiet (fail)
          go_wp2
          go_ret2
          refine ⟨_, false, rfl, below_drewN hbel _, fun _ => ?_, fun h => by simp at h⟩
          rw [unhide Hok3, if_neg]
          rintro ⟨_, hn, _⟩
          rw [unhide Hsh] at hn
          simp at hn
        | false =>
          rw [hsh] at c1'
          have Hsh := hide hsh
          clear hsh
          have hc1s : c1.2.short = false := by
            cases hz : c1.2.short with
            | false => rfl
            | true => have := rAt_stays c1.2 0 hz c1.1 (Nat.zero_le _); rw [unhide Hsh] at this; simp at this
          have Hc := hide hc1s
          clear hc1s
          go_wp2_with fail
          go_quiet (fail)
          go_wp2
          go_ret2
          have hemp : (bs (rAt c1.2 c1.1).rest).toList = (rAt c1.2 c1.1).rest := by rw [ByteArray.toList_eq, bs_data]
          refine ⟨_, (bs (rAt c1.2 c1.1).rest).toList.isEmpty, rfl, below_drewN hbel _, fun hb => ?_, fun hb => ?_⟩
          · rw [unhide Hok3, if_neg]
            rintro ⟨_, _, hn⟩
            rw [hemp, hn] at hb
            simp at hb
          · rw [hemp] at hb
            refine ⟨rGot c1.2 c1.1, ?_, rGot_fits c1.2 (by omega) _, by omega, hown⟩
            rw [unhide Hok3, if_pos ⟨unhide Hc, unhide Hsh, by simpa using hb⟩]
  · have g84 : (((k1.1 : Nat) : Int) != 84) = true := by simp; omega
    have Hok2 := unhide Hok
    rw [if_neg h84] at Hok2
    clear h84
    go_wp2_with fail
    go_ret2
    exact ⟨_, false, rfl, hb1, fun _ => Hok2, fun h => by simp at h⟩
def decOk (l : List UInt8) : Option (List P.It) := (readOk l).bind fun items => if dirOk items = true then some items else none
set_option maxHeartbeats 1000000 in
theorem dirDecode_any (l : List UInt8) (w : World) (hl : l.length ≤ maxLen) :
    Calls Tryz.prog 53 #[.string (bs l)] w fun e w' => Below w.heap.size w w' ∧ ((decOk l = none ∧ e = .returned (.tuple #[.slice none 0 0, .int .i64 4]))
      ∨ ∃ items v, decOk l = some items ∧ FitAll items ∧ items.length ≤ 255 ∧ e = .returned (.tuple #[v, .int .i64 0]) ∧ OwnsIt w' w.heap.size v items) := by
  go_enter Tryz.func53, Tryz.ntmps53
  go_wp2_with fail
  refine (read_any l w hl).mono ?_
  rintro e w1 ⟨v, b, rfl, hb1, hno, hyes⟩
  cases b with
  | false =>
    have h1 := hno rfl
    have Hd := hide (show decOk l = none by unfold decOk; rw [h1]; rfl)
    clear hno hyes h1
    go_wp2_with fail
    go_ret2
    exact ⟨hb1, .inl ⟨unhide Hd, rfl⟩⟩
  | true =>
    obtain ⟨items, h1, hf, hl2, hown⟩ := hyes rfl
    have hd : decOk l = if dirOk items = true then some items else none := by unfold decOk; rw [h1]; rfl
    have Hd := hide hd
    clear hno hyes h1 hd
    obtain ⟨a, c, rfl, hlies, _⟩ := hown.lies
    go_wp2_with fail
    refine (isDirectory_any items a c w1 (by unfold maxLen; omega) hlies hf).mono ?_
    rintro e w2 ⟨rfl, hb2⟩
    have hb12 := hb1.trans (hb2.mono hb1.size)
    cases hdo : dirOk items with
    | true =>
      have Hdo := hide hdo
      clear hdo
      go_wp2_with fail
      go_ret2
      refine ⟨hb12, .inr ⟨items, _, ?_, hf, hl2, rfl, ?_⟩⟩
      · rw [unhide Hd, if_pos (unhide Hdo)]
      · exact World.ownsRow.kept (row := none) hown ⟨hb2.os, hb2.tape, hb2.output, hb2.size, fun k hk _ => hb2.block k hk⟩ (by cases a <;> simp [Value.ownBlock])
    | false =>
      have Hdo := hide hdo
      clear hdo
      go_wp2_with fail
      go_ret2
      exact ⟨hb12, .inl ⟨by rw [unhide Hd, if_neg (by rw [unhide Hdo]; simp)], rfl⟩⟩
end Go.Proofs.YtjmacegibchplaaGreatDoor
