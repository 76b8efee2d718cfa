import Derived.Test.YtjmacegibchplaaGreatDoorTrP
import Derived.Test.YtjmacegibchplaaGreatDoorEntB
import Derived.Deep.RegionHeld3
import Derived.Test.YtjmacegibchplaaGreatDoorStoA
import Derived.Test.YtjmacegibchplaaGreatDoorFetT
/-
  The small functions of the statements without the document's answer: pick, cut, one, up.
-/
namespace Go.Proofs.YtjmacegibchplaaGreatDoor
open Go.RowKit
set_option linter.unusedVariables false
theorem keepPick (c n : Int) (w : World) (c0 : -9223372036854775808 ≤ c) (c1 : c ≤ 9223372036854775807) (n0 : 0 < n) (n1 : n ≤ 9223372036854775807) :
    Calls Tryz.prog 22 #[.int .i64 c, .int .i64 n] w fun e w' => e = .returned (.int .i64 (pickP c n)) ∧ w' = w := by
  have hnz : ¬ n = 0 := by omega
  by_cases hneg : c < 0
  · have e1 : pickP c n = (-(c + 1)).tmod n := by unfold pickP; rw [if_pos hneg, Int.tmod_eq_emod_of_nonneg (by omega)]
    have b1 := Int.tmod_nonneg n (show 0 ≤ -(c + 1) by omega)
    have b2 := Int.tmod_lt_of_pos (-(c + 1)) n0
    rw [e1]
    go_enter Tryz.func22, Tryz.ntmps22
    go_wp2_with fail
    go_ret
    exact ⟨ret_int (Int.neg_tmod _ _).symm, rfl⟩
  · have e1 : pickP c n = c.tmod n := by unfold pickP; rw [if_neg hneg, Int.tmod_eq_emod_of_nonneg (by omega)]
    have b1 := Int.tmod_nonneg n (show 0 ≤ c by omega)
    have b2 := Int.tmod_lt_of_pos c n0
    rw [e1]
    go_enter Tryz.func22, Tryz.ntmps22
    go_wp2_with fail
    go_ret
    exact ⟨ret_int (Int.tmod_eq_emod_of_nonneg (by omega)).symm, rfl⟩
theorem extract_take (s : List UInt8) (n : Nat) : (bs s).extract 0 n = bs (s.take n) := by
  apply ByteArray.ext
  simp [bs]
theorem extract_drop (s : List UInt8) (n : Nat) : (bs s).extract n s.length = bs (s.drop n) := by
  apply ByteArray.ext
  simp [bs, List.take_of_length_le]
theorem cut_at (p : List UInt8) (k : Nat) (hk : k < p.length) (h47 : p[k] = 47) (hno : ∀ j (h : j < p.length), k < j → p[j] ≠ 47) : upPath p = p.take k ∧ nameOf p = p.drop (k + 1) := by
  have e : p = p.take k ++ 47 :: p.drop (k + 1) := by
    conv => lhs; rw [← List.take_append_drop k p, List.drop_eq_getElem_cons hk, h47]
  have hn : P.has (p.drop (k + 1)) 47 = false := by
    rw [has_false]
    intro hm
    obtain ⟨j, hj, he⟩ := List.mem_iff_getElem.1 hm
    rw [List.getElem_drop] at he
    exact hno _ (by rw [List.length_drop] at hj; omega) (by omega) he
  obtain ⟨_, h2, h3⟩ := cut_some (p.take k) (p.drop (k + 1)) hn
  rw [← e] at h2 h3
  exact ⟨h2, h3⟩
set_option maxHeartbeats 1000000 in
theorem keepUp (p : List UInt8) (w : World) (hs : p.length ≤ 140737488351232) :
    Calls Tryz.prog 61 #[.string (bs p)] w fun e w' => e = .returned (.tuple #[.string (bs (upPath p)), .string (bs (nameOf p))]) ∧ ∃ q, w' = w.drewN q := by
  have hz : (bs p).size = p.length := by simp [bs, ByteArray.size]
  go_enter Tryz.func61, Tryz.ntmps61
  go_wp2_with fail
  go_loop [4] (fun i => ∃ k : Nat, k ≤ p.length ∧ i = .int .i64 ((k : Int) - 1) ∧ ∀ j (h : j < p.length), k ≤ j → p[j] ≠ 47) (fun i => (intOf i + 1).toNat)
  case atStart => exact ⟨p.length, Nat.le_refl _, by go_num, fun j h hj => by omega⟩
  case round =>
    obtain ⟨k, hk, rfl, hno⟩ := hrel
    have Hno := hide hno
    clear hno
    by_cases h0 : 1 ≤ k
    · obtain ⟨m, rfl⟩ : ∃ m, k = m + 1 := ⟨k - 1, by omega⟩
      have hm : m < p.length := by omega
      have hpm : (bs p)[m]'(by rw [hz]; exact hm) = p[m] := rfl
      rw [show ((m + 1 : Nat) : Int) - 1 = (m : Int) by omega]
      by_cases h47 : p[m] = 47
      · obtain ⟨e1, e2⟩ := cut_at p m hm h47 (fun j h hj => unhide Hno j h (by omega))
        have x1 := extract_take p m
        have x2 := extract_drop p (m + 1)
        have h47' : ((p[m].toNat : Int)) = 47 := by rw [h47]; rfl
        have m1 : IntKind.i64.wrap ((m : Int) + 1) = (m : Int) + 1 := by rw [IntKind.wrap_i64]; omega
        have m2 : (0 : Int) ≤ (m : Int) := by omega
        have m3 : (m : Int) ≤ (p.length : Int) := by omega
        have m4 : (0 : Int) ≤ (m : Int) + 1 := by omega
        have m5 : (m : Int) + 1 ≤ (p.length : Int) := by omega
        have He := hide (And.intro e1 e2)
        clear e1 e2
        go_wp2_with fail
        go_region
        go_wp2_with fail
        go_ret2
        exact ⟨by rw [(unhide He).1, (unhide He).2]; rfl, 1, rfl⟩
      · have h47' : ¬ ((p[m].toNat : Int)) = 47 := fun e => h47 (UInt8.toNat_inj.1 (by show p[m].toNat = 47; omega))
        go_wp2_with fail
        go_round
        case rel => exact ⟨m, by omega, by go_num, fun j h hj => by
          rcases Nat.eq_or_lt_of_le hj with rfl | hlt
          · exact h47
          · exact unhide Hno j h (by omega)⟩
        case measure => simp [intOf]
    · obtain rfl : k = 0 := by omega
      have hn : P.has p 47 = false := has_false.2 (fun hmem => by
        obtain ⟨j, hj, he⟩ := List.mem_iff_getElem.1 hmem
        exact unhide Hno j hj (Nat.zero_le _) he)
      have He := hide (cut_none hn)
      go_wp2_with fail
      go_ret2
      exact ⟨by rw [(unhide He).2.1, (unhide He).2.2]; rfl, 0, rfl⟩
end Go.Proofs.YtjmacegibchplaaGreatDoor

/-
  Lists of entries of the statements without the document's answer: turned, same.
-/
namespace Go.Proofs.YtjmacegibchplaaGreatDoor
open Go.RowKit
set_option linter.unusedVariables false
def OwnsE (w : World) (base : Nat) (v : Value) (l : List En) : Prop := w.ownsRow base 32 3 v l.length (rowCells enCells l)
theorem app_entry {w : World} {ops : Array Oper} {rest : List Oper} {o : Oper} {a : Act} {Q : Exit → Act → World → Prop} (hgd : o.guard = none) (s x : Operand)
    (ho : o.op = .call { callee := .builtin .append, args := #[s, x], argTypes := #[22, 22] }) (base : Nat) (v : Value) (l : List En) (hs : a.eval s = v) (hown : OwnsE w base v l)
    (ad : Addr) (y : En) (hx : a.eval x = .slice (some ad) 1 1) (hnews : ∀ j u, (enCells y)[j]? = some u → w.cell? (ad.add j) = some u)
    (hlen : l.length ≤ 1000000) (hbase : base ≤ w.heap.size)
    (h : ∀ v' w', OwnsE w' base v' (l ++ [y]) → w.grownBy w' v.ownBlock → wpList Tryz.prog ops Q rest (a.put o.dst v') w') : wpList Tryz.prog ops Q (o :: rest) a w := by
  obtain ⟨i0, hi, hz0, hz1, hz2⟩ := info_parts info_ent
  refine wpList_append_own w hgd s x 22 ho base 32 i0 _ 3 40 Tryz.underlying22 hi hz0 hz1 hz2 rfl (by decide) v l.length (rowCells enCells l) hs hown ad 1 1 (enCells y) hx rfl hnews ?_ (by unfold maxLen; omega) (by omega) hbase ?_
  · intro u hu
    exact enCells_one [y] u (by simpa [rowCells] using hu)
  · intro v' w' h2 h3 _
    refine h v' w' ?_ h3
    unfold OwnsE
    rw [show rowCells enCells (l ++ [y]) = rowCells enCells l ++ enCells y by simp [rowCells], List.length_append]
    exact h2
theorem entsGet {w : World} {a : Option Addr} {l : List En} (h : LiesE w a l) {k : Nat} (hk : k < l.length) : ∃ b o, a = some ⟨b, o, none⟩ ∧ EntsAt w b o l := by
  rcases h with h | h
  · subst h; simp at hk
  · exact h
theorem entAt_lt {w : World} {b p : Nat} {x : En} (h : EntAt w b p x) : b < w.heap.size := block_lt h.1
theorem EntAt.below {B : Nat} {w w' : World} {b p : Nat} {x : En} (h : EntAt w b p x) (hb : Below B w w') (hB : b < B) : EntAt w' b p x := by
  obtain ⟨c0, c1, c2⟩ := h
  exact ⟨(hb.cell (p := ⟨b, _, none⟩) hB).trans c0, (hb.cell (p := ⟨b, _, none⟩) hB).trans c1, (hb.cell (p := ⟨b, _, none⟩) hB).trans c2⟩
set_option maxHeartbeats 1000000 in
theorem turned_any (l : List En) (a : Option Addr) (c : Nat) (w : World) (hl : l.length ≤ 40) (hi : LiesE w a l) :
    Calls Tryz.prog 34 #[.slice a l.length c] w fun e w' => ∃ v, e = .returned v ∧ OwnsE w' w.heap.size v l.reverse ∧ Below w.heap.size w w' := by
  go_enter Tryz.func34, Tryz.ntmps34
  go_wp2_with fail
  go_loopw [3, 4] (fun v i wr => ∃ k : Nat, k ≤ l.length ∧ i = .int .i64 ((k : Int) - 1) ∧ OwnsE wr w.heap.size v (l.drop k).reverse ∧ Below w.heap.size w wr) (fun _ i _ => (intOf i + 1).toNat)
  case atStart => exact ⟨l.length, Nat.le_refl _, by go_num, by rw [List.drop_length]; exact World.ownsRow_nil _ _ _ _, Below.refl _ _⟩
  case round =>
    obtain ⟨k, hk, rfl, hown, hbel⟩ := hrel
    by_cases h0 : 1 ≤ k
    · obtain ⟨m, rfl⟩ : ∃ m, k = m + 1 := ⟨k - 1, by omega⟩
      have hm : m < l.length := by omega
      obtain ⟨b, o, rfl, hc⟩ := entsGet hi hm
      obtain ⟨c0, c1, c2⟩ := EntAt.below (hc m hm) hbel (entAt_lt (hc m hm))
      have hb := hbel.size
      have hr : (l.drop (m + 1)).reverse ++ [l[m]] = (l.drop m).reverse := by rw [List.drop_eq_getElem_cons hm, List.reverse_cons]
      have Hr := hide hr
      clear hr hc
      have q1 : (m : Int) < (l.length : Int) := by omega
      have hlen : (l.drop (m + 1)).reverse.length ≤ 40 := by simp; omega
      generalize l[m] = x at *
      generalize (l.drop (m + 1)).reverse = done at *
      rw [show ((m + 1 : Nat) : Int) - 1 = (m : Int) by omega]
      obtain ⟨xp, xk, xd⟩ := x
      simp only at c0 c1 c2
      go_wp2_with (at_builtin; refine app_entry rfl (.tmp 12) (.tmp 17) rfl w.heap.size _ done rfl (World.ownsRow.alloc hown _) ⟨wr.heap.size, 0, none⟩ ⟨xp, xk, xd⟩ rfl ?qa ?qb ?qc ?_)
      case qa =>
        intro j u hu
        have hbk := heap_alloc_new wr (.cells #[.string xp, .int .i64 xk, .string xd] 32)
        have hadd : (⟨wr.heap.size, 0, none⟩ : Addr).add j = ⟨wr.heap.size, j, none⟩ := by unfold Addr.add; split <;> simp_all
        rw [hadd]
        match j, hu with
        | 0, hu => simp [enCells] at hu; subst hu; exact cell_of_block hbk
        | 1, hu => simp [enCells] at hu; subst hu; exact cell_of_block hbk
        | 2, hu => simp [enCells] at hu; subst hu; exact cell_of_block hbk
        | j + 3, hu => simp [enCells] at hu
      case qb => omega
      case qc => simp; omega
      intro v4 w4 ho4 g4
      have hb4 : Below w.heap.size w w4 := (hbel.alloc hbel.size _).grown g4 (by simp; omega) (fun k hk => (World.ownsRow.lt hown k hk).1)
      clear g4
      go_wp2_with fail
      go_roundw
      case rel => exact ⟨m, by omega, by go_num, by rw [unhide Hr] at ho4; exact ho4, hb4⟩
      case measure => simp [intOf]
    · obtain rfl : k = 0 := by omega
      go_wp2_with fail
      go_ret
      exact ⟨_, rfl, hown, hbel⟩
end Go.Proofs.YtjmacegibchplaaGreatDoor

/-
  Have two lists the same entries (the statements' own test, without the document's answer)?
-/
namespace Go.Proofs.YtjmacegibchplaaGreatDoor
open Go.RowKit
set_option linter.unusedVariables false
theorem countP_take_succ {α : Type} (f : α → Bool) (S : List α) (k : Nat) (h : k < S.length) : (S.take (k + 1)).countP f = (S.take k).countP f + (if f S[k] = true then 1 else 0) := by
  rw [List.take_succ_eq_append_getElem h, List.countP_append]
  simp [List.countP_cons]
theorem countP_len {α : Type} (f : α → Bool) (S : List α) (k : Nat) : (S.take k).countP f ≤ k := by
  have := List.countP_le_length (p := f) (l := S.take k)
  rw [List.length_take] at this
  omega
set_option maxRecDepth 100000 in
set_option maxHeartbeats 1000000 in
theorem keepSame_any (x y : List En) (a1 a2 : Option Addr) (c1 c2 : Nat) (w : World) (hx : x.length ≤ 1000) (hlen : x.length = y.length) (h1 : LiesE w a1 x) (h2 : LiesE w a2 y) (hone : ∀ i (h : i < x.length), y.countP (fun z => enEq x[i] z) = 1) :
    Calls Tryz.prog 39 #[.slice a1 x.length c1, .slice a2 y.length c2] w fun e w' => e = .returned (.bool true) ∧ ∃ n, w' = w.drewN n := by
  have hb : ((x.length : Int) != (y.length : Int)) = false := by simp [hlen]
  have Hone := hide hone
  have hy : y.length ≤ 1000 := by omega
  clear hone hlen
  go_enter Tryz.func39, Tryz.ntmps39
  go_wp2_with fail
  go_loopw [5] (fun i wr => ∃ k : Nat, k ≤ x.length ∧ i = .int .i64 k ∧ (∃ n, wr = w.drewN n)) (fun i _ => x.length - (intOf i).toNat)
  case atStart => exact ⟨0, by omega, rfl, ⟨0, rfl⟩⟩
  case round =>
    obtain ⟨k, hk, rfl, ⟨n, hwr⟩⟩ := hrel
    subst hwr
    by_cases hlt : k < x.length
    · obtain ⟨b1, o1, rfl, i1⟩ := entsGet h1 hlt
      obtain ⟨p0, p1, p2⟩ := i1 k hlt
      have Ho := hide (unhide Hone k hlt)
      clear i1
      generalize x[k] = e at *
      obtain ⟨ep, ek, ed⟩ := e
      simp only at p0 p1 p2
      have q1 : (k : Int) < (x.length : Int) := by omega
      have h2n : LiesE (w.drewN n) a2 y := h2.below (below_drewN (Below.refl _ _) n) (Nat.le_refl _)
      have p0' : (w.drewN n).cell? ⟨b1, o1 + k * 3, none⟩ = some (.string ep) := p0
      have p1' : (w.drewN n).cell? ⟨b1, o1 + k * 3 + 1, none⟩ = some (.int .i64 ek) := p1
      have p2' : (w.drewN n).cell? ⟨b1, o1 + k * 3 + 2, none⟩ = some (.string ed) := p2
      clear p0 p1 p2
      generalize hw7 : w.drewN n = w7 at *
      have Hw7 := hide hw7
      clear hw7
      go_wp2_with fail
      go_loopw [6, 7] (fun c i wr => ∃ m : Nat, m ≤ y.length ∧ i = .int .i64 m ∧ c = .int .i64 ((y.take m).countP (fun z => enEq ⟨ep, ek, ed⟩ z) : Nat) ∧ (∃ q, wr = w7.drewN q)) (fun _ i _ => y.length - (intOf i).toNat)
      case atStart => exact ⟨0, by omega, rfl, rfl, ⟨0, rfl⟩⟩
      case round =>
        obtain ⟨m, hm0, rfl, rfl, ⟨q, hwr⟩⟩ := hrel
        subst hwr
        have hcl := countP_len (fun z => enEq ⟨ep, ek, ed⟩ z) y m
        by_cases hm : m < y.length
        · have hm' : (m : Int) < (y.length : Int) := by omega
          obtain ⟨b2, o2, rfl, i2⟩ := entsGet h2n hm
          obtain ⟨r0, r1, r2⟩ := i2 m hm
          have Hsu := hide (countP_take_succ (fun z => enEq ⟨ep, ek, ed⟩ z) y m hm)
          clear i2
          generalize y[m] = z at *
          obtain ⟨zp, zk, zd⟩ := z
          simp only at r0 r1 r2
          have r0' : (w7.drewN q).cell? ⟨b2, o2 + m * 3, none⟩ = some (.string zp) := r0
          have r1' : (w7.drewN q).cell? ⟨b2, o2 + m * 3 + 1, none⟩ = some (.int .i64 zk) := r1
          have r2' : (w7.drewN q).cell? ⟨b2, o2 + m * 3 + 2, none⟩ = some (.string zd) := r2
          have s0' : (w7.drewN q).cell? ⟨b1, o1 + k * 3, none⟩ = some (.string ep) := p0'
          have s1' : (w7.drewN q).cell? ⟨b1, o1 + k * 3 + 1, none⟩ = some (.int .i64 ek) := p1'
          have s2' : (w7.drewN q).cell? ⟨b1, o1 + k * 3 + 2, none⟩ = some (.string ed) := p2'
          have heq : ∀ w, (Op.equalIn 10000 32 (.agg #[.string ep, .int .i64 ek, .string ed]) (.agg #[.string zp, .int .i64 zk, .string zd])).run Tryz.prog w = .ok (enEq ⟨ep, ek, ed⟩ ⟨zp, zk, zd⟩) w := fun w => by rw [eq_ent]; rfl
          generalize hE : enEq ⟨ep, ek, ed⟩ ⟨zp, zk, zd⟩ = E at *
          generalize hcn : (y.take m).countP (fun z => enEq ⟨ep, ek, ed⟩ z) = cn at *
          clear hcn r0 r1 r2
          generalize hw8 : w7.drewN q = w8 at *
          have Hw8 := hide hw8
          have HE := hide hE
          clear hw8 hE
          have m1 : IntKind.i64.wrap ((cn : Int) + 1) = (cn : Int) + 1 := by rw [IntKind.wrap_i64]; omega
          cases E with
          | false =>
            go_wp2_with fail
            go_quiet (fail)
            go_wp2
            go_roundw
            case rel => exact ⟨m + 1, by omega, by go_num, by rw [unhide Hsu]; simp, ⟨q + nq, by rw [← unhide Hw8, World.drewN_drewN]⟩⟩
            case measure => simp [intOf]; omega
          | true =>
            go_wp2_with fail
            go_quiet (fail)
            go_wp2
            go_roundw
            case rel => exact ⟨m + 1, by omega, by go_num, by rw [unhide Hsu]; simp, ⟨q + nq, by rw [← unhide Hw8, World.drewN_drewN]⟩⟩
            case measure => simp [intOf]; omega
        · obtain rfl : m = y.length := by omega
          rw [List.take_length, unhide Ho] at *
          go_wp2_with fail
          go_roundw
          case rel => exact ⟨k + 1, by omega, by go_num, ⟨n + q, by rw [← unhide Hw7, World.drewN_drewN]⟩⟩
          case measure => simp [intOf]; omega
    · obtain rfl : k = x.length := by omega
      go_wp2_with fail
      go_ret
      exact ⟨rfl, n, rfl⟩
end Go.Proofs.YtjmacegibchplaaGreatDoor

/-
  Is a list of entries in order (the statements' own test, without the document's answer)?
-/
namespace Go.Proofs.YtjmacegibchplaaGreatDoor
open Go.RowKit
set_option linter.unusedVariables false
theorem bs_eqb (x y : List UInt8) : ((bs x).toList == (bs y).toList) = (x == y) := str_eq2 x y
theorem climb_true {dir name a : List UInt8} {f : Nat} (h : climbP dir name (f + 1) a = true) : a ≠ [] ∧ (upPath a = dir → less (nameOf a) name = true) ∧ (upPath a ≠ dir → climbP dir name f (upPath a) = true) := by
  simp only [climbP] at h
  split at h
  · simp at h
  · rename_i hn
    refine ⟨hn, fun e => ?_, fun e => ?_⟩
    · rw [if_pos e] at h; exact h
    · rw [if_neg e] at h; exact h
def ordM (ah fo : Value) : Nat := match fo, ah with
  | .bool false, .string b => b.size + 1
  | _, _ => 0
theorem climb_pos {dir name a : List UInt8} {f : Nat} (h : climbP dir name f a = true) : ∃ g, f = g + 1 := by
  cases f with
  | zero => simp [climbP] at h
  | succ g => exact ⟨g, rfl⟩
set_option maxRecDepth 100000 in
set_option maxHeartbeats 2000000 in
theorem keepOrder_any (l : List En) (a : Option Addr) (c : Nat) (w : World) (hl : l.length ≤ 1000) (hi : LiesE w a l) (hf : ∀ i (h : i < l.length), (pth l[i]).length ≤ 1000) (hch : Chn Adj l) (h0 : ∀ h : 0 < l.length, upPath (pth l[0]) = []) :
    Calls Tryz.prog 40 #[.slice a l.length c] w fun e w' => e = .returned (.bool true) ∧ ∃ n, w' = w.drewN n := by
  have Hch := hide (fun i h => Chn.at l hch i h)
  have H0 := hide h0
  have Hf := hide hf
  clear hch h0 hf
  go_enter Tryz.func40, Tryz.ntmps40
  go_wp2_with fail
  go_loopw [3] (fun i wr => ∃ k : Nat, k ≤ l.length ∧ i = .int .i64 k ∧ (∃ n, wr = w.drewN n)) (fun i _ => l.length - (intOf i).toNat)
  case atStart => exact ⟨0, by omega, rfl, ⟨0, rfl⟩⟩
  case round =>
    obtain ⟨k, hk, rfl, ⟨n, hwr⟩⟩ := hrel
    subst hwr
    by_cases hlt : k < l.length
    · obtain ⟨b, o, rfl, hc⟩ := entsGet hi hlt
      obtain ⟨p0, -, -⟩ := hc k hlt
      have q1 : (k : Int) < (l.length : Int) := by omega
      have hpf := unhide Hf k hlt
      have hbp : l[k].path = bs (pth l[k]) := (bs_of _).symm
      rw [hbp] at p0
      have p0' : (w.drewN n).cell? ⟨b, o + k * 3, none⟩ = some (.string (bs (pth l[k]))) := p0
      clear p0 hbp
      by_cases hz : k = 0
      · subst hz
        have hu := unhide H0 hlt
        rw [show o + 0 * 3 = o by omega] at p0'
        generalize pth l[0] = p at *
        have e0 : (bs ([] : List UInt8)) = ⟨#[]⟩ := rfl
        go_wp2_with fail
        refine (keepUp p _ (by omega)).mono ?_
        rintro e w1 ⟨rfl, q, hw1⟩
        subst hw1
        rw [hu, e0]
        go_wp2_with fail
        refine ⟨⟨1, by omega, rfl, ⟨n + q, rfl⟩⟩, ?_⟩
        show l.length - 1 < l.length - 0
        omega
      · obtain ⟨m, rfl⟩ : ∃ m, k = m + 1 := ⟨k - 1, by omega⟩
        have hm : m < l.length := by omega
        obtain ⟨r0, r1, -⟩ := hc m hm
        have hadj := unhide Hch m hlt
        have hmf := unhide Hf m hm
        have hbm : l[m].path = bs (pth l[m]) := (bs_of _).symm
        rw [hbm] at r0
        have r0' : (w.drewN n).cell? ⟨b, o + m * 3, none⟩ = some (.string (bs (pth l[m]))) := r0
        have r1' : (w.drewN n).cell? ⟨b, o + m * 3 + 1, none⟩ = some (.int .i64 l[m].kind) := r1
        have kz : ((m : Int) + 1 == 0) = false := by simp; omega
        have ki : (((m + 1 : Nat) : Int)) = (m : Int) + 1 := by omega
        have km : (m : Int) + 1 - 1 = (m : Int) := by omega
        have km1 : (m : Int) < (l.length : Int) := by omega
        clear hc r0 r1 hbm
        unfold Adj at hadj
        have Hadj := hide hadj
        clear hadj
        generalize pth l[m] = pa at *
        generalize l[m].kind = ka at *
        generalize pth l[m + 1] = p at *
        generalize hw7 : w.drewN n = w7 at *
        have Hw7 := hide hw7
        clear hw7
        go_wp2_with fail
        refine (keepUp p _ (by omega)).mono ?_
        rintro e w1 ⟨rfl, q, hw1⟩
        subst hw1
        have s0' : (w7.drewN q).cell? ⟨b, o + m * 3, none⟩ = some (.string (bs pa)) := r0'
        have s1' : (w7.drewN q).cell? ⟨b, o + m * 3 + 1, none⟩ = some (.int .i64 ka) := r1'
        clear p0' r0' r1'
        generalize hw8 : w7.drewN q = w8 at *
        have Hw8 := hide hw8
        clear hw8
        have hx := bs_eqb (upPath p) pa
        generalize upPath p = dir at *
        generalize nameOf p = name at *
        have hfin : (∃ j, j ≤ l.length ∧ Value.int .i64 ((m : Int) + 1 + 1) = Value.int .i64 (j : Int) ∧ ∃ n, w8 = w.drewN n) ∧ l.length - (intOf (Value.int .i64 ((m : Int) + 1 + 1))).toNat < l.length - (intOf (Value.int .i64 ((m + 1 : Nat) : Int))).toNat := by
          refine ⟨⟨m + 2, by omega, by go_num, n + q, by rw [← unhide Hw8, ← unhide Hw7, World.drewN_drewN]⟩, ?_⟩
          simp [intOf]; omega
        by_cases hd : dir = pa ∧ ka = 0
        · obtain ⟨hd, rfl⟩ := hd
          have hxt : ((bs dir).toList == (bs pa).toList) = true := by rw [hx, hd]; simp
          clear hx
          go_wp2_with fail
          exact hfin
        · have hcl : climbP dir name (pa.length + 1) pa = true := (unhide Hadj).resolve_left hd
          have Hcl := hide hcl
          clear hfin hcl Hadj
          have hcase : ((dir == pa) = true ∧ (ka == 0) = false) ∨ (dir == pa) = false := by
            by_cases e : dir = pa
            · exact .inl ⟨by simpa using e, by simpa using fun h => hd ⟨e, h⟩⟩
            · exact .inr (by simpa using e)
          clear hd
          rcases hcase with ⟨hc1, hc2⟩ | hc1
          all_goals rw [hc1] at hx
          all_goals go_wp2_with fail
          all_goals (
            go_loopw [6, 7, 8, 9] (fun ah fo dd nn wr => (∃ q2, wr = w8.drewN q2) ∧ ((fo = .bool true ∧ ∃ ahl : List UInt8, ah = .string (bs ahl)) ∨ (fo = .bool false ∧ ∃ (f : Nat) (ahl : List UInt8), ah = .string (bs ahl) ∧ ahl.length ≤ 1000 ∧ climbP dir name (f + 1) ahl = true))) (fun ah fo _ _ _ => ordM ah fo)
            case atStart => exact ⟨⟨0, rfl⟩, .inr ⟨rfl, pa.length, pa, rfl, hmf, unhide Hcl⟩⟩
            case round =>
              obtain ⟨⟨q2, hwr⟩, hst⟩ := hrel
              subst hwr
              rcases hst with ⟨rfl, ahl, rfl⟩ | ⟨rfl, f, ahl, rfl, hal, hcl2⟩
              · go_wp2_with fail
                refine ⟨⟨m + 2, by omega, by go_num, n + (q + q2), by rw [← unhide Hw8, ← unhide Hw7, World.drewN_drewN, World.drewN_drewN]⟩, ?_⟩
                simp [intOf]; omega
              · obtain ⟨hne, hy1, hy2⟩ := climb_true hcl2
                have hus := up_short hne
                have Hy1 := hide hy1
                have Hy2 := hide hy2
                have hsz := bs_size ahl
                have hsz2 := bs_size (upPath ahl)
                have Hss := hide (And.intro hsz (And.intro hsz2 hus))
                have hz1 : ((bs ahl).toList == ([] : List UInt8)) = false := by rw [ByteArray.toList_eq, bs_data]; simpa using hne
                have hz2 : ((bs ahl).toList == (⟨#[]⟩ : ByteArray).toList) = false := by rw [ByteArray.toList_eq, bs_data]; simpa using hne
                clear hy1 hy2 hcl2 hne hsz hsz2 hus
                go_wp2_with fail
                refine (keepUp ahl _ (by omega)).mono ?_
                rintro e w1 ⟨rfl, q3, hw1⟩
                subst hw1
                have hx2 := bs_eqb (upPath ahl) dir
                by_cases hud : upPath ahl = dir
                · have hE : (upPath ahl == dir) = true := by simpa using hud
                  rw [hE] at hx2
                  have hls : Op.bytesLess (bs (nameOf ahl)).toList (bs name).toList = true := by rw [ByteArray.toList_eq, ByteArray.toList_eq, bs_data, bs_data]; exact unhide Hy1 hud
                  clear hE hud
                  go_wp2_with fail
                  refine ⟨⟨⟨q2 + q3, rfl⟩, .inl ⟨rfl, _, rfl⟩⟩, ?_⟩
                  simp [ordM]
                · have hE : (upPath ahl == dir) = false := by simpa using hud
                  rw [hE] at hx2
                  have Hud := hide (unhide Hy2 hud)
                  clear hE hud
                  go_wp2_with fail
                  obtain ⟨g, hg⟩ := climb_pos (unhide Hud)
                  refine ⟨⟨⟨q2 + q3, rfl⟩, .inr ⟨rfl, g, _, rfl, by have := (unhide Hss).2.2; omega, by rw [← hg]; exact unhide Hud⟩⟩, ?_⟩
                  have := unhide Hss
                  simp only [ordM]
                  rw [this.1, this.2.1]
                  omega)
    · obtain rfl : k = l.length := by omega
      go_wp2_with fail
      go_ret
      exact ⟨rfl, n, rfl⟩
end Go.Proofs.YtjmacegibchplaaGreatDoor
