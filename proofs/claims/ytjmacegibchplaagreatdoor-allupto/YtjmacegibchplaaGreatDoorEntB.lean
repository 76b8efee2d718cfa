import Derived.Test.YtjmacegibchplaaGreatDoorTreeR
import Derived.Test.YtjmacegibchplaaGreatDoorReadC
import Derived.Laws.StructEq
import Derived.Deep.Slices
import Derived.ProofKit
import Derived.OpenShut
import Derived.SizedLaws
namespace Go.Proofs.YtjmacegibchplaaGreatDoor
open Go.RowKit
set_option linter.unusedVariables false
theorem info_str : (Tryz.prog.info? 9).map (fun i => (i.zero, i.size, i.bytes)) = some (some (.string ⟨#[]⟩), 1, 16) := by kernel_rfl
def strVal (l : List UInt8) : Value := .string (bs l)
def OwnsS (w : World) (base : Nat) (v : Value) (l : List (List UInt8)) : Prop := w.ownsRow base 9 1 v l.length (l.map strVal)
theorem OwnsS.alloc {w : World} {base : Nat} {v : Value} {l : List (List UInt8)} (h : OwnsS w base v l) (o : Obj) : OwnsS (w.alloc o) base v l := World.ownsRow.alloc h o
theorem OwnsS.below {w w' : World} {base : Nat} {v : Value} {l : List (List UInt8)} (h : OwnsS w base v l) (hb : Below w.heap.size w w') : OwnsS w' base v l :=
 World.ownsRow.kept (row := none) h ⟨hb.os, hb.tape, hb.output, hb.size, fun k hk _ => hb.block k hk⟩ (by cases v.ownBlock <;> simp)
def TextsAt (w : World) (a : Option Addr) (l : List (List UInt8)) : Prop := l = [] ∨ ∃ b o, a = some ⟨b, o, none⟩ ∧ ∀ i (h : i < l.length), w.cell? ⟨b, o + i, none⟩ = some (strVal l[i])
theorem TextsAt.below {B : Nat} {w w' : World} {a : Option Addr} {l : List (List UInt8)} (h : TextsAt w a l) (hb : Below B w w') (hB : w.heap.size ≤ B) : TextsAt w' a l := by
 rcases h with h | ⟨b, o, e, h⟩
 ·exact .inl h
 ·exact .inr ⟨b, o, e, fun i hi => (hb.cell (p := ⟨b, _, none⟩) (Nat.lt_of_lt_of_le (block_lt (h i hi)) hB)).trans (h i hi)⟩
theorem OwnsS.texts {w : World} {base : Nat} {v : Value} {l : List (List UInt8)} (h : OwnsS w base v l) : ∃ a c, v = .slice a l.length c ∧ TextsAt w a l ∧ (a = none → c = 0) ∧ l.length ≤ c := by
 rcases h.2 with ⟨rfl, hn⟩ | ⟨g, cap, cur, rfl, _, hg, hnc, hcm, hcs, htake⟩
 ·exact ⟨none, 0, by rw [hn], .inl (List.eq_nil_of_length_eq_zero hn), fun _ => rfl, by omega⟩
 ·refine ⟨some ⟨g, 0, none⟩, cap, rfl, .inr ⟨g, 0, rfl, fun i hi => ?_⟩, fun h => by simp at h, hnc⟩
  have := World.ownsRow.cells h (g := g) rfl i (strVal l[i]) (by simp [List.getElem?_eq_getElem hi])
  rw [add_off0] at this
  rw [Nat.zero_add]
  exact this
theorem app_text {w : World} {ops : Array Oper} {rest : List Oper} {o : Oper} {a : Act} {Q : Exit → Act → World → Prop} (hgd : o.guard = none) (s x : Operand)
  (ho : o.op = .call { callee := .builtin .append, args := #[s, x], argTypes := #[23, 23] }) (base : Nat) (v : Value) (l : List (List UInt8)) (hs : a.eval s = v) (hown : OwnsS w base v l)
  (ad : Addr) (y : List UInt8) (hx : a.eval x = .slice (some ad) 1 1) (hnews : w.cell? (ad.add 0) = some (strVal y))
  (hlen : l.length ≤ 2000000) (hbase : base ≤ w.heap.size)
  (h : ∀ v' w', OwnsS w' base v' (l ++ [y]) → w.grownBy w' v.ownBlock → wpList Tryz.prog ops Q rest (a.put o.dst v') w') : wpList Tryz.prog ops Q (o :: rest) a w := by
 obtain ⟨i0, hi, hz0, hz1, hz2⟩ := info_parts info_str
 refine wpList_append_own w hgd s x 23 ho base 9 i0 _ 1 16 Tryz.underlying23 hi hz0 hz1 hz2 rfl (by decide) v l.length (l.map strVal) hs hown ad 1 1 [strVal y] hx rfl ?_ ?_ (by unfold maxLen; omega) (by omega) hbase ?_
 ·intro j u hj
  match j, hj with
  | 0, hj => simp at hj; subst hj; exact hnews
 ·intro u hu; simp at hu; subst hu; rfl
 ·intro v' w' h2 h3 _
  refine h v' w' ?_ h3
  unfold OwnsS
  rw [List.map_append, List.length_append]
  exact h2
set_option maxHeartbeats 1000000 in
theorem split_any (L : List UInt8) (w : World) (hl : L.length ≤ 1100000) :
  Calls Tryz.prog 70 #[.string (bs L)] w fun e w' => ∃ v, e = .returned v ∧ OwnsS w' w.heap.size v (sp L) ∧ Below w.heap.size w w' := by
 have hsz := bs_size L
 go_enter Tryz.func70, Tryz.ntmps70
 go_wp2
 go_loopw [3, 4, 5] (fun v f i wr => ∃ (done : List (List UInt8)) (fr k : Nat), OwnsS wr w.heap.size v done ∧ Below w.heap.size w wr ∧ done.length ≤ k ∧ i = .int .i64 k ∧ f = .int .i64 fr ∧ fr ≤ k ∧
   ((k ≤ L.length ∧ sp L = done ++ sp (L.drop fr) ∧ P.has ((L.drop fr).take (k - fr)) 47 = false) ∨ (k = L.length + 1 ∧ sp L = done))) (fun _ _ i _ => L.length + 1 - (intOf i).toNat)
 case atStart => exact ⟨[], 0, 0, World.ownsRow_nil _ _ _ _, Below.refl _ _, by simp, rfl, rfl, Nat.le_refl _, .inl ⟨Nat.zero_le _, by simp, by simp [P.has]⟩⟩
 case round =>
  obtain ⟨done, fr, k, hown, hbel, hdl, rfl, rfl, hfk, hcase⟩ := hrel
  have Hc := hide hcase
  clear hcase
  by_cases hk : k ≤ L.length
  ·have hc2 : sp L = done ++ sp (L.drop fr) ∧ P.has ((L.drop fr).take (k - fr)) 47 = false := by
    rcases unhide Hc with h | h
    ·exact h.2
    ·omega
   have q0 : (fr : Int) ≤ (k : Int) := by omega
   have q1 : (k : Int) ≤ (L.length : Int) := by omega
   have x1 : (bs L).extract fr k = bs ((L.drop fr).take (k - fr)) := extract_bs L fr k
   have hb := hbel.size
   obtain ⟨hs1, hs2⟩ := hc2
   have Hs1 := hide hs1
   have Hs2 := hide hs2
   clear hs1 hs2 Hc
   generalize hpc : (L.drop fr).take (k - fr) = pc at *
   have Hpc := hide hpc
   clear hpc
   by_cases hend : k = L.length
   ·subst hend
    have be : ((L.length : Int) == (L.length : Int)) = true := by simp
    go_wp2_with (at_builtin; refine app_text rfl (.tmp 22) (.tmp 27) rfl w.heap.size _ done rfl (hown.alloc _) ⟨wr.heap.size, 0, none⟩ pc rfl ?qa ?qb ?qc ?_)
    case qa => rw [add_off0]; simp [strVal]
    case qb => omega
    case qc => simp; omega
    intro v4 w4 ho4 g4
    have hb4 : Below w.heap.size w w4 := (hbel.alloc hbel.size _).grown g4 (by simp; omega) (fun k hk => (World.ownsRow.lt hown k hk).1)
    clear g4
    go_wp2_with fail
    go_roundw
    case rel =>
     refine ⟨done ++ [pc], L.length + 1, L.length + 1, ho4, hb4, by simp; omega, by go_num, by go_num, Nat.le_refl _, .inr ⟨rfl, ?_⟩⟩
     have hp : L.drop fr = pc := by rw [← unhide Hpc, List.take_of_length_le (by simp)]
     rw [unhide Hs1, hp, sp_end pc (unhide Hs2)]
    case measure => simp [intOf]
   ·have hlt : k < L.length := by omega
    have q2 : (k : Int) < (L.length : Int) := by omega
    have be : ((k : Int) == (L.length : Int)) = false := by simp; omega
    obtain ⟨cb, hcb⟩ : ∃ cb, L[k] = cb := ⟨_, rfl⟩
    have c0 : (bs L)[k]'(by rw [hsz]; exact hlt) = cb := hcb
    have Hcb := hide hcb
    have hd : L.drop fr = pc ++ cb :: L.drop (k + 1) := by
     have h1 : (L.drop fr).drop (k - fr) = L.drop k := by rw [List.drop_drop]; congr 1; omega
     have h2 : L.drop k = cb :: L.drop (k + 1) := by rw [drop_one L k hlt, hcb]
     rw [← List.take_append_drop (k - fr) (L.drop fr), unhide Hpc, h1, h2]
    have Hd := hide hd
    clear hend hcb hd
    by_cases h47 : cb = 47
    ·subst h47
     have b47 : (((47 : UInt8).toNat : Int) == 47) = true := rfl
     go_wp2_with (at_builtin; refine app_text rfl (.tmp 22) (.tmp 27) rfl w.heap.size _ done rfl (hown.alloc _) ⟨wr.heap.size, 0, none⟩ pc rfl ?qd ?qe ?qf ?_)
     case qd => rw [add_off0]; simp [strVal]
     case qe => omega
     case qf => simp; omega
     intro v4 w4 ho4 g4
     have hb4 : Below w.heap.size w w4 := (hbel.alloc hbel.size _).grown g4 (by simp; omega) (fun k hk => (World.ownsRow.lt hown k hk).1)
     clear g4
     go_wp2_with fail
     go_roundw
     case rel =>
      refine ⟨done ++ [pc], k + 1, k + 1, ho4, hb4, by simp; omega, by go_num, by go_num, Nat.le_refl _, .inl ⟨by omega, ?_, by simp [P.has]⟩⟩
      rw [unhide Hs1, unhide Hd, sp_slash pc _ (unhide Hs2)]; simp
     case measure => simp [intOf]; omega
    ·have b47 : ((cb.toNat : Int) == 47) = false := by
      have := u8_eq_int cb 47
      simp at this ⊢
      intro h; exact h47 (UInt8.toNat_inj.1 (by simpa using (by omega : cb.toNat = 47)))
     have H47 := hide h47
     clear h47
     go_wp2_with fail
     go_roundw
     case rel =>
      refine ⟨done, fr, k + 1, hown, hbel, by omega, by go_num, rfl, by omega, .inl ⟨by omega, unhide Hs1, ?_⟩⟩
      have hlen : k - fr < (L.drop fr).length := by simp; omega
      have hgk : (L.drop fr)[k - fr] = cb := by
       rw [List.getElem_drop]
       have : fr + (k - fr) = k := by omega
       simp only [this]; exact unhide Hcb
      rw [show k + 1 - fr = (k - fr) + 1 by omega]
      refine P.has_take_succ (L.drop fr) 47 (k - fr) hlen ?_ (by rw [hgk]; exact unhide H47)
      rw [unhide Hpc]; exact unhide Hs2
     case measure => simp [intOf]; omega
  ·have hdone : sp L = done := by
    rcases unhide Hc with h | h
    ·omega
    ·exact h.2
   have q1 : ¬ (k : Int) ≤ (L.length : Int) := by omega
   have Hd := hide hdone
   clear hdone Hc
   go_wp2_with fail
   go_ret
   exact ⟨_, rfl, by rw [unhide Hd]; exact hown, hbel⟩
theorem str_eq (x y : List UInt8) : ((bs x).toList == y) = (x == y) := by rw [ByteArray.toList_eq, bs_data]
set_option maxHeartbeats 1000000 in
theorem out_any (d : Int) (t : List UInt8) (w : World) (hd0 : 0 ≤ d) (hd1 : d ≤ 100) (ht : t ≠ []) (hl : t.length ≤ 1100000) :
  Calls Tryz.prog 71 #[.int .i64 d, .string (bs t)] w fun e w' => e = .returned (.bool (outP d t)) ∧ Below w.heap.size w w' := by
 obtain ⟨c, r, rfl⟩ : ∃ c r, t = c :: r := by
  cases t with
  | nil => exact absurd rfl ht
  | cons c r => exact ⟨c, r, rfl⟩
 have hsz := bs_size (c :: r)
 have q0 : (0 : Int) < ((c :: r).length : Int) := by simp
 have c0 : (bs (c :: r))[0]'(by rw [hsz]; simp) = c := rfl
 by_cases h47 : c = 47
 ·subst h47
  have b47 : (((47 : UInt8).toNat : Int) == 47) = true := rfl
  go_enter Tryz.func71, Tryz.ntmps71
  go_wp2_with fail
  go_ret
  exact ⟨rfl, Below.refl _ _⟩
 ·have b47 : ((c.toNat : Int) == 47) = false := by
   simp
   intro h; exact h47 (UInt8.toNat_inj.1 (by simpa using (by omega : c.toNat = 47)))
  have Ho := hide (show outP d (c :: r) = outGo d (sp (c :: r)) by unfold outP; rw [if_neg (by simpa using h47)])
  clear h47
  go_enter Tryz.func71, Tryz.ntmps71
  go_wp2_with fail
  refine (split_any (c :: r) w hl).mono ?_
  rintro e w1 ⟨v, rfl, ho1, hb1⟩
  obtain ⟨a1, cc, rfl, ht1, _⟩ := ho1.texts
  have hsl := sp_len (c :: r)
  clear c0 hsz
  generalize hS : sp (c :: r) = S at *
  clear hS
  have hsl2 : S.length ≤ 1200000 := by omega
  clear hsl
  go_wp2_with fail
  go_loop [0, 6] (fun dv i => ∃ (k : Nat) (e : Int), k ≤ S.length ∧ i = .int .i64 k ∧ dv = .int .i64 e ∧ 0 ≤ e ∧ e ≤ 100 + k ∧ outGo d S = outGo e (S.drop k)) (fun _ i => S.length - (intOf i).toNat)
  case atStart => exact ⟨0, d, Nat.zero_le _, rfl, rfl, hd0, by omega, by simp⟩
  case round =>
   obtain ⟨k, e, hk, rfl, rfl, he0, he1, hg⟩ := hrel
   have Hg := hide hg
   clear hg
   by_cases hlt : k < S.length
   ·obtain ⟨b, o, rfl, hc⟩ : ∃ b o, a1 = some ⟨b, o, none⟩ ∧ ∀ i (h : i < S.length), w1.cell? ⟨b, o + i, none⟩ = some (strVal S[i]) := by
     rcases ht1 with h | h
     ·subst h; simp at hlt
     ·exact h
    have ck := hc k hlt
    obtain ⟨x, hx⟩ : ∃ x, S[k] = x := ⟨_, rfl⟩
    rw [hx] at ck
    unfold strVal at ck
    have hdr : S.drop k = x :: S.drop (k + 1) := by rw [List.drop_eq_getElem_cons hlt, hx]
    have Hdr := hide hdr
    have q2 : (k : Int) < (S.length : Int) := by omega
    have s1 := str_eq x [46, 46]
    have s2 : (bs x).toList.isEmpty = x.isEmpty := by rw [ByteArray.toList_eq, bs_data]
    have s3 := str_eq x [46]
    clear hx hdr hc
    by_cases hup : x = [46, 46]
    ·subst hup
     have hstep : outGo e ([46, 46] :: S.drop (k + 1)) = if e - 1 < 0 then true else outGo (e - 1) (S.drop (k + 1)) := by simp [outGo]
     have Hst := hide hstep
     clear hstep s2 s3
     have s1' : ((bs [46, 46]).toList == [46, 46]) = true := by rw [s1]; rfl
     clear s1
     by_cases hneg : e - 1 < 0
     ·go_wp2_with fail
      go_ret
      exact ⟨ret_bool (by rw [unhide Ho, unhide Hg, unhide Hdr, unhide Hst, if_pos hneg]), hb1⟩
     ·go_wp2_with fail
      go_round
      case rel => exact ⟨k + 1, e - 1, by omega, by go_num, by go_num, by omega, by omega, by rw [unhide Hg, unhide Hdr, unhide Hst, if_neg hneg]⟩
      case measure => simp [intOf]; omega
    ·have s1' : ((bs x).toList == [46, 46]) = false := by rw [s1]; simpa using hup
     by_cases hst : x = [] ∨ x = [46]
     ·have hstep : outGo e (x :: S.drop (k + 1)) = outGo e (S.drop (k + 1)) := by
       simp only [outGo]; rw [if_neg hup, if_pos hst, if_neg (by omega)]
      have Hst := hide hstep
      clear hstep s1
      rcases hst with rfl | rfl
      ·have s2' : (bs ([] : List UInt8)).toList.isEmpty = true := by rw [s2]; rfl
       clear s2 s3 hup
       go_wp2_with fail
       go_round
       case rel => exact ⟨k + 1, e, by omega, by go_num, rfl, by omega, by omega, by rw [unhide Hg, unhide Hdr, unhide Hst]⟩
       case measure => simp [intOf]; omega
      ·have s2' : (bs [46]).toList.isEmpty = false := by rw [s2]; rfl
       have s3' : ((bs [46]).toList == [46]) = true := by rw [s3]; rfl
       clear s2 s3 hup
       go_wp2_with fail
       go_round
       case rel => exact ⟨k + 1, e, by omega, by go_num, rfl, by omega, by omega, by rw [unhide Hg, unhide Hdr, unhide Hst]⟩
       case measure => simp [intOf]; omega
     ·have hstep : outGo e (x :: S.drop (k + 1)) = outGo (e + 1) (S.drop (k + 1)) := by
       simp only [outGo]; rw [if_neg hup, if_neg hst, if_neg (by omega)]
      have Hst := hide hstep
      have s2' : (bs x).toList.isEmpty = false := by rw [s2]; cases x with
       | nil => exact absurd (.inl rfl) hst
       | cons _ _ => rfl
      have s3' : ((bs x).toList == [46]) = false := by rw [s3]; simpa using fun h => hst (.inr h)
      clear hstep s1 s2 s3 hup hst
      go_wp2_with fail
      go_round
      case rel => exact ⟨k + 1, e + 1, by omega, by go_num, by go_num, by omega, by omega, by rw [unhide Hg, unhide Hdr, unhide Hst]⟩
      case measure => simp [intOf]; omega
   ·obtain rfl : k = S.length := by omega
    go_wp2_with fail
    go_ret
    exact ⟨ret_bool (by rw [unhide Ho, unhide Hg, List.drop_length]; rfl), hb1⟩
theorem eq_item (n1 d1 t1 n2 d2 t2 : ByteArray) (k1 s1 k2 s2 : Int) (w : World) :
  (Op.equalIn 10000 47 (.agg #[.string n1, .int .i64 k1, .string d1, .int .i64 s1, .string t1]) (.agg #[.string n2, .int .i64 k2, .string d2, .int .i64 s2, .string t2])).run Tryz.prog w
   = .ok (n1.toList == n2.toList && (k1 == k2 && (d1.toList == d2.toList && (s1 == s2 && t1.toList == t2.toList)))) w := by
 have u3 := Tryz.underlying3
 have u9 := Tryz.underlying9
 have a3 := Tryz.isAgg3
 have a9 := Tryz.isAgg9
 have z3 := Tryz.sizeOf3
 have z9 := Tryz.sizeOf9
 have hS : Tryz.prog.underlying 47 = some (.struct (Tryz.prog.fieldsOf 47)) := by kernel_rfl
 have hp : Tryz.prog.stoodInHeld 47 = false := by kernel_rfl
 rw [show (10000 : Nat) = 9999 + 1 from rfl, run_equalIn_agg w 9999 47 _ _ hS hp]
 simp only [Program.fieldsOf, Tryz.underlying47]
 go_simp
 by_cases h1 : n1.toList = n2.toList <;> by_cases h2 : k1 = k2 <;> by_cases h3 : d1.toList = d2.toList <;> by_cases h4 : s1 = s2 <;> by_cases h5 : t1.toList = t2.toList <;> simp [h1, h2, h3, h4, h5]
set_option maxHeartbeats 1000000 in
theorem sameItems_same (l : List P.It) (a1 a2 : Option Addr) (c1 c2 : Nat) (w : World) (hl : l.length ≤ maxLen) (h1 : Lies w a1 l) (h2 : Lies w a2 l) :
  Calls Tryz.prog 79 #[.slice a1 l.length c1, .slice a2 l.length c2] w fun e w' => e = .returned (.bool true) ∧ ∃ n, w' = w.drewN n := by
 unfold maxLen at hl
 have hb : ((l.length : Int) != (l.length : Int)) = false := by simp
 go_enter Tryz.func79, Tryz.ntmps79
 go_wp2_with fail
 go_loopw [5] (fun i wr => ∃ k : Nat, k ≤ l.length ∧ i = .int .i64 k ∧ ∃ n, wr = w.drewN n) (fun i _ => l.length - (intOf i).toNat)
 case atStart => exact ⟨0, by omega, rfl, 0, rfl⟩
 case round =>
  obtain ⟨k, hk, rfl, n, hwr⟩ := hrel
  subst hwr
  by_cases hlt : k < l.length
  ·obtain ⟨b1, o1, rfl, i1⟩ : ∃ b o, a1 = some ⟨b, o, none⟩ ∧ ItemsAt w b o l := by
    rcases h1 with h | h
    ·subst h; simp at hlt
    ·exact h
   obtain ⟨b2, o2, rfl, i2⟩ : ∃ b o, a2 = some ⟨b, o, none⟩ ∧ ItemsAt w b o l := by
    rcases h2 with h | h
    ·subst h; simp at hlt
    ·exact h
   obtain ⟨p0, p1, p2, p3, p4⟩ := i1 k hlt
   obtain ⟨q0, q1, q2, q3, q4⟩ := i2 k hlt
   generalize l[k] = x at *
   obtain ⟨nm, kd, dg, sz, tg⟩ := x
   simp only at p0 p1 p2 p3 p4 q0 q1 q2 q3 q4
   have hlt' : (k : Int) < (l.length : Int) := by omega
   have heq : ∀ w, (Op.equalIn 10000 47 (.agg #[.string nm, .int .i64 kd, .string dg, .int .i64 sz, .string tg]) (.agg #[.string nm, .int .i64 kd, .string dg, .int .i64 sz, .string tg])).run Tryz.prog w = .ok true w := fun w => by
    rw [eq_item]; simp
   go_wp2_with fail
   go_quiet (fail)
   go_wp2
   go_roundw
   case rel => exact ⟨k + 1, by omega, by go_num, _, rfl⟩
   case measure => simp [intOf]; omega
  ·obtain rfl : k = l.length := by omega
   go_wp2_with fail
   go_ret
   exact ⟨rfl, n, rfl⟩
theorem list_choose {α : Type} {n : Nat} {p : Nat → α → Prop} (h : ∀ i, i < n → ∃ x, p i x) : ∃ l : List α, l.length = n ∧ ∀ i (hi : i < l.length), p i l[i] := by
 induction n with
 | zero => exact ⟨[], rfl, fun i hi => absurd hi (by simp)⟩
 | succ n ih =>
  obtain ⟨l, hl, hp⟩ := ih (fun i hi => h i (by omega))
  obtain ⟨x, hx⟩ := h n (by omega)
  refine ⟨l ++ [x], by simp [hl], fun i hi => ?_⟩
  by_cases hin : i < l.length
  ·rw [List.getElem_append_left hin]; exact hp i hin
  ·have : i = n := by simp at hi; omega
   subst this
   rw [List.getElem_append_right (by omega)]
   simpa using hx
theorem cells_str : Tryz.prog.cellsOf 9 = 1 := by kernel_rfl
theorem cells_int : Tryz.prog.cellsOf 3 = 1 := by kernel_rfl
theorem add_off (b o i : Nat) : (⟨b, o, none⟩ : Addr).add i = ⟨b, o + i, none⟩ := by unfold Addr.add; split <;> simp_all
def EntAt (w : World) (b p : Nat) (x : En) : Prop := w.cell? ⟨b, p, none⟩ = some (.string x.path) ∧ w.cell? ⟨b, p + 1, none⟩ = some (.int .i64 x.kind) ∧ w.cell? ⟨b, p + 2, none⟩ = some (.string x.data)
def EntsAt (w : World) (b o : Nat) (l : List En) : Prop := ∀ i (h : i < l.length), EntAt w b (o + i * 3) l[i]
def LiesE (w : World) (a : Option Addr) (l : List En) : Prop := l = [] ∨ ∃ b o, a = some ⟨b, o, none⟩ ∧ EntsAt w b o l
structure EFits (x : En) : Prop where
 path : x.path.size ≤ maxLen
 data : x.data.size ≤ maxLen
def enCells (x : En) : List Value := [.string x.path, .int .i64 x.kind, .string x.data]
theorem enCells_len (x : En) : (enCells x).length = 3 := rfl
theorem enCells_one (l : List En) : ∀ v ∈ rowCells enCells l, v.oneCell' = true := by
 intro v hv
 simp only [rowCells, List.mem_flatten, List.mem_map] at hv
 obtain ⟨c, ⟨x, _, rfl⟩, hx⟩ := hv
 simp only [enCells, List.mem_cons, List.not_mem_nil, or_false] at hx
 rcases hx with rfl | rfl | rfl <;> rfl
theorem EntsAt.row {w : World} {b o : Nat} {l : List En} (h : EntsAt w b o l) : RowAt enCells 3 w b o l := by
 intro i hi j v hv
 obtain ⟨c0, c1, c2⟩ := h i hi
 match j, hv with
 | 0, hv => simp [enCells] at hv; rw [← hv]; exact c0
 | 1, hv => simp [enCells] at hv; rw [← hv]; exact c1
 | 2, hv => simp [enCells] at hv; rw [← hv]; exact c2
 | j + 3, hv => simp [enCells] at hv
theorem EntsAt.of_row {w : World} {b o : Nat} {l : List En} (h : RowAt enCells 3 w b o l) : EntsAt w b o l := by
 intro i hi
 exact ⟨h i hi 0 _ rfl, h i hi 1 _ rfl, h i hi 2 _ rfl⟩
theorem EntsAt.below {B : Nat} {w w' : World} {b o : Nat} {l : List En} (h : EntsAt w b o l) (hb : Below B w w') (hB : w.heap.size ≤ B) : EntsAt w' b o l := .of_row (h.row.below hb hB)
theorem LiesE.below {B : Nat} {w w' : World} {a : Option Addr} {l : List En} (h : LiesE w a l) (hb : Below B w w') (hB : w.heap.size ≤ B) : LiesE w' a l := by
 rcases h with h | ⟨b, o, e, h⟩
 ·exact .inl h
 ·exact .inr ⟨b, o, e, h.below hb hB⟩
def enMark : En := ⟨⟨#[]⟩, -77, ⟨#[]⟩⟩
theorem info_ent : (Tryz.prog.info? 32).map (fun i => (i.zero, i.size, i.bytes)) = some (some (.agg #[.string ⟨#[]⟩, .int .i64 0, .string ⟨#[]⟩]), 3, 40) := by kernel_rfl
def emarked (l : List En) (i : Nat) : List En := l ++ (List.replicate i enMark ++ List.replicate (8 - i) en0)
theorem emarked_len (l : List En) (i : Nat) (h : i ≤ 8) : (emarked l i).length = l.length + 8 := by simp [emarked]; omega
theorem emarked_succ (l : List En) (i : Nat) (h : i < 8) : (emarked l i).set (l.length + i) enMark = emarked l (i + 1) := by
 unfold emarked
 rw [List.set_append_right _ _ (by omega), List.set_append_right _ _ (by simp)]
 congr 1
 rw [show (8 - i) = (8 - (i + 1)) + 1 by omega, List.replicate_succ]
 simp [List.replicate_succ']
theorem eqlE_nil (a : Option Addr) (n c : Nat) (w : World) : (binOp .eql 22 (.slice a n c) (.slice none 0 0)).run Tryz.prog w = .ok (.bool a.isNone) w :=
 Lib.run_eql_slice_nil w 22 32 a n c 0 0 Tryz.underlying22
theorem entriesOf_nil (w : World) :
  Calls Tryz.prog 15 #[.slice none 0 0] w fun e w' => e = .returned (.slice none 0 0) ∧ w' = w := by
 have hq := eqlE_nil
 go_enter Tryz.func15, Tryz.ntmps15
 go_wp2
 go_ret
 exact ⟨rfl, rfl⟩
theorem LiesE.src {w : World} {ad : Addr} {l : List En} (h : LiesE w (some ad) l) : ∀ j v, (rowCells enCells l)[j]? = some v → w.cell? (ad.add j) = some v := by
 rcases h with rfl | ⟨b, o, e, h⟩
 ·intro j v hv; simp [rowCells] at hv
 ·simp at e; subst e
  exact h.row.src enCells_len
theorem set3 (w : World) (b p : Nat) (x : En) : w.setCells b p (enCells x) = ((w.setCell ⟨b, p, none⟩ (.string x.path)).setCell ⟨b, p + 1, none⟩ (.int .i64 x.kind)).setCell ⟨b, p + 2, none⟩ (.string x.data) := rfl
set_option maxRecDepth 100000 in
set_option maxHeartbeats 1000000 in
theorem entriesOf_some (l : List En) (ad : Addr) (c : Nat) (w : World) (hl : l.length * 40 ≤ 140737488351232) (hi : LiesE w (some ad) l) :
  Calls Tryz.prog 15 #[.slice (some ad) l.length c] w fun e w' => e = .returned (.slice (some ⟨w.heap.size, 0, none⟩) l.length (l.length + 8)) ∧ EntsAt w' w.heap.size 0 (emarked l 8) ∧ Below w.heap.size w w' := by
 have hq := eqlE_nil
 have hlen := rowCells_length (n := 3) enCells_len l
 obtain ⟨W1, hmk, hrow, hbel, hfz⟩ : ∃ W1, (Instr.makeSlice 22 (.int .i64 ((l.length : Int) + 8)) (.int .i64 ((l.length : Int) + 8))).run Tryz.prog w = .ok (.slice (some ⟨w.heap.size, 0, none⟩) (l.length + 8) (l.length + 8)) W1
   ∧ RowAt enCells 3 W1 w.heap.size 0 (List.replicate (l.length + 8) en0) ∧ Below w.heap.size w W1 ∧ ∀ j, W1.frozen? ⟨w.heap.size, j, none⟩ = false := by
  obtain ⟨i0, hi0, hz0, hz1, hz2⟩ := info_parts info_ent
  have h := run_make (P := Tryz.prog) w 22 32 i0 _ Tryz.underlying22 hi0 hz0 .i64 .i64 ((l.length : Int) + 8) ((l.length : Int) + 8) (by omega) (by omega) (by rw [hz2]; omega) (by omega)
  rw [hz1, show ((l.length : Int) + 8).toNat = l.length + 8 by omega] at h
  exact ⟨_, h, RowAt.made enCells_len en0 _ rfl (l.length + 8) w 32, (Below.refl _ _).alloc (Nat.le_refl _) _, fun j => free_block (heap_alloc_new w _)⟩
 have hsrc := (hi.below hbel (Nat.le_refl _)).src
 have hcp := run_copy_rec (P := Tryz.prog) W1 22 22 3 32 w.heap.size 0 (l.length + 8) (l.length + 8) ad l.length c 3 (rowCells enCells l) Tryz.underlying22 (by kernel_rfl)
  (by rw [hlen]; congr 1; exact (Nat.min_eq_left (by omega)).symm) hsrc (fun j hj => hrow.there enCells_len j (by simp; omega)) (fun j _ => by rw [Nat.zero_add]; exact hfz j) (enCells_one l)
 have hrow2 : RowAt enCells 3 (W1.setCells w.heap.size 0 (rowCells enCells l)) w.heap.size 0 (emarked l 0) := by
  have := hrow.copied enCells_len l (by simp)
  unfold emarked
  simpa using this
 have hbel2 := below_setCells w.heap.size (Nat.le_refl _) (rowCells enCells l) 0 W1 hbel
 have hfz2 : ∀ j, (W1.setCells w.heap.size 0 (rowCells enCells l)).frozen? ⟨w.heap.size, j, none⟩ = false := fun j => by rw [World.frozen?_setCells]; exact hfz j
 generalize W1.setCells w.heap.size 0 (rowCells enCells l) = W2 at *
 clear hrow hfz hsrc hbel hi hlen
 go_enter Tryz.func15, Tryz.ntmps15
 go_wp2_with fail
 clear hcp hmk hq
 go_loopw [5] (fun i wr => ∃ k : Nat, k ≤ 8 ∧ i = .int .i64 k ∧ RowAt enCells 3 wr w.heap.size 0 (emarked l k) ∧ Below w.heap.size w wr ∧ ∀ j, wr.frozen? ⟨w.heap.size, j, none⟩ = false) (fun i _ => 8 - (intOf i).toNat)
 case atStart => exact ⟨0, by omega, rfl, hrow2, hbel2, hfz2⟩
 case round =>
  obtain ⟨k, hk, rfl, hr, hb, hf⟩ := hrel
  clear hrow2 hbel2 hfz2
  by_cases hlt : k < 8
  ·obtain ⟨c0, c1, c2⟩ := EntsAt.of_row hr (l.length + k) (by rw [emarked_len l k hk]; omega)
   have hnew := hr.store enCells_len (l.length + k) (by rw [emarked_len l k hk]; omega) enMark
   rw [emarked_succ l k hlt] at hnew
   generalize (emarked l k)[l.length + k]'(by rw [emarked_len l k hk]; omega) = y at *
   obtain ⟨nm, kd, dg⟩ := y
   simp only [Nat.zero_add] at c0 c1 c2
   have f0 := hf ((l.length + k) * 3)
   have f1 := hf ((l.length + k) * 3 + 1)
   have f2 := hf ((l.length + k) * 3 + 2)
   have hb' := below_setCells w.heap.size (Nat.le_refl _) (enCells enMark) (0 + (l.length + k) * 3) wr hb
   have hf' : ∀ j, (wr.setCells w.heap.size (0 + (l.length + k) * 3) (enCells enMark)).frozen? ⟨w.heap.size, j, none⟩ = false := fun j => by rw [World.frozen?_setCells]; exact hf j
   rw [Nat.zero_add, set3] at hnew hb'
   simp only [Nat.zero_add, set3] at hf'
   simp only [enMark] at hnew hb' hf'
   have H := hide (And.intro hnew (And.intro hb' hf'))
   clear hnew hb' hf' hf
   go_wp2_with fail
   go_roundw
   case rel =>
    obtain ⟨hnew, hb', hf'⟩ := unhide H
    exact ⟨k + 1, by omega, by go_num, hnew, hb', hf'⟩
   case measure => simp [intOf]; omega
  ·obtain rfl : k = 8 := by omega
   go_wp2_with fail
   go_ret
   exact ⟨rfl, EntsAt.of_row hr, hb⟩
theorem eq_ent (n1 d1 n2 d2 : ByteArray) (k1 k2 : Int) (w : World) :
  (Op.equalIn 10000 32 (.agg #[.string n1, .int .i64 k1, .string d1]) (.agg #[.string n2, .int .i64 k2, .string d2])).run Tryz.prog w
   = .ok (n1.toList == n2.toList && (k1 == k2 && d1.toList == d2.toList)) w := by
 have u3 := Tryz.underlying3
 have u9 := Tryz.underlying9
 have a3 := Tryz.isAgg3
 have a9 := Tryz.isAgg9
 have z3 := Tryz.sizeOf3
 have z9 := Tryz.sizeOf9
 have hS : Tryz.prog.underlying 32 = some (.struct (Tryz.prog.fieldsOf 32)) := by kernel_rfl
 have hp : Tryz.prog.stoodInHeld 32 = false := by kernel_rfl
 rw [show (10000 : Nat) = 9999 + 1 from rfl, run_equalIn_agg w 9999 32 _ _ hS hp]
 simp only [Program.fieldsOf, Tryz.underlying32]
 go_simp
 by_cases h1 : n1.toList = n2.toList <;> by_cases h2 : k1 = k2 <;> by_cases h3 : d1.toList = d2.toList <;> simp [h1, h2, h3]
set_option maxHeartbeats 1000000 in
theorem sameEntries_same (l : List En) (a1 a2 : Option Addr) (c1 c2 : Nat) (w : World) (hl : l.length ≤ maxLen) (h1 : LiesE w a1 l) (h2 : LiesE w a2 l) :
  Calls Tryz.prog 44 #[.slice a1 l.length c1, .slice a2 l.length c2] w fun e w' => e = .returned (.bool true) ∧ ∃ n, w' = w.drewN n := by
 unfold maxLen at hl
 have hb : ((l.length : Int) != (l.length : Int)) = false := by simp
 go_enter Tryz.func44, Tryz.ntmps44
 go_wp2_with fail
 go_loopw [5] (fun i wr => ∃ k : Nat, k ≤ l.length ∧ i = .int .i64 k ∧ ∃ n, wr = w.drewN n) (fun i _ => l.length - (intOf i).toNat)
 case atStart => exact ⟨0, by omega, rfl, 0, rfl⟩
 case round =>
  obtain ⟨k, hk, rfl, n, hwr⟩ := hrel
  subst hwr
  by_cases hlt : k < l.length
  ·obtain ⟨b1, o1, rfl, i1⟩ : ∃ b o, a1 = some ⟨b, o, none⟩ ∧ EntsAt w b o l := by
    rcases h1 with h | h
    ·subst h; simp at hlt
    ·exact h
   obtain ⟨b2, o2, rfl, i2⟩ : ∃ b o, a2 = some ⟨b, o, none⟩ ∧ EntsAt w b o l := by
    rcases h2 with h | h
    ·subst h; simp at hlt
    ·exact h
   obtain ⟨p0, p1, p2⟩ := i1 k hlt
   obtain ⟨q0, q1, q2⟩ := i2 k hlt
   generalize l[k] = x at *
   obtain ⟨nm, kd, dg⟩ := x
   simp only at p0 p1 p2 q0 q1 q2
   have hlt' : (k : Int) < (l.length : Int) := by omega
   have heq : ∀ w, (Op.equalIn 10000 32 (.agg #[.string nm, .int .i64 kd, .string dg]) (.agg #[.string nm, .int .i64 kd, .string dg])).run Tryz.prog w = .ok true w := fun w => by
    rw [eq_ent]; simp
   go_wp2_with fail
   go_quiet (fail)
   go_wp2
   go_roundw
   case rel => exact ⟨k + 1, by omega, by go_num, _, rfl⟩
   case measure => simp [intOf]; omega
  ·obtain rfl : k = l.length := by omega
   go_wp2_with fail
   go_ret
   exact ⟨rfl, n, rfl⟩
theorem emarked_at (l : List En) (j : Nat) (hj : l.length ≤ j) (h : j < (emarked l 8).length) : (emarked l 8)[j] = enMark := by
 have hl := emarked_len l 8 (by omega)
 have e : (emarked l 8)[j]? = some enMark := by
  unfold emarked
  rw [List.getElem?_append_right hj, List.getElem?_append_left (by simp; omega), List.getElem?_replicate, if_pos (by omega)]
 rw [List.getElem?_eq_getElem h] at e
 exact Option.some.inj e
theorem emarked_lo (l : List En) (j : Nat) (hj : j < l.length) (h : j < (emarked l 8).length) : (emarked l 8)[j] = l[j] := by
 have e : (emarked l 8)[j]? = some l[j] := by
  unfold emarked
  rw [List.getElem?_append_left hj, List.getElem?_eq_getElem hj]
 rw [List.getElem?_eq_getElem h] at e
 exact Option.some.inj e
theorem stillEntries_nil (w : World) :
  Calls Tryz.prog 16 #[.slice none 0 0, .slice none 0 0] w fun e w' => e = .returned (.bool true) ∧ ∃ n, w' = w.drewN n := by
 have hq := eqlE_nil
 go_enter Tryz.func16, Tryz.ntmps16
 go_wp2_with fail
 refine (sameEntries_same [] none none 0 0 w (by decide) (.inl rfl) (.inl rfl)).mono ?_
 rintro e w1 ⟨rfl, n, hw⟩
 subst hw
 go_wp2_with fail
 go_ret
 exact ⟨rfl, n, rfl⟩
set_option maxHeartbeats 1000000 in
theorem stillEntries_some (l : List En) (g : Nat) (a2 : Option Addr) (c2 : Nat) (w : World) (hl : l.length * 40 ≤ 140737488351232) (h1 : EntsAt w g 0 (emarked l 8)) (h2 : LiesE w a2 l) :
  Calls Tryz.prog 16 #[.slice (some ⟨g, 0, none⟩) l.length (l.length + 8), .slice a2 l.length c2] w fun e w' => e = .returned (.bool true) ∧ ∃ n, w' = w.drewN n := by
 have hq := eqlE_nil
 have h1l : EntsAt w g 0 l := fun i hi => by
  have := h1 i (by rw [emarked_len l 8 (by omega)]; omega)
  rw [emarked_lo l i hi] at this
  exact this
 go_enter Tryz.func16, Tryz.ntmps16
 go_wp2_with fail
 refine (sameEntries_same l (some ⟨g, 0, none⟩) a2 _ _ w (by unfold maxLen; omega) (.inr ⟨g, 0, rfl, h1l⟩) h2).mono ?_
 rintro e w1 ⟨rfl, n, hw⟩
 subst hw
 have hle : (l.length : Int) + 8 ≤ ((l.length + 8 : Nat) : Int) := by omega
 go_wp2_with fail
 clear hq
 go_loop [7] (fun i => ∃ j : Nat, l.length ≤ j ∧ j ≤ l.length + 8 ∧ i = .int .i64 j) (fun i => l.length + 8 - (intOf i).toNat)
 case atStart => exact ⟨l.length, by omega, by omega, rfl⟩
 case round =>
  obtain ⟨j, hj1, hj2, rfl⟩ := hrel
  by_cases hlt : j < l.length + 8
  ·have hjm : j < (emarked l 8).length := by rw [emarked_len l 8 (by omega)]; exact hlt
   have hmk := emarked_at l j hj1 hjm
   obtain ⟨c0, c1, c2⟩ := h1 j hjm
   rw [hmk] at c0 c1 c2
   simp only [enMark, Nat.zero_add] at c0 c1 c2
   have hlt' : (j : Int) < ((l.length + 8 : Nat) : Int) := by omega
   clear hmk
   go_wp2_with fail
   go_round
   case rel => exact ⟨j + 1, by omega, by omega, by go_num⟩
   case measure => simp [intOf]; omega
  ·obtain rfl : j = l.length + 8 := by omega
   go_wp2_with fail
   go_ret
   exact ⟨rfl, n, rfl⟩
theorem cells_ent : Tryz.prog.cellsOf 32 = 3 := by kernel_rfl
end Go.Proofs.YtjmacegibchplaaGreatDoor