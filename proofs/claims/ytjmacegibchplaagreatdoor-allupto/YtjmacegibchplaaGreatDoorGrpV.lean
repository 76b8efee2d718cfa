import Derived.Test.YtjmacegibchplaaGreatDoorMapV
import Derived.Test.YtjmacegibchplaaGreatDoorUplP
import Derived.Test.YtjmacegibchplaaGreatDoorTreeD
import Derived.Maps.OwnOps
import Derived.Maps.AppendAt
import Derived.Deep.RegionHeld3
namespace Go.Proofs.YtjmacegibchplaaGreatDoor
open Go.RowKit
set_option linter.unusedVariables false
theorem wp_look_ok {w : World} {ops : Array Oper} {rest : List Oper} {o : Oper} {a : Act} {Q : Exit → Act → World → Prop} (hg : o.guard = none) (m x : Operand) (t : TypeId) (hop : o.op = Op.lookup t m x true)
  (e : TypeId) (ht : Tryz.prog.underlying t = some (.map 9 e)) (z : Value) (hz : (zeroValue e).run Tryz.prog w = .ok z w) (b n : Nat) (f : List UInt8 → Option Value) (hm : a.eval m = .map (some b)) (h : MapIs w b n f) (k : List UInt8) (hx : a.eval x = .string (bs k)) (hk : k.length ≤ maxLen)
  (hK : wpList Tryz.prog ops Q rest (a.put o.dst (.tuple #[(f k).getD z, .bool (f k).isSome])) w) : wpList Tryz.prog ops Q (o :: rest) a w := by
 refine wpList_plain hg fun K' hK' => ?_
 have hrun := h.look_ok t e ht z hz k hk
 unfold Oper.wp
 simp [execOp, hop, hm, hx, hrun, Result.andThen]
 exact hK' _ _ hK
theorem wp_look {w : World} {ops : Array Oper} {rest : List Oper} {o : Oper} {a : Act} {Q : Exit → Act → World → Prop} (hg : o.guard = none) (m x : Operand) (t : TypeId) (hop : o.op = Op.lookup t m x false)
  (e : TypeId) (ht : Tryz.prog.underlying t = some (.map 9 e)) (z : Value) (hz : (zeroValue e).run Tryz.prog w = .ok z w) (b n : Nat) (f : List UInt8 → Option Value) (hm : a.eval m = .map (some b)) (h : MapIs w b n f) (k : List UInt8) (hx : a.eval x = .string (bs k)) (hk : k.length ≤ maxLen)
  (hK : wpList Tryz.prog ops Q rest (a.put o.dst ((f k).getD z)) w) : wpList Tryz.prog ops Q (o :: rest) a w := by
 refine wpList_plain hg fun K' hK' => ?_
 have hrun := h.look t e ht z hz k hk
 unfold Oper.wp
 simp [execOp, hop, hm, hx, hrun, Result.andThen]
 exact hK' _ _ hK
theorem wp_store {w : World} {ops : Array Oper} {rest : List Oper} {o : Oper} {a : Act} {Q : Exit → Act → World → Prop} (hg : o.guard = none) (m x v : Operand) (t : TypeId) (hop : o.op = Op.mapUpdate t m x v)
  (e : TypeId) (ht : Tryz.prog.underlying t = some (.map 9 e)) (b n : Nat) (f : List UInt8 → Option Value) (hm : a.eval m = .map (some b)) (h : MapIs w b n f) (hn : n < maxLen) (k : List UInt8) (hx : a.eval x = .string (bs k)) (hk : k.length ≤ maxLen) (val : Value) (hv : a.eval v = val)
  (hK : ∀ w', MapIs w' b (n + 1) (updF f k val) → w.grownBy w' (some b) → wpList Tryz.prog ops Q rest (a.put o.dst undef) w') : wpList Tryz.prog ops Q (o :: rest) a w := by
 refine wpList_plain hg fun K' hK' => ?_
 obtain ⟨w', hrun, r1, r2⟩ := h.store t e ht hn k hk val
 unfold Oper.wp
 simp [execOp, hop, hm, hx, hv, hrun, Result.andThen]
 exact hK' _ _ (hK w' r1 r2)
def kindOf (l : List En) (p : List UInt8) : Option Int := (l.find? (fun e => e.path.data.toList == p)).map (·.kind)
def kindsF (l : List En) : List UInt8 → Option Value := fun p => (kindOf l p).map (Value.int .i64)
theorem kindsF_snoc (l : List En) (x : En) (h : kindOf l x.path.data.toList = none) : updF (kindsF l) x.path.data.toList (.int .i64 x.kind) = kindsF (l ++ [x]) := by
 funext p
 unfold updF kindsF kindOf
 rw [List.find?_append]
 by_cases hp : p = x.path.data.toList
 ·subst hp
  have hn : l.find? (fun e => e.path.data.toList == x.path.data.toList) = none := by
   unfold kindOf at h
   simpa using h
  rw [if_pos rfl, hn]
  simp
 ·rw [if_neg hp]
  have : ([x].find? fun e => e.path.data.toList == p) = none := by simp; exact fun e => hp e.symm
  rw [this]; simp
def ok1 (l : List En) (i : Nat) : Bool := (kindOf (l.take i) (pathAt l i)).isNone && entOk (l.getD i en0)
def ok2 (l : List En) (i : Nat) : Bool := (upAt l i).isEmpty || (kindOf l (upAt l i) == some 0)
def treeB (l : List En) : Bool := decide (l.length ≤ 40) && (List.range l.length).all (ok1 l) && (List.range l.length).all (ok2 l)
theorem zero_int (w : World) : (zeroValue 3).run Tryz.prog w = .ok (.int .i64 0) w := by kernel_rfl
theorem all_range_false {p : Nat → Bool} {n k : Nat} (h : k < n) (hp : p k = false) : (List.range n).all p = false := by
 rw [List.all_eq_false]
 exact ⟨k, by simpa using h, by simp [hp]⟩
theorem all_range_succ {p : Nat → Bool} {k : Nat} (h : (List.range k).all p = true) (hp : p k = true) : (List.range (k + 1)).all p = true := by
 rw [List.range_succ, List.all_append, h]; simp [hp]
theorem under64 : Tryz.prog.underlying 144 = some (.map 9 3) := by kernel_rfl
set_option maxRecDepth 100000 in
set_option maxHeartbeats 2000000 in
theorem is_any (l : List En) (a : Option Addr) (c : Nat) (w : World) (hl : l.length ≤ maxLen) (hi : LiesE w a l) (hf : TFit l) (hg : GlobOk w) :
  Calls Tryz.prog 62 #[.slice a l.length c] w fun e w' => e = .returned (.bool (treeB l)) ∧ Below w.heap.size w w' := by
 have hmm := @run_makeMap Tryz.prog
 have hw := within_any (l.length : Int) 0 40 w (by decide)
 have hwd : P.within (l.length : Int) 0 40 = decide (l.length ≤ 40) := by
  unfold P.within; congr 1; apply propext; omega
 rw [hwd] at hw
 by_cases h40 : l.length ≤ 40
 ·rw [decide_eq_true h40] at hw
  have HT := hide (show treeB l = ((List.range l.length).all (ok1 l) && (List.range l.length).all (ok2 l)) by unfold treeB; rw [decide_eq_true h40, Bool.true_and])
  clear hwd
  go_enter Tryz.func62, Tryz.ntmps62
  go_wp2_with (go_at_call 86; refine hw.mono ?_; rintro e w' ⟨rfl, hw'⟩; rw [hw']; clear hw' w')
  clear hmm hw
  go_loopw [21] (fun i wr => ∃ k : Nat, k ≤ l.length ∧ i = .int .i64 k ∧ MapIs wr w.heap.size k (kindsF (l.take k)) ∧ Below w.heap.size w wr ∧ (List.range k).all (ok1 l) = true) (fun i _ => l.length - (intOf i).toNat)
  case atStart => exact ⟨0, Nat.zero_le _, rfl, MapIs.made w, (Below.refl _ _).alloc (Nat.le_refl _) _, rfl⟩
  case round =>
   obtain ⟨k, hk, rfl, hmap, hb, hall⟩ := hrel
   have Hall := hide hall
   clear hall
   by_cases hlt : k < l.length
   ·obtain ⟨b, o, rfl, i1⟩ : ∃ b o, a = some ⟨b, o, none⟩ ∧ EntsAt wr b o l := by
     rcases hi.below hb (Nat.le_refl _) with h | h
     ·subst h; simp at hlt
     ·exact h
    obtain ⟨c0, c1, c2⟩ := i1 k hlt
    have hfk := hf k hlt
    have Hx := hide (show l.getD k en0 = l[k] from en_getD l k hlt)
    obtain ⟨x, hx⟩ : ∃ x, l[k] = x := ⟨_, rfl⟩
    have Ht := hide (show l.take (k + 1) = l.take k ++ [x] by rw [← hx]; exact (List.take_succ_eq_append_getElem hlt))
    rw [hx] at c0 c1 c2 hfk Hx
    have he := fun w' hg' => isEntry_any x w' hg' hfk.1 hfk.2
    have hgl := hg.below hb (Nat.le_refl _)
    clear hx i1
    obtain ⟨pa, kd, dt⟩ := x
    obtain ⟨p, rfl⟩ : ∃ p, pa = bs p := ⟨pa.data.toList, (bs_of pa).symm⟩
    have hpl : p.length ≤ 1100000 := by have := hfk.1; simpa [bs_size] using this
    have hpm : p.length ≤ maxLen := by unfold maxLen; omega
    have Hpa := hide (show pathAt l k = p by unfold pathAt; rw [unhide Hx]; exact bs_data p)
    simp only at c0 c1 c2
    have hlt' : (k : Int) < (l.length : Int) := by omega
    unfold entV at he
    simp only at he
    generalize hA : entOk ⟨bs p, kd, dt⟩ = A at *
    have HA := hide hA
    clear hA hfk
    have hg1 : GlobOk (wr.alloc (.cells #[.string (bs p), .int .i64 kd, .string dt] 32)) := hgl.below ((Below.refl _ _).alloc (Nat.le_refl _) _) (Nat.le_refl _)
    generalize hF : kindsF (l.take k) = F at *
    have HF := hide hF
    cases hkf : F p with
    | some v =>
     have Hko := hide (show ok1 l k = false by
      unfold ok1; rw [unhide Hpa]
      rw [← hF] at hkf
      unfold kindsF at hkf
      cases hko : kindOf (l.take k) p with
      | none => rw [hko] at hkf; simp at hkf
      | some _ => rfl)
     clear hF
     go_wp2_with (at_lookup; refine wp_look_ok rfl _ _ 144 rfl 3 under64 (.int .i64 0) (zero_int _) w.heap.size k F rfl (hmap.alloc _) p rfl hpm ?_; rw [hkf])
     go_ret
     exact ⟨ret_bool (by rw [unhide HT, all_range_false hlt (unhide Hko), Bool.false_and]), hb.alloc hb.size _⟩
    | none =>
     have Hno := hide (show kindOf (l.take k) p = none by
      rw [← hF] at hkf
      unfold kindsF at hkf
      simpa using hkf)
     clear hF
     go_wp2_with (at_lookup; refine wp_look_ok rfl _ _ 144 rfl 3 under64 (.int .i64 0) (zero_int _) w.heap.size k F rfl (hmap.alloc _) p rfl hpm ?_; rw [hkf])
     refine (he _ hg1).mono ?_
     rintro e w2 ⟨rfl, hb2⟩
     have hbw : Below w.heap.size w w2 := (hb.alloc hb.size _).trans (hb2.mono (hb.alloc hb.size _).size)
     have hmw : w.heap.size < (wr.alloc (.cells #[.string (bs p), .int .i64 kd, .string dt] 32)).heap.size := (hmap.alloc _).lt
     have hm2 : MapIs w2 w.heap.size k F := (hmap.alloc _).same (hb2.block _ hmw)
     have hcc := (bcell hb2).1 wr.heap.size
     have d0 := (hcc 0 (by simp)).trans (by simp : _ = some (.string (bs p)))
     have d1 := (hcc 1 (by simp)).trans (by simp : _ = some (.int .i64 kd))
     have Hok := hide (show ok1 l k = A by unfold ok1; rw [unhide Hpa, unhide Hno, unhide Hx, unhide HA]; rfl)
     clear hb2 hcc hmw he hg1
     cases A with
     | false =>
      go_wp2_with fail
      go_ret
      exact ⟨ret_bool (by rw [unhide HT, all_range_false hlt (unhide Hok), Bool.false_and]), hbw⟩
     | true =>
      go_wp2_with (at_mapUpdate; refine wp_store rfl _ _ _ 144 rfl 3 under64 w.heap.size k F rfl hm2 (by unfold maxLen; omega) p rfl hpm _ rfl ?_; intro w3 hm3 hg3)
      have hb3 : Below w.heap.size w w3 := hbw.grown hg3 hbw.size (fun j hj => by cases hj; exact Nat.le_refl _)
      go_roundw
      case rel =>
       refine ⟨k + 1, by omega, by go_num, ?_, hb3, all_range_succ (unhide Hall) (unhide Hok)⟩
       rw [unhide Ht, ← kindsF_snoc _ _ (by simp only [bs_data]; exact unhide Hno), unhide HF]
       simp only [bs_data]
       exact hm3
      case measure => simp [intOf]; omega
   ·obtain rfl : k = l.length := by omega
    rw [List.take_length] at hmap
    have HT2 := hide (show treeB l = (List.range l.length).all (ok2 l) by rw [unhide HT, unhide Hall, Bool.true_and])
    clear HT Hall
    obtain ⟨wm, rfl⟩ : ∃ wm, wm = wr := ⟨_, rfl⟩
    have hi1 := hi.below hb (Nat.le_refl _)
    have hbwr := hb
    generalize hF : kindsF l = F at *
    have HF := hide hF
    clear hF
    go_wp2_with fail
    go_loopw [46] (fun i wr => ∃ k : Nat, k ≤ l.length ∧ i = .int .i64 k ∧ Below wm.heap.size wm wr ∧ (List.range k).all (ok2 l) = true) (fun i _ => l.length - (intOf i).toNat)
    case atStart => exact ⟨0, Nat.zero_le _, rfl, Below.refl _ _, rfl⟩
    case round =>
     obtain ⟨k, hk, rfl, hb, hall⟩ := hrel
     have Hall := hide hall
     clear hall
     by_cases hlt : k < l.length
     ·obtain ⟨b, o, rfl, i1⟩ : ∃ b o, a = some ⟨b, o, none⟩ ∧ EntsAt wr b o l := by
       rcases hi1.below hb (Nat.le_refl _) with h | h
       ·subst h; simp at hlt
       ·exact h
      obtain ⟨c0, c1, c2⟩ := i1 k hlt
      have hfk := hf k hlt
      have Hx := hide (show l.getD k en0 = l[k] from en_getD l k hlt)
      obtain ⟨x, hx⟩ : ∃ x, l[k] = x := ⟨_, rfl⟩
      rw [hx] at c0 c1 c2 hfk Hx
      clear hx i1
      obtain ⟨pa, kd, dt⟩ := x
      obtain ⟨p, rfl⟩ : ∃ p, pa = bs p := ⟨pa.data.toList, (bs_of pa).symm⟩
      have hpl : p.length ≤ 1100000 := by have := hfk.1; simpa [bs_size] using this
      have Hpa := hide (show pathAt l k = p by unfold pathAt; rw [unhide Hx]; exact bs_data p)
      have hsp := fun w' => tsplit p w' hpl
      have hul : (upPath p).length ≤ maxLen := by
       unfold upPath maxLen; rw [List.length_take]; omega
      have Hu := hide (show upAt l k = upPath p by unfold upAt; rw [unhide Hpa])
      generalize upPath p = u at *
      generalize nameOf p = nn at *
      simp only at c0 c1 c2
      have hlt' : (k : Int) < (l.length : Int) := by omega
      have hmx : MapIs wr w.heap.size l.length F := hmap.same (hb.block _ hmap.lt)
      have hbx : Below w.heap.size w wr := hbwr.trans (hb.mono hbwr.size)
      have s1 : (bs u).toList.isEmpty = u.isEmpty := by rw [ByteArray.toList_eq, bs_data]
      have Ho := hide (show ok2 l k = (u.isEmpty || (kindOf l u == some 0)) by unfold ok2; rw [unhide Hu])
      clear hfk
      go_wp2_with fail
      refine (hsp _).mono ?_
      rintro e w2 ⟨rfl, n2, hw2⟩
      have hbA : Below wm.heap.size wm w2 := by rw [hw2]; exact below_drewN (hb.alloc hb.size _) _
      have hbB : Below w.heap.size w w2 := hbwr.trans (hbA.mono hbwr.size)
      have hm2 : MapIs w2 w.heap.size l.length F := hmap.same (hbA.block _ hmap.lt)
      clear hw2 hsp c0 c1 c2 hmx hbx hmap hb
      generalize hkf : kindOf l u = kf at *
      have hFu : F u = kf.map (Value.int .i64) := by rw [← unhide HF]; unfold kindsF; rw [hkf]
      clear hkf
      by_cases hu0 : u = []
      ·subst hu0
       have Hr := hide (show ok2 l k = true by rw [unhide Ho]; rfl)
       go_wp2_with (at_lookup; refine wp_look_ok rfl _ _ 144 rfl 3 under64 (.int .i64 0) (zero_int _) w.heap.size l.length F rfl hm2 [] rfl hul ?_)
       go_roundw
       case rel => exact ⟨k + 1, by omega, by go_num, hbA, all_range_succ (unhide Hall) (unhide Hr)⟩
       case measure => simp [intOf]; omega
      ·have hue : u.isEmpty = false := by cases u <;> simp_all
       rw [hue] at s1
       cases kf with
       | none =>
        have Hr := hide (show ok2 l k = false by rw [unhide Ho, hue]; rfl)
        clear hu0 hue
        go_wp2_with (at_lookup; refine wp_look_ok rfl _ _ 144 rfl 3 under64 (.int .i64 0) (zero_int _) w.heap.size l.length F rfl hm2 u rfl hul ?_; rw [hFu])
        go_ret
        exact ⟨ret_bool (by rw [unhide HT2, all_range_false hlt (unhide Hr)]), hbB⟩
       | some kk =>
        by_cases hk0 : kk = 0
        ·subst hk0
         have Hr := hide (show ok2 l k = true by rw [unhide Ho, hue]; rfl)
         clear hu0 hue
         go_wp2_with (at_lookup; refine wp_look_ok rfl _ _ 144 rfl 3 under64 (.int .i64 0) (zero_int _) w.heap.size l.length F rfl hm2 u rfl hul ?_; rw [hFu])
         go_roundw
         case rel => exact ⟨k + 1, by omega, by go_num, hbA, all_range_succ (unhide Hall) (unhide Hr)⟩
         case measure => simp [intOf]; omega
        ·have b0 : (kk == 0) = false := by simpa using hk0
         have Hr := hide (show ok2 l k = false by rw [unhide Ho, hue]; simpa using hk0)
         clear hu0 hue hk0
         go_wp2_with (at_lookup; refine wp_look_ok rfl _ _ 144 rfl 3 under64 (.int .i64 0) (zero_int _) w.heap.size l.length F rfl hm2 u rfl hul ?_; rw [hFu])
         go_ret
         exact ⟨ret_bool (by rw [unhide HT2, all_range_false hlt (unhide Hr)]), hbB⟩
     ·obtain rfl : k = l.length := by omega
      have hbx : Below w.heap.size w wr := hbwr.trans (hb.mono hbwr.size)
      go_wp2_with fail
      go_ret
      exact ⟨ret_bool (by rw [unhide HT2, unhide Hall]), hbx⟩
 ·have HT := hide (show treeB l = false by unfold treeB; rw [decide_eq_false h40, Bool.false_and, Bool.false_and])
  rw [decide_eq_false h40] at hw
  clear hwd hmm
  go_enter Tryz.func62, Tryz.ntmps62
  go_wp2_with (go_at_call 86; refine hw.mono ?_; rintro e w' ⟨rfl, hw'⟩; rw [hw']; clear hw' w')
  go_ret
  exact ⟨ret_bool (unhide HT).symm, Below.refl _ _⟩
theorem ownsRow_same {w w' : World} {base e size n : Nat} {v : Value} {xs : List Value} (h : w.ownsRow base e size v n xs) (hs : ∀ g, v.ownBlock = some g → w'.heap[g]? = w.heap[g]?) : w'.ownsRow base e size v n xs := by
 obtain ⟨h1, h2⟩ := h
 refine ⟨h1, ?_⟩
 rcases h2 with h2 | ⟨g, cap, cur, rfl, hb, hg, h3⟩
 ·exact .inl h2
 ·exact .inr ⟨g, cap, cur, rfl, hb, (hs g rfl).trans hg, h3⟩
structure Grp {α : Type} (e size : Nat) (enc : α → List Value) (w : World) (base mb n : Nat) (Own : Nat → Prop) (F : List UInt8 → Option Value) (G : List UInt8 → List α) : Prop where
 map : MapIs w mb n F
 some : ∀ d v, F d = some v → w.ownsRow base e size v (G d).length (rowCells enc (G d))
 none : ∀ d, F d = none → G d = []
 apart : ∀ d d' v v' g, F d = Option.some v → F d' = Option.some v' → v.ownBlock = Option.some g → v'.ownBlock = Option.some g → d = d'
 ownM : Own mb
 ownR : ∀ d v g, F d = Option.some v → v.ownBlock = Option.some g → Own g
section
variable {α : Type} {e size : Nat} {enc : α → List Value} {w : World} {base mb n : Nat} {Own : Nat → Prop} {F : List UInt8 → Option Value} {G : List UInt8 → List α}
theorem Grp.made (e size : Nat) (enc : α → List Value) (w : World) (base : Nat) (Own : Nat → Prop) (h : Own w.heap.size) : Grp e size enc (w.alloc (.map #[] 0)) base w.heap.size 0 Own (fun _ => Option.none) (fun _ => []) :=
 ⟨MapIs.made w, fun d v h => by simp at h, fun _ _ => rfl, fun d d' v v' g h => by simp at h, h, fun d v g h => by simp at h⟩
theorem Grp.at (h : Grp e size enc w base mb n Own F G) (d : List UInt8) : w.ownsRow base e size ((F d).getD (.slice Option.none 0 0)) (G d).length (rowCells enc (G d)) := by
 cases hf : F d with
 | none => rw [h.none d hf]; exact World.ownsRow_nil _ _ _ _
 | some v => exact h.some d v hf
theorem Grp.ownAt (h : Grp e size enc w base mb n Own F G) (d : List UInt8) (g : Nat) (hg : ((F d).getD (.slice Option.none 0 0)).ownBlock = Option.some g) : Own g := by
 cases hf : F d with
 | none => rw [hf] at hg; simp [Value.ownBlock] at hg
 | some v => rw [hf] at hg; exact h.ownR d v g hf hg
theorem own_lt {w : World} {base e size n g : Nat} {v : Value} {xs : List Value} (h : w.ownsRow base e size v n xs) (hg : v.ownBlock = Option.some g) : g < w.heap.size := (World.ownsRow.lt h g hg).2
theorem Grp.kept {w' : World} (h : Grp e size enc w base mb n Own F G) (hs : ∀ b, Own b → b < w.heap.size → w'.heap[b]? = w.heap[b]?) : Grp e size enc w' base mb n Own F G :=
 ⟨h.map.same (hs mb h.ownM h.map.lt), fun d v hv => ownsRow_same (h.some d v hv) (fun g hg => hs g (h.ownR d v g hv hg) (own_lt (h.some d v hv) hg)), h.none, h.apart, h.ownM, h.ownR⟩
theorem Grp.own {Own' : Nat → Prop} (h : Grp e size enc w base mb n Own F G) (hs : ∀ b, Own b → b < w.heap.size → Own' b) : Grp e size enc w base mb n Own' F G :=
 ⟨h.map, h.some, h.none, h.apart, hs mb h.ownM h.map.lt, fun d v g hv hg => hs g (h.ownR d v g hv hg) (own_lt (h.some d v hv) hg)⟩
theorem map_not_row {w : World} {base mb n e size k : Nat} {F : List UInt8 → Option Value} {v : Value} {xs : List Value} (h : MapIs w mb n F) (hr : w.ownsRow base e size v k xs) : Option.some mb ≠ v.ownBlock := by
 obtain ⟨D, ⟨es, clock, hb, _⟩, _⟩ := h
 rcases hr.2 with ⟨rfl, _⟩ | ⟨g, cap, cur, rfl, _, hg, _⟩
 ·simp [Value.ownBlock]
 ·simp only [Value.ownBlock]
  intro e
  obtain rfl := Option.some.inj e
  rw [hb] at hg; simp at hg
def updG (G : List UInt8 → List α) (d : List UInt8) (x : α) : List UInt8 → List α := fun y => if y = d then G d ++ [x] else G y
theorem Grp.put {w1 : World} (h : Grp e size enc w base mb n Own F G) (t E : TypeId) (ht : Tryz.prog.underlying t = Option.some (.map 9 E)) (hn : n < maxLen) (d : List UInt8) (hd : d.length ≤ maxLen) (x : α) (v' : Value)
  (hg : w.grownBy w1 ((F d).getD (.slice Option.none 0 0)).ownBlock) (ho : w1.ownsRow base e size v' ((G d).length + 1) (rowCells enc (G d ++ [x])))
  (hloc : v'.ownBlock = ((F d).getD (.slice Option.none 0 0)).ownBlock ∨ ∃ g, v'.ownBlock = Option.some g ∧ w.heap.size ≤ g) (hnew : ∀ b, w.heap.size ≤ b → Own b) :
  ∃ w2, (Instr.mapUpdate t (.map (Option.some mb)) (.string (bs d)) v').run Tryz.prog w1 = .ok () w2 ∧ Grp e size enc w2 base mb (n + 1) Own (updF F d v') (updG G d x) ∧ w1.grownBy w2 (Option.some mb) := by
 have hat := h.at d
 have hne := map_not_row h.map hat
 obtain ⟨w2, hrun, hm2, hg2⟩ := (h.map.kept hg hne).store t E ht hn d hd v'
 have hne2 := map_not_row (h.map.kept hg hne) ho
 refine ⟨w2, hrun, ⟨hm2, fun y u hu => ?_, fun y hy => ?_, fun y z u u' g hu hu' hug hug' => ?_, h.ownM, fun y u g hu hug => ?_⟩, hg2⟩
 ·unfold updF at hu
  unfold updG
  by_cases hy : y = d
  ·rw [if_pos hy] at hu ⊢
   obtain rfl := Option.some.inj hu
   rw [List.length_append]
   exact ownsRow_same ho (fun g hgg => hg2.block g (own_lt ho hgg) (fun e => hne2 (by rw [hgg, e])))
  ·rw [if_neg hy] at hu ⊢
   have hu0 := h.some y u hu
   refine ownsRow_same hu0 (fun g hgg => ?_)
   have hlt := own_lt hu0 hgg
   have h1 : Option.some g ≠ ((F d).getD (.slice Option.none 0 0)).ownBlock := by
    intro e
    cases hf : F d with
    | none => rw [hf] at e; simp [Value.ownBlock] at e
    | some v0 => rw [hf] at e; exact hy (h.apart y d u v0 g hu hf hgg e.symm)
   have e1 := hg.block g hlt h1
   have hgm : Option.some g ≠ Option.some mb := fun e => map_not_row h.map hu0 (by rw [hgg, e])
   exact (hg2.block g (Nat.lt_of_lt_of_le hlt hg.size) hgm).trans e1
 ·unfold updF at hy
  unfold updG
  by_cases hyd : y = d
  ·rw [if_pos hyd] at hy; simp at hy
  ·rw [if_neg hyd] at hy ⊢; exact h.none y hy
 ·unfold updF at hu hu'
  have key : ∀ y u g, y ≠ d → F y = Option.some u → u.ownBlock = Option.some g → v'.ownBlock ≠ Option.some g := by
   intro y u g hy hu hug e
   rcases hloc with hl | ⟨g', hg', hle⟩
   ·rw [hl] at e
    cases hf : F d with
    | none => rw [hf] at e; simp [Value.ownBlock] at e
    | some v0 => rw [hf] at e; exact hy (h.apart y d u v0 g hu hf hug e)
   ·rw [hg'] at e
    obtain rfl := Option.some.inj e
    have := own_lt (h.some y u hu) hug
    omega
  by_cases hy : y = d
  ·by_cases hz : z = d
   ·rw [hy, hz]
   ·rw [if_pos hy] at hu
    rw [if_neg hz] at hu'
    obtain rfl := Option.some.inj hu
    exact absurd hug (key z u' g hz hu' hug')
  ·rw [if_neg hy] at hu
   by_cases hz : z = d
   ·rw [if_pos hz] at hu'
    obtain rfl := Option.some.inj hu'
    exact absurd hug' (key y u g hy hu hug)
   ·rw [if_neg hz] at hu'
    exact h.apart y z u u' g hu hu' hug hug'
 ·unfold updF at hu
  by_cases hy : y = d
  ·rw [if_pos hy] at hu
   obtain rfl := Option.some.inj hu
   rcases hloc with hl | ⟨g', hg', hle⟩
   ·rw [hl] at hug; exact h.ownAt d g hug
   ·rw [hg'] at hug
    obtain rfl := Option.some.inj hug
    exact hnew _ hle
  ·rw [if_neg hy] at hu
   exact h.ownR y u g hu hug
end
theorem step_app {α : Type} {e size bytes : Nat} {enc : α → List Value} {ops : Array Oper} {o : Oper} {a : Act} {w : World} {K : Act → World → Prop} {Q : Exit → Act → World → Prop} {E : Prop}
  (hg : o.guard = none) (s x : Operand) (t : TypeId) (hop : o.op = Op.call { callee := Callee.builtin Builtin.append, args := #[s, x], argTypes := #[t, t] })
  (i : TypeInfo) (z : Value) (h1 : Tryz.prog.underlying t = some (.slice e)) (h2 : Tryz.prog.info? e = some i) (h3 : i.zero = some z) (h4 : i.size = size) (h5 : i.bytes = bytes) (h6 : z.cells.size = size) (h7 : 0 < size)
  (henc : ∀ y : α, (enc y).length = size) (hone : ∀ (y : α), ∀ u ∈ enc y, u.oneCell' = true)
  (base : Nat) (v : Value) (l : List α) (hs : a.eval s = v) (hown : w.ownsRow base e size v l.length (rowCells enc l)) (ad : Addr) (y : α) (hx : a.eval x = .slice (some ad) 1 1)
  (hnews : ∀ j u, (enc y)[j]? = some u → w.cell? (ad.add j) = some u) (hlen : l.length + 1 ≤ maxLen) (hby : (l.length + 1) * bytes ≤ 140737488355328) (hbase : base ≤ w.heap.size)
  (hK : ∀ v' w', w'.ownsRow base e size v' (l.length + 1) (rowCells enc (l ++ [y])) → w.grownBy w' v.ownBlock → (v'.ownBlock = v.ownBlock ∨ v'.ownBlock = some w.heap.size) → K (a.put o.dst v') w') :
  if Region.wanted o (yielded ops a.tmps) = true then Oper.wp Tryz.prog o a w K Q else E := by
 have hw : Region.wanted o (yielded ops a.tmps) = true := by simp [Region.wanted, hg]
 rw [if_pos hw]
 obtain ⟨v', w', hrun, r1, r2, _, r4⟩ := run_append_own_at (P := Tryz.prog) w base t o.type e i z size bytes h1 h2 h3 h4 h5 h6 h7 v l.length (rowCells enc l) hown ad 1 1 (enc y) (by rw [henc]; omega) hnews (hone y) hlen hby hbase
 unfold Oper.wp
 simp [execOp, hop, resolve, invoke, builtin, hs, hx, hrun, Result.andThen]
 refine hK v' w' ?_ r2 r4
 have : rowCells enc (l ++ [y]) = rowCells enc l ++ enc y := by simp [rowCells]
 rw [this]; exact r1
end Go.Proofs.YtjmacegibchplaaGreatDoor