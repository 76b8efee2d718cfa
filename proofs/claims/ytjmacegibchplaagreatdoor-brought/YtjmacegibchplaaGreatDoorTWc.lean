/-
  The program's tree.Is: which lists of entries are trees.
-/
import Derived.Test.YtjmacegibchplaaGreatDoorMapV
import Derived.Test.YtjmacegibchplaaGreatDoorFetR
import Derived.Test.YtjmacegibchplaaGreatDoorCardA
import Derived.Maps.OwnOps
namespace Go.Proofs.YtjmacegibchplaaGreatDoor
open Go.RowKit
set_option linter.unusedVariables false
theorem wp_look_ok {w : World} {ops : Array Oper} {rest : List Oper} {o : Oper} {a : Act} {Q : Exit → Act → World → Prop} (hg : o.guard = none) (m x : Operand) (t : TypeId) (hop : o.op = Op.lookup t m x true)
    (e : TypeId) (ht : Tryz.prog.underlying t = some (.map 9 e)) (z : Value) (hz : (zeroValue e).run Tryz.prog w = .ok z w) (b n : Nat) (f : List UInt8 → Option Value) (hm : a.eval m = .map (some b)) (h : MapIs w b n f) (k : List UInt8) (hx : a.eval x = .string (bs k)) (hk : k.length ≤ maxLen)
    (hK : wpList Tryz.prog ops Q rest (a.put o.dst (.tuple #[(f k).getD z, .bool (f k).isSome])) w) : wpList Tryz.prog ops Q (o :: rest) a w := by
  refine wpList_plain hg fun K' hK' => ?_
  have hrun := h.look_ok t e ht z hz k hk
  unfold Oper.wp
  simp [execOp, hop, hm, hx, hrun, Result.andThen]
  exact hK' _ _ hK
theorem wp_look {w : World} {ops : Array Oper} {rest : List Oper} {o : Oper} {a : Act} {Q : Exit → Act → World → Prop} (hg : o.guard = none) (m x : Operand) (t : TypeId) (hop : o.op = Op.lookup t m x false)
    (e : TypeId) (ht : Tryz.prog.underlying t = some (.map 9 e)) (z : Value) (hz : (zeroValue e).run Tryz.prog w = .ok z w) (b n : Nat) (f : List UInt8 → Option Value) (hm : a.eval m = .map (some b)) (h : MapIs w b n f) (k : List UInt8) (hx : a.eval x = .string (bs k)) (hk : k.length ≤ maxLen)
    (hK : wpList Tryz.prog ops Q rest (a.put o.dst ((f k).getD z)) w) : wpList Tryz.prog ops Q (o :: rest) a w := by
  refine wpList_plain hg fun K' hK' => ?_
  have hrun := h.look t e ht z hz k hk
  unfold Oper.wp
  simp [execOp, hop, hm, hx, hrun, Result.andThen]
  exact hK' _ _ hK
theorem wp_store {w : World} {ops : Array Oper} {rest : List Oper} {o : Oper} {a : Act} {Q : Exit → Act → World → Prop} (hg : o.guard = none) (m x v : Operand) (t : TypeId) (hop : o.op = Op.mapUpdate t m x v)
    (e : TypeId) (ht : Tryz.prog.underlying t = some (.map 9 e)) (b n : Nat) (f : List UInt8 → Option Value) (hm : a.eval m = .map (some b)) (h : MapIs w b n f) (hn : n < maxLen) (k : List UInt8) (hx : a.eval x = .string (bs k)) (hk : k.length ≤ maxLen) (val : Value) (hv : a.eval v = val)
    (hK : ∀ w', MapIs w' b (n + 1) (updF f k val) → w.grownBy w' (some b) → wpList Tryz.prog ops Q rest (a.put o.dst undef) w') : wpList Tryz.prog ops Q (o :: rest) a w := by
  refine wpList_plain hg fun K' hK' => ?_
  obtain ⟨w', hrun, r1, r2⟩ := h.store t e ht hn k hk val
  unfold Oper.wp
  simp [execOp, hop, hm, hx, hv, hrun, Result.andThen]
  exact hK' _ _ (hK w' r1 r2)
def kindOf (l : List En) (p : List UInt8) : Option Int := (l.find? (fun e => e.path.data.toList == p)).map (·.kind)
def kindsF (l : List En) : List UInt8 → Option Value := fun p => (kindOf l p).map (Value.int .i64)
theorem kindsF_snoc (l : List En) (x : En) (h : kindOf l x.path.data.toList = none) : updF (kindsF l) x.path.data.toList (.int .i64 x.kind) = kindsF (l ++ [x]) := by
  funext p
  unfold updF kindsF kindOf
  rw [List.find?_append]
  by_cases hp : p = x.path.data.toList
  · subst hp
    have hn : l.find? (fun e => e.path.data.toList == x.path.data.toList) = none := by
      unfold kindOf at h
      simpa using h
    rw [if_pos rfl, hn]
    simp
  · rw [if_neg hp]
    have : ([x].find? fun e => e.path.data.toList == p) = none := by simp; exact fun e => hp e.symm
    rw [this]; simp
def ok1 (l : List En) (i : Nat) : Bool := (kindOf (l.take i) (pathAt l i)).isNone && entOk (l.getD i en0)
def ok2 (l : List En) (i : Nat) : Bool := (upAt l i).isEmpty || (kindOf l (upAt l i) == some 0)
def treeB (l : List En) : Bool := decide (l.length ≤ 40) && (List.range l.length).all (ok1 l) && (List.range l.length).all (ok2 l)
theorem zero_int (w : World) : (zeroValue 3).run Tryz.prog w = .ok (.int .i64 0) w := by kernel_rfl
theorem all_range_false {p : Nat → Bool} {n k : Nat} (h : k < n) (hp : p k = false) : (List.range n).all p = false := by
  rw [List.all_eq_false]
  exact ⟨k, by simpa using h, by simp [hp]⟩
theorem all_range_succ {p : Nat → Bool} {k : Nat} (h : (List.range k).all p = true) (hp : p k = true) : (List.range (k + 1)).all p = true := by
  rw [List.range_succ, List.all_append, h]; simp [hp]
theorem under64 : Tryz.prog.underlying 144 = some (.map 9 3) := by kernel_rfl
set_option maxRecDepth 100000 in
set_option maxHeartbeats 2000000 in
theorem is_any (l : List En) (a : Option Addr) (c : Nat) (w : World) (hl : l.length ≤ maxLen) (hi : LiesE w a l) (hf : TFit l) (hg : GlobOk w) :
    Calls Tryz.prog 62 #[.slice a l.length c] w fun e w' => e = .returned (.bool (treeB l)) ∧ Below w.heap.size w w' := by
  have hmm := @run_makeMap Tryz.prog
  have hw := within_any (l.length : Int) 0 40 w (by decide)
  have hwd : P.within (l.length : Int) 0 40 = decide (l.length ≤ 40) := by
    unfold P.within; congr 1; apply propext; omega
  rw [hwd] at hw
  by_cases h40 : l.length ≤ 40
  · rw [decide_eq_true h40] at hw
    have HT := hide (show treeB l = ((List.range l.length).all (ok1 l) && (List.range l.length).all (ok2 l)) by unfold treeB; rw [decide_eq_true h40, Bool.true_and])
    clear hwd
    go_enter Tryz.func62, Tryz.ntmps62
    go_wp2_with (go_at_call 86; refine hw.mono ?_; rintro e w' ⟨rfl, hw'⟩; rw [hw']; clear hw' w')
    clear hmm hw
    go_loopw [21] (fun i wr => ∃ k : Nat, k ≤ l.length ∧ i = .int .i64 k ∧ MapIs wr w.heap.size k (kindsF (l.take k)) ∧ Below w.heap.size w wr ∧ (List.range k).all (ok1 l) = true) (fun i _ => l.length - (intOf i).toNat)
    case atStart => exact ⟨0, Nat.zero_le _, rfl, MapIs.made w, (Below.refl _ _).alloc (Nat.le_refl _) _, rfl⟩
    case round =>
      obtain ⟨k, hk, rfl, hmap, hb, hall⟩ := hrel
      have Hall := hide hall
      clear hall
      by_cases hlt : k < l.length
      · obtain ⟨b, o, rfl, i1⟩ : ∃ b o, a = some ⟨b, o, none⟩ ∧ EntsAt wr b o l := by
          rcases hi.below hb (Nat.le_refl _) with h | h
          · subst h; simp at hlt
          · exact h
        obtain ⟨c0, c1, c2⟩ := i1 k hlt
        have hfk := hf k hlt
        have Hx := hide (show l.getD k en0 = l[k] from en_getD l k hlt)
        obtain ⟨x, hx⟩ : ∃ x, l[k] = x := ⟨_, rfl⟩
        have Ht := hide (show l.take (k + 1) = l.take k ++ [x] by rw [← hx]; exact (List.take_succ_eq_append_getElem hlt))
        rw [hx] at c0 c1 c2 hfk Hx
        have he := fun w' hg' => isEntry_any x w' hg' hfk.1 hfk.2
        have hgl := hg.below hb (Nat.le_refl _)
        clear hx i1
        obtain ⟨pa, kd, dt⟩ := x
        obtain ⟨p, rfl⟩ : ∃ p, pa = bs p := ⟨pa.data.toList, (bs_of pa).symm⟩
        have hpl : p.length ≤ 1100000 := by have := hfk.1; simpa [bs_size] using this
        have hpm : p.length ≤ maxLen := by unfold maxLen; omega
        have Hpa := hide (show pathAt l k = p by unfold pathAt; rw [unhide Hx]; exact bs_data p)
        simp only at c0 c1 c2
        have hlt' : (k : Int) < (l.length : Int) := by omega
        unfold entV at he
        simp only at he
        generalize hA : entOk ⟨bs p, kd, dt⟩ = A at *
        have HA := hide hA
        clear hA hfk
        have hg1 : GlobOk (wr.alloc (.cells #[.string (bs p), .int .i64 kd, .string dt] 32)) := hgl.below ((Below.refl _ _).alloc (Nat.le_refl _) _) (Nat.le_refl _)
        generalize hF : kindsF (l.take k) = F at *
        have HF := hide hF
        cases hkf : F p with
        | some v =>
          have Hko := hide (show ok1 l k = false by
            unfold ok1; rw [unhide Hpa]
            rw [← hF] at hkf
            unfold kindsF at hkf
            cases hko : kindOf (l.take k) p with
            | none => rw [hko] at hkf; simp at hkf
            | some _ => rfl)
          clear hF
          go_wp2_with (at_lookup; refine wp_look_ok rfl _ _ 144 rfl 3 under64 (.int .i64 0) (zero_int _) w.heap.size k F rfl (hmap.alloc _) p rfl hpm ?_; rw [hkf])
          go_ret
          exact ⟨ret_bool (by rw [unhide HT, all_range_false hlt (unhide Hko), Bool.false_and]), hb.alloc hb.size _⟩
        | none =>
          have Hno := hide (show kindOf (l.take k) p = none by
            rw [← hF] at hkf
            unfold kindsF at hkf
            simpa using hkf)
          clear hF
          go_wp2_with (at_lookup; refine wp_look_ok rfl _ _ 144 rfl 3 under64 (.int .i64 0) (zero_int _) w.heap.size k F rfl (hmap.alloc _) p rfl hpm ?_; rw [hkf])
          refine (he _ hg1).mono ?_
          rintro e w2 ⟨rfl, hb2⟩
          have hbw : Below w.heap.size w w2 := (hb.alloc hb.size _).trans (hb2.mono (hb.alloc hb.size _).size)
          have hmw : w.heap.size < (wr.alloc (.cells #[.string (bs p), .int .i64 kd, .string dt] 32)).heap.size := (hmap.alloc _).lt
          have hm2 : MapIs w2 w.heap.size k F := (hmap.alloc _).same (hb2.block _ hmw)
          have hcc := (bcell hb2).1 wr.heap.size
          have d0 := (hcc 0 (by simp)).trans (by simp : _ = some (.string (bs p)))
          have d1 := (hcc 1 (by simp)).trans (by simp : _ = some (.int .i64 kd))
          have Hok := hide (show ok1 l k = A by unfold ok1; rw [unhide Hpa, unhide Hno, unhide Hx, unhide HA]; rfl)
          clear hb2 hcc hmw he hg1
          cases A with
          | false =>
            go_wp2_with fail
            go_ret
            exact ⟨ret_bool (by rw [unhide HT, all_range_false hlt (unhide Hok), Bool.false_and]), hbw⟩
          | true =>
            go_wp2_with (at_mapUpdate; refine wp_store rfl _ _ _ 144 rfl 3 under64 w.heap.size k F rfl hm2 (by unfold maxLen; omega) p rfl hpm _ rfl ?_; intro w3 hm3 hg3)
            have hb3 : Below w.heap.size w w3 := hbw.grown hg3 hbw.size (fun j hj => by cases hj; exact Nat.le_refl _)
            go_roundw
            case rel =>
              refine ⟨k + 1, by omega, by go_num, ?_, hb3, all_range_succ (unhide Hall) (unhide Hok)⟩
              rw [unhide Ht, ← kindsF_snoc _ _ (by simp only [bs_data]; exact unhide Hno), unhide HF]
              simp only [bs_data]
              exact hm3
            case measure => simp [intOf]; omega
      · obtain rfl : k = l.length := by omega
        rw [List.take_length] at hmap
        have HT2 := hide (show treeB l = (List.range l.length).all (ok2 l) by rw [unhide HT, unhide Hall, Bool.true_and])
        clear HT Hall
        obtain ⟨wm, rfl⟩ : ∃ wm, wm = wr := ⟨_, rfl⟩
        have hi1 := hi.below hb (Nat.le_refl _)
        have hbwr := hb
        generalize hF : kindsF l = F at *
        have HF := hide hF
        clear hF
        go_wp2_with fail
        go_loopw [46] (fun i wr => ∃ k : Nat, k ≤ l.length ∧ i = .int .i64 k ∧ Below wm.heap.size wm wr ∧ (List.range k).all (ok2 l) = true) (fun i _ => l.length - (intOf i).toNat)
        case atStart => exact ⟨0, Nat.zero_le _, rfl, Below.refl _ _, rfl⟩
        case round =>
          obtain ⟨k, hk, rfl, hb, hall⟩ := hrel
          have Hall := hide hall
          clear hall
          by_cases hlt : k < l.length
          · obtain ⟨b, o, rfl, i1⟩ : ∃ b o, a = some ⟨b, o, none⟩ ∧ EntsAt wr b o l := by
              rcases hi1.below hb (Nat.le_refl _) with h | h
              · subst h; simp at hlt
              · exact h
            obtain ⟨c0, c1, c2⟩ := i1 k hlt
            have hfk := hf k hlt
            have Hx := hide (show l.getD k en0 = l[k] from en_getD l k hlt)
            obtain ⟨x, hx⟩ : ∃ x, l[k] = x := ⟨_, rfl⟩
            rw [hx] at c0 c1 c2 hfk Hx
            clear hx i1
            obtain ⟨pa, kd, dt⟩ := x
            obtain ⟨p, rfl⟩ : ∃ p, pa = bs p := ⟨pa.data.toList, (bs_of pa).symm⟩
            have hpl : p.length ≤ 1100000 := by have := hfk.1; simpa [bs_size] using this
            have Hpa := hide (show pathAt l k = p by unfold pathAt; rw [unhide Hx]; exact bs_data p)
            have hsp := fun w' => tsplit p w' hpl
            have hul : (upPath p).length ≤ maxLen := by
              unfold upPath maxLen; rw [List.length_take]; omega
            have Hu := hide (show upAt l k = upPath p by unfold upAt; rw [unhide Hpa])
            generalize upPath p = u at *
            generalize nameOf p = nn at *
            simp only at c0 c1 c2
            have hlt' : (k : Int) < (l.length : Int) := by omega
            have hmx : MapIs wr w.heap.size l.length F := hmap.same (hb.block _ hmap.lt)
            have hbx : Below w.heap.size w wr := hbwr.trans (hb.mono hbwr.size)
            have s1 : (bs u).toList.isEmpty = u.isEmpty := by rw [ByteArray.toList_eq, bs_data]
            have Ho := hide (show ok2 l k = (u.isEmpty || (kindOf l u == some 0)) by unfold ok2; rw [unhide Hu])
            clear hfk
            go_wp2_with fail
            refine (hsp _).mono ?_
            rintro e w2 ⟨rfl, n2, hw2⟩
            have hbA : Below wm.heap.size wm w2 := by rw [hw2]; exact below_drewN (hb.alloc hb.size _) _
            have hbB : Below w.heap.size w w2 := hbwr.trans (hbA.mono hbwr.size)
            have hm2 : MapIs w2 w.heap.size l.length F := hmap.same (hbA.block _ hmap.lt)
            clear hw2 hsp c0 c1 c2 hmx hbx hmap hb
            generalize hkf : kindOf l u = kf at *
            have hFu : F u = kf.map (Value.int .i64) := by rw [← unhide HF]; unfold kindsF; rw [hkf]
            clear hkf
            by_cases hu0 : u = []
            · subst hu0
              have Hr := hide (show ok2 l k = true by rw [unhide Ho]; rfl)
              go_wp2_with (at_lookup; refine wp_look_ok rfl _ _ 144 rfl 3 under64 (.int .i64 0) (zero_int _) w.heap.size l.length F rfl hm2 [] rfl hul ?_)
              go_roundw
              case rel => exact ⟨k + 1, by omega, by go_num, hbA, all_range_succ (unhide Hall) (unhide Hr)⟩
              case measure => simp [intOf]; omega
            · have hue : u.isEmpty = false := by cases u <;> simp_all
              rw [hue] at s1
              cases kf with
              | none =>
                have Hr := hide (show ok2 l k = false by rw [unhide Ho, hue]; rfl)
                clear hu0 hue
                go_wp2_with (at_lookup; refine wp_look_ok rfl _ _ 144 rfl 3 under64 (.int .i64 0) (zero_int _) w.heap.size l.length F rfl hm2 u rfl hul ?_; rw [hFu])
                go_ret
                exact ⟨ret_bool (by rw [unhide HT2, all_range_false hlt (unhide Hr)]), hbB⟩
              | some kk =>
                by_cases hk0 : kk = 0
                · subst hk0
                  have Hr := hide (show ok2 l k = true by rw [unhide Ho, hue]; rfl)
                  clear hu0 hue
                  go_wp2_with (at_lookup; refine wp_look_ok rfl _ _ 144 rfl 3 under64 (.int .i64 0) (zero_int _) w.heap.size l.length F rfl hm2 u rfl hul ?_; rw [hFu])
                  go_roundw
                  case rel => exact ⟨k + 1, by omega, by go_num, hbA, all_range_succ (unhide Hall) (unhide Hr)⟩
                  case measure => simp [intOf]; omega
                · have b0 : (kk == 0) = false := by simpa using hk0
                  have Hr := hide (show ok2 l k = false by rw [unhide Ho, hue]; simpa using hk0)
                  clear hu0 hue hk0
                  go_wp2_with (at_lookup; refine wp_look_ok rfl _ _ 144 rfl 3 under64 (.int .i64 0) (zero_int _) w.heap.size l.length F rfl hm2 u rfl hul ?_; rw [hFu])
                  go_ret
                  exact ⟨ret_bool (by rw [unhide HT2, all_range_false hlt (unhide Hr)]), hbB⟩
          · obtain rfl : k = l.length := by omega
            have hbx : Below w.heap.size w wr := hbwr.trans (hb.mono hbwr.size)
            go_wp2_with fail
            go_ret
            exact ⟨ret_bool (by rw [unhide HT2, unhide Hall]), hbx⟩
  · have HT := hide (show treeB l = false by unfold treeB; rw [decide_eq_false h40, Bool.false_and, Bool.false_and])
    rw [decide_eq_false h40] at hw
    clear hwd hmm
    go_enter Tryz.func62, Tryz.ntmps62
    go_wp2_with (go_at_call 86; refine hw.mono ?_; rintro e w' ⟨rfl, hw'⟩; rw [hw']; clear hw' w')
    go_ret
    exact ⟨ret_bool (unhide HT).symm, Below.refl _ _⟩
end Go.Proofs.YtjmacegibchplaaGreatDoor
