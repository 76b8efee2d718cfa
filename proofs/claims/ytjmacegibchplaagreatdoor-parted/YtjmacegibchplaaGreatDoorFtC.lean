/-
  The program's Fetch: an item is visited (the closure of Tree).
-/
import Derived.Test.YtjmacegibchplaaGreatDoorFtB
import Derived.Test.YtjmacegibchplaaGreatDoorUpA
namespace Go.Proofs.YtjmacegibchplaaGreatDoor
open Go.RowKit Go.Maps Go.WideMaps
set_option linter.unusedVariables false
structure FSt (w : World) (base bl be bd bf : Nat) (v : Value) (out : List En) (ents dep : Int) (pb um n : Nat) (room : Int) (st : List (List UInt8 × List UInt8)) : Prop where
  l : w.heap[bl]? = some (.cells #[v] 22 (0, 0))
  own : OwnsE w base v out
  e : w.heap[be]? = some (.cells #[.int .i64 (min ents 40)] 3 (0, 0))
  d : w.heap[bd]? = some (.cells #[.int .i64 (min dep 5)] 3 (0, 0))
  f : w.heap[bf]? = some (.cells #[.pointer (some ⟨pb, 0, none⟩)] 95 (0, 0))
  s : PStore w pb um n room st
  g : GlobOk w
  len : out.length ≤ 40
  bas : base ≤ w.heap.size
  gb : 0 < base
  bb : base ≤ bl
section
variable {w w' : World} {base bl be bd bf : Nat} {v : Value} {out : List En} {ents dep : Int} {pb um n : Nat} {room : Int} {st : List (List UInt8 × List UInt8)}
theorem FSt.below (h : FSt w base bl be bd bf v out ents dep pb um n room st) (hb : Below w.heap.size w w') : FSt w' base bl be bd bf v out ents dep pb um n room st :=
  ⟨(hb.block _ (Array.getElem?_eq_some_iff.1 h.l).1).trans h.l, ownsRow_same h.own (fun g hg => hb.block g (own_lt h.own hg)), (hb.block _ (Array.getElem?_eq_some_iff.1 h.e).1).trans h.e, (hb.block _ (Array.getElem?_eq_some_iff.1 h.d).1).trans h.d, (hb.block _ (Array.getElem?_eq_some_iff.1 h.f).1).trans h.f, h.s.below hb (Nat.le_refl _), h.g.below hb (Nat.le_refl _), h.len, Nat.le_trans h.bas hb.size, h.gb, h.bb⟩
theorem FSt.push {w4 : World} {v4 : Value} {y : En} (o : Obj) (h : FSt w base bl be bd bf v out ents dep pb um n room st) (hlt : out.length + 1 ≤ 40) (hg4 : (w.alloc o).grownBy w4 v.ownBlock) (ho : OwnsE w4 base v4 (out ++ [y])) :
    FSt (w4.setCell ⟨bl, 0, none⟩ v4) base bl be bd bf v4 (out ++ [y]) ents dep pb um n room st ∧ Fr (fun b => b = bl ∨ v.ownBlock = some b) w (w4.setCell ⟨bl, 0, none⟩ v4) := by
  have hfr : Fr (fun b => b = bl ∨ v.ownBlock = some b) w (w4.setCell ⟨bl, 0, none⟩ v4) := by
    refine ⟨?_, ?_, ?_, ?_, fun b hb hn => ?_⟩
    · exact hg4.os
    · exact hg4.tape
    · exact hg4.output
    · have := hg4.size; simp at this ⊢; omega
    · refine (Below.heap_setCell _ _ _ _ (fun e => hn (.inl e))).trans ((hg4.block b (by simp; omega) (fun e => hn (.inr e.symm))).trans (Below.heap_alloc w o b hb))
  have keep : ∀ (b : Nat) (t : TypeId) (cur : Array Value), w.heap[b]? = some (Obj.cells cur t (0, 0)) → t ≠ 22 → t ≠ 32 → (w4.setCell ⟨bl, 0, none⟩ v4).heap[b]? = some (Obj.cells cur t (0, 0)) := by
    intro b t cur hb h1 h2
    refine (hfr.block b (Array.getElem?_eq_some_iff.1 hb).1 ?_).trans hb
    rintro (e | e)
    · rw [e, h.l] at hb; simp at hb; exact h1 hb.2.symm
    · exact own_cells h.own e hb h2 rfl
  have hbl4 : w4.heap[bl]? = some (.cells #[v] 22 (0, 0)) := (hg4.block bl (by have := (Array.getElem?_eq_some_iff.1 h.l).1; simp; omega) (fun e => own_cells h.own e.symm h.l (by decide) rfl)).trans ((Below.heap_alloc w o bl (Array.getElem?_eq_some_iff.1 h.l).1).trans h.l)
  have hums : (w4.setCell ⟨bl, 0, none⟩ v4).heap[um]? = w.heap[um]? := by
    refine hfr.block um (h.s.lt um (.inr rfl)) ?_
    rintro (e | e)
    · exact map_ne_cells h.s.m h.l e.symm
    · exact map_not_row h.s.m h.own e.symm
  refine ⟨⟨heap_set0 _ hbl4, ?_, keep _ _ _ h.e (by decide) (by decide), keep _ _ _ h.d (by decide) (by decide), keep _ _ _ h.f (by decide) (by decide), ⟨keep _ _ _ h.s.s (by decide) (by decide), h.s.m.same hums, h.s.k⟩, ?_, by simpa using hlt, Nat.le_trans h.bas hfr.size, h.gb, h.bb⟩, hfr⟩
  · refine ownsRow_same ho (fun g hg => Below.heap_setCell _ _ _ _ ?_)
    exact own_cells ho hg hbl4 (by decide)
  · obtain ⟨m, hm⟩ := h.g
    refine ⟨m, cell_fr hfr hm ?_⟩
    rintro (e | e)
    · have := h.gb; have := h.bb; omega
    · have := (World.ownsRow.lt h.own _ e).1; have := h.gb; omega
end
def budP (out : List En) (ents dep : Int) (p : List UInt8) : Bool := budQ out.length ents dep ((sp p).length : Int)
def VisEnd (w : World) (base bl be bd bf : Nat) (v : Value) (out : List En) (ents dep : Int) (pb um n : Nat) (room : Int) (st : List (List UInt8 × List UInt8)) (p : List UInt8) (x : P.It) (e : Ending) (w' : World) : Prop :=
  (budP out ents dep p = true ∧ e = .returned (.tuple #[.slice none 0 0, .int .i64 9]) ∧ Below w.heap.size w w') ∨
  (budP out ents dep p = false ∧ contE (atP st) ((sp p).length : Int) x ≠ 0 ∧ e = .returned (.tuple #[.slice none 0 0, .int .i64 (contE (atP st) ((sp p).length : Int) x)]) ∧ Below w.heap.size w w') ∨
  (budP out ents dep p = false ∧ contE (atP st) ((sp p).length : Int) x = 0 ∧ ∃ vi v', e = .returned (.tuple #[vi, .int .i64 0]) ∧ OwnsIt w' w.heap.size vi (contI (atP st) x) ∧ FitAll (contI (atP st) x) ∧
    FSt w' base bl be bd bf v' (out ++ [⟨bs p, x.kind, contD (atP st) x⟩]) ents dep pb um n room st ∧ Fr (fun b => b = bl ∨ v.ownBlock = some b) w w' ∧ (v'.ownBlock = v.ownBlock ∨ ∃ g, v'.ownBlock = some g ∧ w.heap.size ≤ g))
theorem app_entry_at {w : World} {ops : Array Oper} {rest : List Oper} {o : Oper} {a : Act} {Q : Exit → Act → World → Prop} (hgd : o.guard = none) (s x : Operand)
    (ho : o.op = .call { callee := .builtin .append, args := #[s, x], argTypes := #[22, 22] }) (base : Nat) (v : Value) (l : List En) (hs : a.eval s = v) (hown : OwnsE w base v l)
    (ad : Addr) (y : En) (hx : a.eval x = .slice (some ad) 1 1) (hnews : ∀ j u, (enCells y)[j]? = some u → w.cell? (ad.add j) = some u)
    (hlen : l.length ≤ 1000000) (hbase : base ≤ w.heap.size)
    (h : ∀ v' w', OwnsE w' base v' (l ++ [y]) → w.grownBy w' v.ownBlock → (v'.ownBlock = v.ownBlock ∨ v'.ownBlock = some w.heap.size) → wpList Tryz.prog ops Q rest (a.put o.dst v') w') : wpList Tryz.prog ops Q (o :: rest) a w := by
  obtain ⟨i0, hi, hz0, hz1, hz2⟩ := info_parts info_ent
  refine wpList_plain hgd fun K' hK' => ?_
  obtain ⟨v', w', hrun, r1, r2, _, r4⟩ := run_append_own_at (P := Tryz.prog) w base 22 o.type 32 i0 _ 3 40 Tryz.underlying22 hi hz0 hz1 hz2 rfl (by decide) v l.length (rowCells enCells l) hown ad 1 1 (enCells y) rfl hnews (fun u hu => enCells_one [y] u (by simpa [rowCells] using hu)) (by unfold maxLen; omega) (by omega) hbase
  unfold Oper.wp
  simp [execOp, ho, resolve, invoke, builtin, hs, hx, hrun, Result.andThen]
  refine hK' _ _ (h v' w' ?_ r2 r4)
  unfold OwnsE
  rw [show rowCells enCells (l ++ [y]) = rowCells enCells l ++ enCells y by simp [rowCells], List.length_append]
  exact r1
set_option maxRecDepth 100000 in
set_option maxHeartbeats 4000000 in
theorem visit_any (w : World) (base bl be bd bf : Nat) (v : Value) (out : List En) (ents dep : Int) (pb um n : Nat) (room : Int) (st : List (List UInt8 × List UInt8)) (p : List UInt8) (x : P.It) (h : FSt w base bl be bd bf v out ents dep pb um n room st) (hp : p.length ≤ 100000) (hd1 : (sp p).length ≤ 100) (hl : x.tgt.size ≤ 1100000) (hdg : x.dig.size ≤ maxLen) (hsz : ∀ d b, atP st d = some b → b.length ≤ 10000000) :
    Calls Tryz.prog 91 #[.string (bs p), itV x, ptr bl, ptr be, ptr bd, ptr bf] w fun e w' => VisEnd w base bl be bd bf v out ents dep pb um n room st p x e w' := by
  obtain ⟨a0, c0, rfl⟩ := row_shape h.own
  obtain ⟨xn, xk, xd, xs, xt⟩ := x
  simp only at hl hdg
  have hbA : Below w.heap.size w (w.alloc (.cells #[.string xn, .int .i64 xk, .string xd, .int .i64 xs, .string xt] 47)) := (Below.refl _ _).alloc (Nat.le_refl _) _
  have hbk := heap_alloc_new w (.cells #[.string xn, .int .i64 xk, .string xd, .int .i64 xs, .string xt] 47)
  have hA := h.below hbA
  have hdp := fun w' => depth_any p w' (by omega)
  have hlen := h.len
  have hct := fun W (hW : FSt W base bl be bd bf (.slice a0 out.length c0) out ents dep pb um n room st) => content_any st pb um n room p ⟨xn, xk, xd, xs, xt⟩ W hW.s hW.g (by omega) hd1 hl hdg hsz
  have k0 := cell_of_block (j := 0) hA.l
  have k1 := cell_of_block (j := 0) hA.e
  have k2 := cell_of_block (j := 0) hA.d
  have k3 := cell_of_block (j := 0) hA.f
  simp only [List.getElem?_toArray, List.getElem?_cons_zero] at k0 k1 k2 k3
  have hmin1 : min ents 40 ≤ 40 := by omega
  have hbs := h.bas
  unfold ContEnd at hct
  unfold itV at hct ⊢
  unfold VisEnd budP budQ
  simp only at hct ⊢
  generalize hce : contE (atP st) ((sp p).length : Int) ⟨xn, xk, xd, xs, xt⟩ = ce at *
  generalize hcd : contD (atP st) ⟨xn, xk, xd, xs, xt⟩ = cd at *
  generalize hci : contI (atP st) ⟨xn, xk, xd, xs, xt⟩ = ci at *
  have Hct := hide hct
  have HA := hide hA
  clear hct hA h hsz hce hcd hci
  generalize hq : (sp p).length = dq at *
  clear hq
  unfold ptr
  by_cases c1 : min ents 40 < (out.length : Int) + 1
  · rw [decide_eq_true c1, Bool.true_or]
    generalize min ents 40 = me at *
    generalize min dep 5 = md at *
    go_enter Tryz.func91, Tryz.ntmps91
    go_wp2_with fail
    go_quiet (fail)
    go_wp2_with fail
    go_ret2
    exact .inl ⟨by first | trivial | rfl, rfl, below_drewN hbA _⟩
  · have hwr : IntKind.i64.wrap ((out.length : Int) + 1) = (out.length : Int) + 1 := by rw [IntKind.wrap_i64]; omega
    have g1 : decide (min ents 40 < (out.length : Int) + 1) = false := decide_eq_false c1
    have g2 : decide (min ents 40 < IntKind.i64.wrap ((out.length : Int) + 1)) = false := by rw [hwr]; exact g1
    clear hwr
    rw [decide_eq_false c1, Bool.false_or]
    by_cases c2 : min dep 5 < (dq : Int)
    · rw [decide_eq_true c2]
      generalize min ents 40 = me at *
      generalize min dep 5 = md at *
      go_enter Tryz.func91, Tryz.ntmps91
      go_wp2_with fail
      go_quiet ((go_at_call 92; exact Calls.quiet_of_same (hdp _)))
      go_wp2_with fail
      go_ret2
      exact .inl ⟨by first | trivial | rfl, rfl, below_drewN hbA _⟩
    · rw [decide_eq_false c2]
      have hlt : out.length + 1 ≤ 40 := by omega
      generalize min ents 40 = me at *
      generalize min dep 5 = md at *
      go_enter Tryz.func91, Tryz.ntmps91
      go_wp2_with fail
      go_quiet ((go_at_call 92; exact Calls.quiet_of_same (hdp _)))
      obtain ⟨W8, hW8⟩ : ∃ W8, (w.alloc (.cells #[.string xn, .int .i64 xk, .string xd, .int .i64 xs, .string xt] 47)).drewN nq = W8 := ⟨_, rfl⟩
      have hF8 : FSt W8 base bl be bd bf (.slice a0 out.length c0) out ents dep pb um n room st := by rw [← hW8]; exact (unhide HA).below (below_drewN (Below.refl _ _) _)
      have hb8 : Below w.heap.size w W8 := by rw [← hW8]; exact below_drewN hbA _
      have hk8 : W8.heap[w.heap.size]? = some (.cells #[.string xn, .int .i64 xk, .string xd, .int .i64 xs, .string xt] 47 (0, 0)) := by rw [← hW8]; exact hbk
      rw [hW8]
      clear hW8 HA hbA hbk k0 k1 k2 k3 hdp
      have j0 := cell_of_block (j := 0) hk8
      have j1 := cell_of_block (j := 1) hk8
      have j2 := cell_of_block (j := 2) hk8
      have j3 := cell_of_block (j := 3) hk8
      have j4 := cell_of_block (j := 4) hk8
      have k3 := cell_of_block (j := 0) hF8.f
      simp only [List.getElem?_toArray, List.getElem?_cons_zero, List.getElem?_cons_succ] at j0 j1 j2 j3 j4 k3
      go_wp2_with fail
      refine (unhide Hct W8 hF8).mono ?_
      rintro e w2 ⟨hb2, ⟨hce, rfl⟩ | ⟨hce, vi, rfl, hoi, hfi⟩⟩
      · have hbb := hb8.trans (hb2.mono hb8.size)
        have bce : (ce == 0) = false := by simpa using hce
        clear hF8 hb8 hk8 j0 j1 j2 j3 j4 k3 hb2 Hct
        go_wp2_with fail
        go_ret2
        exact .inr (.inl ⟨by first | trivial | rfl, hce, rfl, hbb⟩)
      · have hF2 := hF8.below hb2
        have hk2 := (hb2.block _ (Array.getElem?_eq_some_iff.1 hk8).1).trans hk8
        have hbb := hb8.trans (hb2.mono hb8.size)
        have i1 := cell_of_block (j := 1) hk2
        have l0 := cell_of_block (j := 0) hF2.l
        simp only [List.getElem?_toArray, List.getElem?_cons_zero, List.getElem?_cons_succ] at i1 l0
        have hz2 := hF2.bas
        have H2 := hide (And.intro hF2 (And.intro hoi (And.intro hfi hb8)))
        have hown2 := hF2.own
        clear hF8 hk8 j0 j1 j2 j3 j4 k3 hb2 Hct hF2 hoi hfi hb8
        subst hce
        go_wp2_with (at_builtin; refine app_entry_at rfl (.tmp 35) (.tmp 41) rfl base _ out rfl (World.ownsRow.alloc hown2 _) ⟨w2.heap.size, 0, none⟩ ⟨bs p, xk, cd⟩ rfl ?qa ?qb ?qc ?_)
        case qa =>
          intro j u hu
          have hbk := heap_alloc_new w2 (.cells #[.string (bs p), .int .i64 xk, .string cd] 32)
          rw [add_off0]
          match j, hu with
          | 0, hu => simp [enCells] at hu; subst hu; exact cell_of_block hbk
          | 1, hu => simp [enCells] at hu; subst hu; exact cell_of_block hbk
          | 2, hu => simp [enCells] at hu; subst hu; exact cell_of_block hbk
          | j + 3, hu => simp [enCells] at hu
        case qb => omega
        case qc => simp; omega
        intro v4 w4 ho4 g4 hloc
        obtain ⟨a4, c4, hv4⟩ := row_shape ho4
        rw [List.length_append, List.length_singleton] at hv4
        subst hv4
        obtain ⟨hF2, hoi, hfi, hb8⟩ := unhide H2
        have hbl4 : w4.heap[bl]? = some (.cells #[.slice a0 out.length c0] 22 (0, 0)) := (g4.block bl (by have := (Array.getElem?_eq_some_iff.1 hF2.l).1; simp; omega) (fun e => own_cells hF2.own e.symm hF2.l (by decide) rfl)).trans ((Below.heap_alloc w2 _ bl (Array.getElem?_eq_some_iff.1 hF2.l).1).trans hF2.l)
        have m0 := cell_of_block (j := 0) hbl4
        have f0 := free_block (j := 0) hbl4
        simp only [List.getElem?_toArray, List.getElem?_cons_zero] at m0
        obtain ⟨hP, hPf⟩ := hF2.push _ hlt g4 ho4
        have hoi4 : OwnsIt (w4.setCell ⟨bl, 0, none⟩ (.slice a4 (out.length + 1) c4)) w.heap.size vi ci := by
          have h1 : OwnsIt (w4.setCell ⟨bl, 0, none⟩ (.slice a4 (out.length + 1) c4)) W8.heap.size vi ci := own_fr hoi hPf (by
            rintro g hg (e | e)
            · exact own_cells hoi hg hF2.l (by decide) e
            · exact own_types hoi hF2.own (by decide) hg e)
          exact ⟨h1.1, h1.2.imp id (fun ⟨g, cap, cur, q1, q2, q3⟩ => ⟨g, cap, cur, q1, Nat.le_trans hb8.size q2, q3⟩)⟩
        have hloc4 : (Value.slice a4 (out.length + 1) c4).ownBlock = (Value.slice a0 out.length c0).ownBlock ∨ ∃ g, (Value.slice a4 (out.length + 1) c4).ownBlock = some g ∧ w.heap.size ≤ g := hloc.imp id (fun e => ⟨_, e, by have := hbb.size; simp; omega⟩)
        have hfr4 : Fr (fun b => b = bl ∨ (Value.slice a0 out.length c0).ownBlock = some b) w (w4.setCell ⟨bl, 0, none⟩ (.slice a4 (out.length + 1) c4)) := (Fr.below hbb).trans hPf
        have HP := hide (And.intro hP (And.intro hoi4 (And.intro hfr4 hloc4)))
        clear hP hPf hoi4 hfr4 hloc4 hF2 hoi hb8 H2 g4 ho4 hloc hbl4 hown2 l0 i1 hk2
        go_wp2_with fail
        go_ret2
        obtain ⟨hP, hoi4, hfr4, hloc4⟩ := unhide HP
        exact ⟨vi, rfl, hoi4, _, hP, hfr4, hloc4⟩
end Go.Proofs.YtjmacegibchplaaGreatDoor
