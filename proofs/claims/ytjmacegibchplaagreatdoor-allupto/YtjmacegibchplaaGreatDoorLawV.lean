import Derived.Test.YtjmacegibchplaaGreatDoorLawU
import Derived.Test.YtjmacegibchplaaGreatDoorLawQ
namespace Go.Proofs.YtjmacegibchplaaGreatDoor
open Go.RowKit Go.Maps Go.WideMaps
set_option linter.unusedVariables false
theorem app_items {w : World} {ops : Array Oper} {rest : List Oper} {o : Oper} {a : Act} {Q : Exit → Act → World → Prop} (hgd : o.guard = none) (s x : Operand)
  (ho : o.op = .call { callee := .builtin .append, args := #[s, x], argTypes := #[43, 43] }) (base : Nat) (v : Value) (l : List P.It) (hs : a.eval s = v) (hown : OwnsIt w base v l)
  (ad : Option Addr) (y : List P.It) (c : Nat) (hx : a.eval x = .slice ad y.length c) (hn : ad = none → y = [] ∧ c = 0) (hy : Lies w ad y)
  (hlen : l.length + y.length ≤ 4000000) (hbase : base ≤ w.heap.size)
  (h : ∀ v' w', OwnsIt w' base v' (l ++ y) → w.grownBy w' v.ownBlock → wpList Tryz.prog ops Q rest (a.put o.dst v') w') : wpList Tryz.prog ops Q (o :: rest) a w := by
 obtain ⟨i0, hi, hz0, hz1, hz2⟩ := info_parts info_item
 cases ad with
 | none =>
  obtain ⟨rfl, rfl⟩ := hn rfl
  refine wpList_append_own_none hgd s x 43 ho base 47 i0 5 Tryz.underlying43 hi v l.length (rowCells itCells l) hs hown hx ?_
  exact h v w (by rw [List.append_nil]; exact hown) ⟨rfl, rfl, rfl, Nat.le_refl _, fun _ _ _ => rfl⟩
 | some ad =>
  refine wpList_append_own w hgd s x 43 ho base 47 i0 _ 5 64 Tryz.underlying43 hi hz0 hz1 hz2 rfl (by decide) v l.length (rowCells itCells l) hs hown ad y.length c (rowCells itCells y) hx (rowCells_length (n := 5) itCells_len y) hy.src (itCells_one y) (by unfold maxLen; omega) (by omega) hbase ?_
  intro v' w' h2 h3 _
  refine h v' w' ?_ h3
  unfold OwnsIt
  rw [show rowCells itCells (l ++ y) = rowCells itCells l ++ rowCells itCells y by simp [rowCells], List.length_append]
  exact h2
structure TMI (w : World) (l l3 : List Value) (Mk : Nat → Prop) : Prop where
 len : l3.length = 3 * l.length
 full : ∀ k (h : k < l.length), ∃ n, n ≤ 1200000 ∧ FullI w l[k] n (itMk k) ∧ FullI w (l3.getD (3 * k) (.slice none 0 0)) (n + 1) (itMk k) ∧ FullI w (l3.getD (3 * k + 1) (.slice none 0 0)) (n + 2) (itMk k) ∧ FullI w (l3.getD (3 * k + 2) (.slice none 0 0)) (n + 3) (itMk k)
 blk : ∀ u, u ∈ l ∨ u ∈ l3 → ∀ x, u.ownBlock = some x → Mk x
theorem TMI.fr {S : Nat → Prop} {w w' : World} {l l3 : List Value} {Mk : Nat → Prop} (h : TMI w l l3 Mk) (hf : Fr S w w') (hn : ∀ x, Mk x → ¬ S x) : TMI w' l l3 Mk := by
 refine ⟨h.len, fun k hk => ?_, h.blk⟩
 obtain ⟨n, hn0, f0, f1, f2, f3⟩ := h.full k hk
 have hl := h.len
 exact ⟨n, hn0, f0.fr hf (fun x hx => hn x (h.blk _ (.inl (List.getElem_mem hk)) x hx)), f1.fr hf (fun x hx => hn x (h.blk _ (.inr (getD_mem l3 _ (by omega))) x hx)), f2.fr hf (fun x hx => hn x (h.blk _ (.inr (getD_mem l3 _ (by omega))) x hx)), f3.fr hf (fun x hx => hn x (h.blk _ (.inr (getD_mem l3 _ (by omega))) x hx))⟩
theorem TMI.below {w w' : World} {l l3 : List Value} {Mk : Nat → Prop} (h : TMI w l l3 Mk) (hb : Below w.heap.size w w') : TMI w' l l3 Mk := h.fr (S := fun _ => False) (Fr.below hb) (fun _ _ h => h)
theorem TMI.push {w : World} {l l3 : List Value} {Mk Mk' : Nat → Prop} (h : TMI w l l3 Mk) (v v1 v2 v3 : Value) (n : Nat) (hn : n ≤ 1200000) (F : FullI w v n (itMk l.length) ∧ FullI w v1 (n + 1) (itMk l.length) ∧ FullI w v2 (n + 2) (itMk l.length) ∧ FullI w v3 (n + 3) (itMk l.length))
  (hM : ∀ x, Mk x → Mk' x) (hv : ∀ u, u = v ∨ u = v1 ∨ u = v2 ∨ u = v3 → ∀ x, u.ownBlock = some x → Mk' x) : TMI w (l ++ [v]) (l3 ++ [v1, v2, v3]) Mk' := by
 have hl := h.len
 refine ⟨by simp; omega, fun k hk => ?_, fun u hu x hx => ?_⟩
 ·rcases Nat.lt_or_ge k l.length with hlt | hge
  ·obtain ⟨n', hn0, f0, f1, f2, f3⟩ := h.full k hlt
   have e : ∀ j, j < l3.length → (l3 ++ [v1, v2, v3]).getD j (.slice none 0 0) = l3.getD j (.slice none 0 0) := fun j hj => by
    rw [List.getD_eq_getElem?_getD, List.getD_eq_getElem?_getD, List.getElem?_append_left hj]
   rw [e _ (by omega), e _ (by omega), e _ (by omega)]
   refine ⟨n', hn0, ?_, f1, f2, f3⟩
   rw [List.getElem_append_left hlt]
   exact f0
  ·obtain rfl : k = l.length := by simp at hk; omega
   have e : ∀ j, (l3 ++ [v1, v2, v3]).getD (3 * l.length + j) (.slice none 0 0) = [v1, v2, v3].getD j (.slice none 0 0) := fun j => by
    rw [List.getD_eq_getElem?_getD, List.getD_eq_getElem?_getD, List.getElem?_append_right (by omega), hl]
    congr 2
    omega
   have e0 := e 0
   have e1 := e 1
   have e2 := e 2
   simp only [Nat.add_zero] at e0
   rw [e0, e1, e2]
   refine ⟨n, hn, ?_, F.2.1, F.2.2.1, F.2.2.2⟩
   simp only [List.getElem_append_right (Nat.le_refl _), Nat.sub_self]
   exact F.1
 ·rcases hu with hu | hu
  ·rcases List.mem_append.1 hu with hu | hu
   ·exact hM x (h.blk u (.inl hu) x hx)
   ·exact hv u (.inl (by simpa using hu)) x hx
  ·rcases List.mem_append.1 hu with hu | hu
   ·exact hM x (h.blk u (.inr hu) x hx)
   ·exact hv u (.inr (by simpa using hu)) x hx
section
variable {w : World} {wb base : Nat} {came : Int} {kT wT kI wI kE wE ps tx tx3 it it3 en en3 : Value} {l l3 : List Value}
theorem MI.put0 (h : MI w wb base came kT wT kI wI kE wE ps tx tx3 it it3 en en3 l l3) (c : Int) : MI (w.setCell ⟨wb, 0, none⟩ (.int .i64 c)) wb base c kT wT kI wI kE wE ps tx tx3 it it3 en en3 l l3 := by
 have gs := grown_setCell w wb 0 (.int .i64 c)
 exact ⟨heap_setCell_same w wb 0 _ _ _ h.wa, ownsRow_same h.t (fun g e => gs.block g (own_lt h.t e) (fun e2 => h.neRow.1 (by rw [e, e2]))), ownsRow_same h.t3 (fun g e => gs.block g (own_lt h.t3 e) (fun e2 => h.neRow.2 (by rw [e, e2]))), h.ne⟩
theorem MI.put1 (h : MI w wb base came kT wT kI wI kE wE ps tx tx3 it it3 en en3 l l3) : MI (w.setCell ⟨wb, 1, none⟩ (.bool false)) wb base came kT wT kI wI kE wE ps tx tx3 it it3 en en3 l l3 := by
 have gs := grown_setCell w wb 1 (.bool false)
 exact ⟨heap_setCell_same w wb 1 _ _ _ h.wa, ownsRow_same h.t (fun g e => gs.block g (own_lt h.t e) (fun e2 => h.neRow.1 (by rw [e, e2]))), ownsRow_same h.t3 (fun g e => gs.block g (own_lt h.t3 e) (fun e2 => h.neRow.2 (by rw [e, e2]))), h.ne⟩
theorem MI.put4 (h : MI w wb base came kT wT kI wI kE wE ps tx tx3 it it3 en en3 l l3) (v : Value) : MI (w.setCell ⟨wb, 4, none⟩ v) wb base came kT wT v wI kE wE ps tx tx3 it it3 en en3 l l3 := by
 have gs := grown_setCell w wb 4 v
 exact ⟨heap_setCell_same w wb 4 _ _ _ h.wa, ownsRow_same h.t (fun g e => gs.block g (own_lt h.t e) (fun e2 => h.neRow.1 (by rw [e, e2]))), ownsRow_same h.t3 (fun g e => gs.block g (own_lt h.t3 e) (fun e2 => h.neRow.2 (by rw [e, e2]))), h.ne⟩
theorem MI.put5 (h : MI w wb base came kT wT kI wI kE wE ps tx tx3 it it3 en en3 l l3) (v : Value) : MI (w.setCell ⟨wb, 5, none⟩ v) wb base came kT wT kI v kE wE ps tx tx3 it it3 en en3 l l3 := by
 have gs := grown_setCell w wb 5 v
 exact ⟨heap_setCell_same w wb 5 _ _ _ h.wa, ownsRow_same h.t (fun g e => gs.block g (own_lt h.t e) (fun e2 => h.neRow.1 (by rw [e, e2]))), ownsRow_same h.t3 (fun g e => gs.block g (own_lt h.t3 e) (fun e2 => h.neRow.2 (by rw [e, e2]))), h.ne⟩
end
theorem own_weak {w : World} {base base' e s n : Nat} {v : Value} {xs : List Value} (h : w.ownsRow base e s v n xs) (hb : base' ≤ base) : w.ownsRow base' e s v n xs := by
 refine ⟨h.1, ?_⟩
 rcases h.2 with hn | ⟨g, cap, cur, e, hg, rest⟩
 ·exact .inl hn
 ·exact .inr ⟨g, cap, cur, e, Nat.le_trans hb hg, rest⟩
theorem slice_nilI {w : World} {base n c : Nat} {a : Option Addr} {l : List P.It} (h : OwnsIt w base (.slice a n c) l) : a = none → l = [] ∧ c = 0 := by
 rintro rfl
 rcases h.2 with ⟨hv, hx⟩ | ⟨g, cap, cur, hv, _⟩
 ·simp at hv
  exact ⟨List.eq_nil_of_length_eq_zero hx, hv.2⟩
 ·simp at hv
set_option maxRecDepth 100000 in
set_option maxHeartbeats 4000000 in
theorem takeItems_any {wb base : Nat} {came : Int} {kT wT kI wI kE wE ps tx tx3 it it3 en en3 : Value} {l l3 : List Value} {Mk : Nat → Prop} (v : Value) (lv lk : List P.It) (w : World) (h : MI w wb base came kT wT kI wI kE wE ps tx tx3 it it3 en en3 l l3)
  (hk : OwnsIt w base kI lk) (hk2 : OwnsIt w base wI lk) (hv : OwnsIt w base v lv) (hkv : ∀ g, kI.ownBlock = some g → wI.ownBlock ≠ some g ∧ v.ownBlock ≠ some g) (tm : TMI w l l3 Mk) (hmk : ∀ x, Mk x → ¬ MISet wb it it3 x ∧ kI.ownBlock ≠ some x ∧ v.ownBlock ≠ some x ∧ x < w.heap.size)
  (hlk : lk.length ≤ 1200000) (hlv : lv.length ≤ 1200000) (hl : l.length ≤ 4000000) (hbase : base ≤ w.heap.size) (hc0 : 0 ≤ came) (hc1 : came ≤ 1000000000000) :
  Calls Tryz.prog 76 #[.pointer (some ⟨wb, 0, none⟩), v] w fun e w' => e = .returned (.tuple #[]) ∧ ∃ kI' wI' it' it3' l' l3' lk', ∃ Mk' : Nat → Prop, MI w' wb base (came + 1) kT wT kI' wI' kE wE ps tx tx3 it' it3' en en3 l' l3' ∧ (OwnsIt w' base kI' lk' ∧ OwnsIt w' base wI' lk' ∧ lk'.length ≤ 1200000) ∧ (∀ g, kI'.ownBlock = some g → wI'.ownBlock ≠ some g) ∧ TMI w' l' l3' Mk' ∧
   (∀ x, Mk' x → (Mk x ∨ kI.ownBlock = some x ∨ v.ownBlock = some x ∨ w.heap.size ≤ x) ∧ ¬ MISet wb it' it3' x ∧ kI'.ownBlock ≠ some x ∧ wI'.ownBlock ≠ some x ∧ x < w'.heap.size) ∧ (∀ x, MISet wb it' it3' x → MISet wb it it3 x ∨ w.heap.size ≤ x) ∧ (∀ x, kI'.ownBlock = some x ∨ wI'.ownBlock = some x → v.ownBlock = some x ∨ w.heap.size ≤ x) ∧
   l'.length ≤ l.length + 2 ∧ Fr (fun x => MISet wb it it3 x ∨ kI.ownBlock = some x ∨ v.ownBlock = some x) w w' := by
 obtain ⟨av, cv, rfl⟩ := row_shape hv
 obtain ⟨ak, ck, rfl⟩ := row_shape hk
 obtain ⟨aw, cw, rfl⟩ := row_shape hk2
 obtain ⟨a1, c1, e1, tv, -⟩ := OwnsIt.lies hv
 obtain ⟨rfl, rfl⟩ : av = a1 ∧ cv = c1 := by simpa using e1
 have hnil := slice_nilI hv
 have Hall := hide (And.intro h (And.intro hk (And.intro hk2 (And.intro hv (And.intro hkv (And.intro tm hmk))))))
 have hlt := h.lt
 have hl3 := tm.len
 clear h hk hk2 hv hkv tm hmk e1
 go_enter Tryz.func76, Tryz.ntmps76
 go_wp2_with (at_builtin; refine app_items rfl (.tmp 7) (.tmp 8) rfl w.heap.size _ [] rfl (World.ownsRow_nil _ _ _ _) av lv cv rfl hnil tv ?qb (Nat.le_refl _) ?_)
 case qb => simp; omega
 intro u W1 ou g1
 have hb1 := grown_none g1
 obtain ⟨h, hk, hk2, hv, hkv, tm, hmk⟩ := unhide Hall
 have h1 := h.below hb1 (Nat.le_refl _)
 have k1' := OwnsIt.below hk hb1
 have k2' := OwnsIt.below hk2 hb1
 obtain ⟨x1, y1, e1, tk1, -⟩ := OwnsIt.lies k1'
 obtain ⟨rfl, rfl⟩ : ak = x1 ∧ ck = y1 := by simpa using e1
 obtain ⟨x2, y2, e2, tk2, -⟩ := OwnsIt.lies k2'
 obtain ⟨rfl, rfl⟩ : aw = x2 ∧ cw = y2 := by simpa using e2
 have m2 := cell_of_block (j := 4) h1.wa
 have m3 := cell_of_block (j := 5) h1.wa
 simp at m2 m3
 have hlt1 := h1.lt
 have hsz1 := hb1.size
 have Hsame := hide (fun W (hW : Below W1.heap.size W1 W) => sameItems_same lk ak aw ck cw W (by unfold maxLen; omega) (tk1.below hW (Nat.le_refl _)) (tk2.below hW (Nat.le_refl _)))
 have H1 := hide (And.intro ou hb1)
 obtain ⟨au, cu, rfl⟩ := row_shape ou
 clear h hk hk2 hv hkv tm hmk h1 k1' k2' e1 e2 tk1 tk2 ou g1 hb1 tv hnil
 go_upto_region 2 with fail
 go_cut [5] (fun s wx => s = .bool true ∧ Below W1.heap.size W1 wx)
 case first =>
  go_region_with ((go_at_call 79; refine (unhide Hsame _ (by first | exact (Below.refl _ _).drew | exact Below.refl _ _)).mono ?_; rintro e w9 ⟨rfl, n9, hw9⟩; have hb9 : Below W1.heap.size W1 w9 := (by rw [hw9]; exact below_drewN (Below.refl _ _).drew n9); clear hw9))
  all_goals
   go_wp2_with fail
   go_meet
   exact ⟨rfl, hb9⟩
 case rest =>
  rename World => wx
  obtain ⟨rfl, hbx⟩ := hcut
  obtain ⟨h, hk, hk2, hv, hkv, tm, hmk⟩ := unhide Hall
  obtain ⟨ou, hb1⟩ := unhide H1
  have hbwx := hb1.trans (hbx.mono hb1.size)
  have hx := h.below hbwx (Nat.le_refl _)
  have kx := OwnsIt.below hk hbwx
  have n2 := cell_of_block (j := 4) hx.wa
  simp at n2
  have hltx := hx.lt
  have hszx := hbwx.size
  have Hmark := hide (markItems_any (.slice ak lk.length ck) lk wx hx kx (by omega) (by omega) hlk (by omega))
  clear h hk hk2 hv hkv tm hmk ou hb1 hbwx hx kx m2 m3
  go_wp2_with fail
  refine (unhide Hmark).mono ?_
  rintro e W3 ⟨rfl, v1, v2, v3, it', it3', M3, F3, fr3, s3, b3, z3⟩
  obtain ⟨h, hk, hk2, hv, hkv, tm, hmk⟩ := unhide Hall
  obtain ⟨ou, hb1⟩ := unhide H1
  have hbwx := hb1.trans (hbx.mono hb1.size)
  have hkl : ∀ x, (Value.slice ak lk.length ck).ownBlock = some x → x < w.heap.size := fun x hx => own_lt hk hx
  have hvl : ∀ x, (Value.slice av lv.length cv).ownBlock = some x → x < w.heap.size := fun x hx => own_lt hv hx
  have hul : ∀ x, (Value.slice au lv.length cu).ownBlock = some x → w.heap.size ≤ x ∧ x < W1.heap.size := fun x hx => ⟨(World.ownsRow.lt ou x hx).1, own_lt ou hx⟩
  have hml : ∀ x, MISet wb it it3 x → x < w.heap.size := fun x hx => h.setLt x hx
  have hvm : ∀ x, (Value.slice av lv.length cv).ownBlock = some x → ¬ MISet wb it it3 x := fun x hx => h.items hv hx
  have hvx := OwnsIt.below hv hbwx
  have hux := OwnsIt.below ou hbx
  have hv3 : OwnsIt W3 base (.slice av lv.length cv) lv := ownsRow_same hvx (fun g e => fr3.block g (own_lt hvx e) (fun hs => by
   rcases hs with hs | hs
   ·exact hvm g e hs
   ·exact (hkv g hs).2 e))
  have hu3 : OwnsIt W3 w.heap.size (.slice au lv.length cu) lv := ownsRow_same hux (fun g e => fr3.block g (own_lt hux e) (fun hs => by
   have hg := hul g e
   rcases hs with hs | hs
   ·have := hml g hs; omega
   ·have := hkl g hs; omega))
  have tm3 : TMI W3 l l3 Mk := (tm.below hbwx).fr fr3 (fun x hx hs => by
   rcases hs with hs | hs
   ·exact (hmk x hx).1 hs
   ·exact (hmk x hx).2.1 hs)
  have tm4 := TMI.push (Mk' := fun x => Mk x ∨ (Value.slice ak lk.length ck).ownBlock = some x ∨ v1.ownBlock = some x ∨ v2.ownBlock = some x ∨ v3.ownBlock = some x) tm3 (.slice ak lk.length ck) v1 v2 v3 lk.length hlk F3 (fun x hx => .inl hx) (fun u hu x hx => by
   rcases hu with rfl | rfl | rfl | rfl
   ·exact .inr (.inl hx)
   ·exact .inr (.inr (.inl hx))
   ·exact .inr (.inr (.inr (.inl hx)))
   ·exact .inr (.inr (.inr (.inr hx))))
  have hsx3 := fr3.size
  -- what is marked now lies apart from all that is still in use
  have hM3 : ∀ x, (Mk x ∨ (Value.slice ak lk.length ck).ownBlock = some x ∨ v1.ownBlock = some x ∨ v2.ownBlock = some x ∨ v3.ownBlock = some x) → (Mk x ∨ (Value.slice ak lk.length ck).ownBlock = some x ∨ (Value.slice av lv.length cv).ownBlock = some x ∨ w.heap.size ≤ x) ∧ ¬ MISet wb it' it3' x ∧ (Value.slice av lv.length cv).ownBlock ≠ some x ∧ (Value.slice au lv.length cu).ownBlock ≠ some x ∧ x < W3.heap.size := by
   intro x hx
   rcases hx with hx | hx
   ·obtain ⟨m1, m2, m3, m4⟩ := hmk x hx
    refine ⟨.inl hx, fun hm => ?_, m3, fun e => ?_, by omega⟩
    ·rcases s3 x hm with h1 | h1
     ·exact m1 h1
     ·omega
    ·have := hul x e; omega
   ·have hz := z3 x hx
    refine ⟨?_, hz.1, fun e => ?_, fun e => ?_, hz.2⟩
    ·rcases hx with hx | hx
     ·exact .inr (.inl hx)
     ·rcases b3 x hx with h1 | h1
      ·exact .inr (.inl h1)
      ·exact .inr (.inr (.inr (by omega)))
    ·rcases hx with hx | hx
     ·exact (hkv x hx).2 e
     ·rcases b3 x hx with h1 | h1
      ·exact (hkv x h1).2 e
      ·have := hvl x e; omega
    ·have hg := hul x e
     have hbx' := hbx.size
     rcases hx with hx | hx
     ·have := hkl x hx; omega
     ·rcases b3 x hx with h1 | h1
      ·have := hkl x h1; omega
      ·omega
  have fw3 : Fr (fun x => MISet wb it it3 x ∨ (Value.slice ak lk.length ck).ownBlock = some x ∨ (Value.slice av lv.length cv).ownBlock = some x) w W3 := fr_comp (Fr.below hbwx) (fr3.mono (T := fun x => MISet wb it it3 x ∨ (Value.slice ak lk.length ck).ownBlock = some x ∨ (Value.slice av lv.length cv).ownBlock = some x) (fun x hx => hx.elim Or.inl (fun h => Or.inr (Or.inl h)))) (fun x hx => .inl hx)
  have hs3 : ∀ x, MISet wb it' it3' x → MISet wb it it3 x ∨ w.heap.size ≤ x := fun x hx => (s3 x hx).imp id (fun h => by omega)
  obtain ⟨p1, q1, e1, tv3, -⟩ := OwnsIt.lies hv3
  obtain ⟨rfl, rfl⟩ : av = p1 ∧ cv = q1 := by simpa using e1
  obtain ⟨p2, q2, e2, tu3, -⟩ := OwnsIt.lies hu3
  obtain ⟨rfl, rfl⟩ : au = p2 ∧ cu = q2 := by simpa using e2
  have Hs2 := hide (sameItems_same lv av au cv cu W3 (by unfold maxLen; omega) tv3 tu3)
  have hu_base := own_weak hu3 hbase
  have Hst3 := hide (And.intro M3 (And.intro hv3 (And.intro hu_base (And.intro tm4 (And.intro hM3 (And.intro fw3 (And.intro hs3 (And.intro hvl (And.intro hul hvm)))))))))
  have hl4 : (l ++ [Value.slice ak lk.length ck]).length = l.length + 1 := by simp
  have hl43 := tm4.len
  generalize l ++ [Value.slice ak lk.length ck] = lA at *
  generalize l3 ++ [v1, v2, v3] = lA3 at *
  clear h hk hk2 hv hkv tm hmk ou hb1 hbwx hkl hml hvx hux tm3 M3 F3 fr3 s3 b3 z3 hv3 hu3 tm4 hM3 fw3 hs3 e1 e2 tv3 tu3 hu_base Hmark n2 hvl hul hvm
  go_wp2_with fail
  refine (unhide Hs2).mono ?_
  rintro e W4 ⟨rfl, n4, hW4⟩
  have hb4 : Below W3.heap.size W3 W4 := by rw [hW4]; exact below_drewN (Below.refl _ _) n4
  obtain ⟨M3, hv3, hu3, tm4, hM3, fw3, hs3, hvl, hul, hvm⟩ := unhide Hst3
  have M4 := M3.below hb4 (Nat.le_refl _)
  have r0 := cell_of_block (j := 0) M4.wa
  have r1 := cell_of_block (j := 1) M4.wa
  have r2 := cell_of_block (j := 4) M4.wa
  have r3 := cell_of_block (j := 5) M4.wa
  simp at r0 r1 r2 r3
  have rf := fun j => free_block (j := j) M4.wa
  have rl := M4.lt
  obtain ⟨W5, hW5⟩ : ∃ W5, (((W4.setCell ⟨wb, 1, none⟩ (.bool false)).setCell ⟨wb, 4, none⟩ (.slice none 0 0)).setCell ⟨wb, 5, none⟩ (.slice none 0 0)).setCell ⟨wb, 0, none⟩ (.int .i64 (came + 1)) = W5 := ⟨_, rfl⟩
  have M5 := (((M4.put1).put4 (.slice none 0 0)).put5 (.slice none 0 0)).put0 (came + 1)
  have f45 : Fr (fun x => x = wb) W4 ((((W4.setCell ⟨wb, 1, none⟩ (.bool false)).setCell ⟨wb, 4, none⟩ (.slice none 0 0)).setCell ⟨wb, 5, none⟩ (.slice none 0 0)).setCell ⟨wb, 0, none⟩ (.int .i64 (came + 1))) := (((Fr.set (S := fun x => x = wb) W4 wb 1 _ rfl).trans (Fr.set (S := fun x => x = wb) _ wb 4 _ rfl)).trans (Fr.set (S := fun x => x = wb) _ wb 5 _ rfl)).trans (Fr.set (S := fun x => x = wb) _ wb 0 _ rfl)
  have hz5 : ((((W4.setCell ⟨wb, 1, none⟩ (.bool false)).setCell ⟨wb, 4, none⟩ (.slice none 0 0)).setCell ⟨wb, 5, none⟩ (.slice none 0 0)).setCell ⟨wb, 0, none⟩ (.int .i64 (came + 1))).heap.size = W4.heap.size := by simp
  rw [hW5] at M5 f45 hz5
  have hv4 := OwnsIt.below hv3 hb4
  have hu4 := OwnsIt.below hu3 hb4
  have hv5 : OwnsIt W5 base (.slice av lv.length cv) lv := ownsRow_same hv4 (fun g e => f45.block g (own_lt hv4 e) (fun e2 => row_neS hv4 M4.wa (by decide) (by rw [e, e2])))
  have hu5 : OwnsIt W5 base (.slice au lv.length cu) lv := ownsRow_same hu4 (fun g e => f45.block g (own_lt hu4 e) (fun e2 => row_neS hu4 M4.wa (by decide) (by rw [e, e2])))
  have tm5 := (tm4.below hb4).fr f45 (fun x hx e => (hM3 x hx).2.1 (.inl e))
  have fw5 := fr_comp (fr_comp fw3 (Fr.below (S := fun _ => False) hb4) (fun x hx => hx.elim)) f45 (fun x hx => .inl (.inl (.inl hx)))
  have hsz4 := hb4.size
  have hsw := fw3.size
  have hwr : IntKind.i64.wrap (came + 1) = came + 1 := by rw [IntKind.wrap_i64]; omega
  have hmd : (came + 1).tmod 2 = (came + 1) % 2 := Int.tmod_eq_emod_of_nonneg (by omega)
  have Hst5 := hide (And.intro M5 (And.intro hv5 (And.intro hu5 (And.intro tm5 (And.intro hM3 (And.intro fw5 (And.intro hs3 (And.intro hvl (And.intro hul hvm)))))))))
  have HW5 := hide hW5
  have hl5 := tm5.len
  have Hm2 := hide (markItems_any (.slice av lv.length cv) lv W5 M5 hv5 (by omega) (by omega) hlv (by omega))
  clear M3 hv3 hu3 tm4 hM3 fw3 hs3 hvl hul hvm M4 M5 f45 hv4 hu4 hv5 hu5 tm5 fw5 hb4 hW4 hW5 Hst3 Hs2
  by_cases hpar : (came + 1) % 2 = 0
  ·have hpe : ((came + 1) % 2 == 0) = true := by simpa using hpar
   go_wp2_with fail
   rw [unhide HW5]
   refine (unhide Hm2).mono ?_
   rintro e W6 ⟨rfl, y1, y2, y3, it2, it32, M6, F6, fr6, s6, b6, z6⟩
   obtain ⟨M5, hv5, hu5, tm5, hM3, fw5, hs3, hvl, hul, hvm⟩ := unhide Hst5
   have hsz6 := fr6.size
   have tm6 := (tm5.fr fr6 (fun x hx hs => by
    rcases hs with hs | hs
    ·exact (hM3 x hx).2.1 hs
    ·exact (hM3 x hx).2.2.1 hs)).push (Mk' := fun x => (Mk x ∨ (Value.slice ak lk.length ck).ownBlock = some x ∨ v1.ownBlock = some x ∨ v2.ownBlock = some x ∨ v3.ownBlock = some x) ∨ ((Value.slice av lv.length cv).ownBlock = some x ∨ y1.ownBlock = some x ∨ y2.ownBlock = some x ∨ y3.ownBlock = some x)) (.slice av lv.length cv) y1 y2 y3 lv.length hlv F6 (fun x hx => .inl hx) (fun u hu x hx => by
    rcases hu with rfl | rfl | rfl | rfl
    ·exact .inr (.inl hx)
    ·exact .inr (.inr (.inl hx))
    ·exact .inr (.inr (.inr (.inl hx)))
    ·exact .inr (.inr (.inr (.inr hx))))
   have Hend := hide (show ∃ kI' wI' it' it3' l' l3' lk', ∃ Mk' : Nat → Prop, MI W6 wb base (came + 1) kT wT kI' wI' kE wE ps tx tx3 it' it3' en en3 l' l3' ∧ (OwnsIt W6 base kI' lk' ∧ OwnsIt W6 base wI' lk' ∧ lk'.length ≤ 1200000) ∧ (∀ g, kI'.ownBlock = some g → wI'.ownBlock ≠ some g) ∧ TMI W6 l' l3' Mk' ∧
     (∀ x, Mk' x → (Mk x ∨ (Value.slice ak lk.length ck).ownBlock = some x ∨ (Value.slice av lv.length cv).ownBlock = some x ∨ w.heap.size ≤ x) ∧ ¬ MISet wb it' it3' x ∧ kI'.ownBlock ≠ some x ∧ wI'.ownBlock ≠ some x ∧ x < W6.heap.size) ∧ (∀ x, MISet wb it' it3' x → MISet wb it it3 x ∨ w.heap.size ≤ x) ∧ (∀ x, kI'.ownBlock = some x ∨ wI'.ownBlock = some x → (Value.slice av lv.length cv).ownBlock = some x ∨ w.heap.size ≤ x) ∧
     l'.length ≤ l.length + 2 ∧ Fr (fun x => MISet wb it it3 x ∨ (Value.slice ak lk.length ck).ownBlock = some x ∨ (Value.slice av lv.length cv).ownBlock = some x) w W6 from by
    refine ⟨.slice none 0 0, .slice none 0 0, it2, it32, lA ++ [.slice av lv.length cv], lA3 ++ [y1, y2, y3], [], _, M6, ⟨World.ownsRow_nil _ _ _ _, World.ownsRow_nil _ _ _ _, by simp⟩, fun g e => by simp [Value.ownBlock] at e, tm6, fun x hx => ?_, fun x hx => ?_, fun x hx => by simp [Value.ownBlock] at hx, by simp; omega, ?_⟩
    ·rcases hx with hx | hx
     ·obtain ⟨q1, q2, q3, q4, q5⟩ := hM3 x hx
      refine ⟨q1, fun hm => ?_, by simp [Value.ownBlock], by simp [Value.ownBlock], by omega⟩
      rcases s6 x hm with h1 | h1
      ·exact q2 h1
      ·omega
     ·have hz := z6 x hx
      refine ⟨?_, hz.1, by simp [Value.ownBlock], by simp [Value.ownBlock], hz.2⟩
      rcases hx with hx | hx
      ·exact .inr (.inr (.inl hx))
      ·rcases b6 x hx with h1 | h1
       ·exact .inr (.inr (.inl h1))
       ·exact .inr (.inr (.inr (by omega)))
    ·rcases s6 x hx with h1 | h1
     ·exact hs3 x h1
     ·exact .inr (by omega)
    ·refine fr_comp (fw5.mono (fun x hx => hx)) fr6 (fun x hx => ?_)
     rcases hx with hx | hx
     ·rcases hs3 x hx with h1 | h1
      ·exact .inl (.inl h1)
      ·exact .inr h1
     ·exact .inl (.inr (.inr hx)))
   clear M5 hv5 hu5 tm5 hM3 fw5 hs3 hvl hul hvm tm6 M6 F6 fr6 s6 b6 z6 Hst5 Hm2
   go_wp2_with fail
   go_end0
   exact ⟨rfl, unhide Hend⟩
  ·have hpe : ((came + 1) % 2 == 0) = false := by simpa using hpar
   go_wp2_with fail
   go_end0
   rw [unhide HW5]
   obtain ⟨M5, hv5, hu5, tm5, hM3, fw5, hs3, hvl, hul, hvm⟩ := unhide Hst5
   have f7 : Fr (fun x => x = wb) W5 ((W5.setCell ⟨wb, 4, none⟩ (.slice av lv.length cv)).setCell ⟨wb, 5, none⟩ (.slice au lv.length cu)) := (Fr.set (S := fun x => x = wb) W5 wb 4 _ rfl).trans (Fr.set (S := fun x => x = wb) _ wb 5 _ rfl)
   have hv7 : OwnsIt ((W5.setCell ⟨wb, 4, none⟩ (.slice av lv.length cv)).setCell ⟨wb, 5, none⟩ (.slice au lv.length cu)) base (.slice av lv.length cv) lv := ownsRow_same hv5 (fun g e => f7.block g (own_lt hv5 e) (fun e2 => row_neS hv5 M5.wa (by decide) (by rw [e, e2])))
   have hu7 : OwnsIt ((W5.setCell ⟨wb, 4, none⟩ (.slice av lv.length cv)).setCell ⟨wb, 5, none⟩ (.slice au lv.length cu)) base (.slice au lv.length cu) lv := ownsRow_same hu5 (fun g e => f7.block g (own_lt hu5 e) (fun e2 => row_neS hu5 M5.wa (by decide) (by rw [e, e2])))
   refine ⟨rfl, .slice av lv.length cv, .slice au lv.length cu, it', it3', lA, lA3, lv, _, (M5.put4 _).put5 _, ⟨hv7, hu7, hlv⟩, fun g e e2 => ?_, tm5.fr f7 (fun x hx e => (hM3 x hx).2.1 (.inl e)), fun x hx => ?_, hs3, fun x hx => ?_, by omega, fr_comp (fw5.mono (fun x hx => hx)) f7 (fun x hx => .inl (.inl (.inl hx)))⟩
   ·have h1 := hvl g e
    have h2 := hul g e2
    omega
   ·obtain ⟨q1, q2, q3, q4, q5⟩ := hM3 x hx
    exact ⟨q1, q2, q3, q4, by simp; omega⟩
   ·rcases hx with hx | hx
    ·exact .inl hx
    ·exact .inr (hul x hx).1
end Go.Proofs.YtjmacegibchplaaGreatDoor