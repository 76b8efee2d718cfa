import Derived.Test.YtjmacegibchplaaGreatDoorFtC
import Derived.Test.YtjmacegibchplaaGreatDoorUpE
/-
  The program's Fetch: a directory's items are gone through.
-/
namespace Go.Proofs.YtjmacegibchplaaGreatDoor
open Go.RowKit Go.Maps Go.WideMaps
set_option linter.unusedVariables false
def visV (bl be bd bf : Nat) : Value := .func (.func 91) #[] #[ptr bl, ptr be, ptr bd, ptr bf]
def FThrEnd (w : World) (base bl be bd bf : Nat) (v : Value) (ents dep : Int) (pb um n : Nat) (room : Int) (st : List (List UInt8 × List UInt8)) (q : Int × List En) (e : Ending) (w' : World) : Prop :=
  e = .returned (.int .i64 q.1) ∧ Fr (fun b => b = bl ∨ v.ownBlock = some b) w w' ∧ (q.1 = 0 → ∃ v', FSt w' base bl be bd bf v' q.2 ents dep pb um n room st ∧ (v'.ownBlock = v.ownBlock ∨ ∃ g, v'.ownBlock = some g ∧ w.heap.size ≤ g))
theorem item_bd (x : P.It) (h : P.itemOk x = true) : x.tgt.size ≤ 1100000 ∧ x.dig.size ≤ maxLen ∧ x.name.data.toList.length ≤ 12 := by
  have hn := item_name x h
  have hn2 : x.name.data.toList.length ≤ 12 := by
    unfold P.isName at hn
    simp only [Bool.and_eq_true, decide_eq_true_eq] at hn
    exact hn.1.1.1.1.2
  refine ⟨?_, ?_, hn2⟩
  · by_cases hk : x.kind = 3
    · rcases item_kind x h with ⟨_, hl⟩ | ⟨hk2, _⟩
      · unfold P.linkOk P.isTarget at hl
        simp only [Bool.and_eq_true, decide_eq_true_eq] at hl
        have := hl.1.1.1.2
        have h2 := sized x.tgt
        omega
      · omega
    · rw [(ok_plain x h hk).1]; decide
  · by_cases hk : x.kind = 3
    · rw [(ok_link x h hk).1]; decide
    · rw [(ok_plain x h hk).2]; decide
theorem FSt.with {w w' : World} {base bl be bd bf : Nat} {v : Value} {out : List En} {ents dep : Int} {pb um n : Nat} {room : Int} {st : List (List UInt8 × List UInt8)} (h : FSt w base bl be bd bf v out ents dep pb um n room st) (hb : Below w.heap.size w w') : FSt w' base bl be bd bf v out ents dep pb um n room st := h.below hb
theorem fr_step {w w1 w2 : World} {bl : Nat} {v v1 : Value} (h1 : Fr (fun b => b = bl ∨ v.ownBlock = some b) w w1) (hl : v1.ownBlock = v.ownBlock ∨ ∃ g, v1.ownBlock = some g ∧ w.heap.size ≤ g) (h2 : Fr (fun b => b = bl ∨ v1.ownBlock = some b) w1 w2) : Fr (fun b => b = bl ∨ v.ownBlock = some b) w w2 :=
  ⟨h2.os.trans h1.os, h2.tape.trans h1.tape, h2.output.trans h1.output, Nat.le_trans h1.size h2.size, fun b hb hn => (h2.block b (Nat.lt_of_lt_of_le hb h1.size) (by
    rintro (e | e)
    · exact hn (.inl e)
    · rcases hl with hl | ⟨g, hg, hgs⟩
      · exact hn (.inr (by rw [← hl]; exact e))
      · rw [hg] at e
        have := Option.some.inj e
        omega)).trans (h1.block b hb hn)⟩
theorem loc_step {w w1 : World} {v v1 v2 : Value} (hs : w.heap.size ≤ w1.heap.size) (h1 : v1.ownBlock = v.ownBlock ∨ ∃ g, v1.ownBlock = some g ∧ w.heap.size ≤ g) (h2 : v2.ownBlock = v1.ownBlock ∨ ∃ g, v2.ownBlock = some g ∧ w1.heap.size ≤ g) : v2.ownBlock = v.ownBlock ∨ ∃ g, v2.ownBlock = some g ∧ w.heap.size ≤ g := by
  rcases h2 with h2 | ⟨g, hg, hgs⟩
  · rw [h2]; exact h1
  · exact .inr ⟨g, hg, by omega⟩
theorem own_item {w w1 : World} {b0 bl : Nat} {v vi : Value} {items : List P.It} {base : Nat} {out : List En} (ho : OwnsIt w b0 vi items) (hl : w.heap[bl]? = some (.cells #[v] 22 (0, 0))) (hv : OwnsE w base v out) (h1 : Fr (fun b => b = bl ∨ v.ownBlock = some b) w w1) : OwnsIt w1 b0 vi items :=
  own_fr ho h1 (by
    rintro g hg (e | e)
    · exact own_cells ho hg hl (by decide) e
    · exact own_types ho hv (by decide) hg e)
def ThrAt (base bl be bd bf : Nat) (ents dep : Int) (pb um n : Nat) (room : Int) (st : List (List UInt8 × List UInt8)) (f k : Nat) : Prop := ∀ (d : List UInt8) (items : List P.It) (vi : Value) (b0 : Nat) (v : Value) (out : List En) (w : World),
    NamesOk d k → d.length ≤ 13 * k → (∀ x ∈ items, P.itemOk x = true) → OwnsIt w b0 vi items → items.length ≤ 1000 → FSt w base bl be bd bf v out ents dep pb um n room st →
    Calls Tryz.prog 90 #[.string (bs d), vi, visV bl be bd bf] w fun e w' => FThrEnd w base bl be bd bf v ents dep pb um n room st (fetItems (atP st) ents dep (belowF (atP st) ents dep f ((k : Int) + 1 + 1)) d ((k : Int) + 1) items out) e w'
theorem pre_len2 (d : List UInt8) : (pre d).length ≤ d.length + 1 := by unfold pre; split <;> simp_all
theorem contI_len (S : List UInt8 → Option (List UInt8)) (x : P.It) : (contI S x).length ≤ 40 := by
  unfold contI
  split
  · cases hd : decOk (blobS S x.dig.data.toList).2 with
    | none => simp
    | some l =>
      have := ((decOk_iff _ _).1 hd).1
      unfold dirOk at this
      simp only [Bool.and_eq_true, decide_eq_true_eq] at this
      exact this.1
  · simp
set_option maxRecDepth 100000 in
set_option maxHeartbeats 4000000 in
theorem through_core (base bl be bd bf : Nat) (ents dep : Int) (pb um n : Nat) (room : Int) (st : List (List UInt8 × List UInt8)) (hsz : ∀ d b, atP st d = some b → b.length ≤ 10000000) (f k : Nat) (hkf : k + f = 5) (ih : ∀ f', f = f' + 1 → ThrAt base bl be bd bf ents dep pb um n room st f' (k + 1)) :
    ThrAt base bl be bd bf ents dep pb um n room st f k := by
  intro d items vi b0 v out w hd hdl hok hoi hil hF
  have e1 : ∀ args w, (callFunc 91 args).run Tryz.prog w = .ok (.enter 91 args) w := enters_of Tryz.func91 (by kernel_rfl) rfl
  obtain ⟨ai, ci, rfl⟩ := row_shape hoi
  have Hih := hide ih
  clear ih
  unfold visV ptr
  go_enter Tryz.func90, Tryz.ntmps90
  go_wp2_with fail
  go_loopw [15] (fun i wr => ∃ (j : Nat) (out' : List En) (v' : Value), j ≤ items.length ∧ i = .int .i64 j ∧ FSt wr base bl be bd bf v' out' ents dep pb um n room st ∧ OwnsIt wr b0 (.slice ai items.length ci) items ∧ fetItems (atP st) ents dep (belowF (atP st) ents dep f ((k : Int) + 1 + 1)) d ((k : Int) + 1) items out = fetItems (atP st) ents dep (belowF (atP st) ents dep f ((k : Int) + 1 + 1)) d ((k : Int) + 1) (items.drop j) out' ∧ Fr (fun b => b = bl ∨ v.ownBlock = some b) w wr ∧ (v'.ownBlock = v.ownBlock ∨ ∃ g, v'.ownBlock = some g ∧ w.heap.size ≤ g)) (fun i _ => items.length - (intOf i).toNat)
  case atStart => exact ⟨0, out, v, by omega, rfl, hF, hoi, by rw [List.drop_zero], fr_refl _ _, .inl rfl⟩
  case round =>
    obtain ⟨j, out', v', hj, rfl, hFr, hor, heq, hfr, hloc⟩ := hrel
    clear hF hoi
    by_cases hlt : j < items.length
    · rw [List.drop_eq_getElem_cons hlt] at heq
      have hxo := hok _ (List.getElem_mem hlt)
      obtain ⟨g, o, rfl, t0, t1, t2, t3, t4⟩ : ∃ g o, ai = some ⟨g, o, none⟩ ∧ ItemAt wr g (o + j * 5) items[j] := by
        obtain ⟨a2, c2, e2, hli, -⟩ := hor.lies
        obtain ⟨rfl, rfl⟩ : ai = a2 ∧ ci = c2 := by simpa using e2
        rcases hli with h1 | ⟨b, o, rfl, h1⟩
        · rw [h1] at hlt; simp at hlt
        · exact ⟨b, o, rfl, h1 j hlt⟩
      obtain ⟨hx1, hx2, hx3⟩ := item_bd _ hxo
      have hnm := item_name _ hxo
      obtain ⟨hs1, hs2, hs3⟩ := names_sp hd hnm
      have hnn := names_next hd hnm
      have hpl := pre_len2 d
      have q1 : (j : Int) < (items.length : Int) := by omega
      generalize items[j] = x at *
      obtain ⟨xn, xk, xd, xs, xt⟩ := x
      obtain ⟨nm, rfl⟩ : ∃ nm, xn = bs nm := ⟨xn.data.toList, (bs_of xn).symm⟩
      simp only [bs_data] at *
      have hpp : (pre d ++ nm).length ≤ 13 * (k + 1) := by rw [List.length_append]; omega
      have hk5 : k ≤ 5 := by omega
      have hbA : Below wr.heap.size wr (wr.alloc (.cells #[.string (bs nm), .int .i64 xk, .string xd, .int .i64 xs, .string xt] 47)) := (Below.refl _ _).alloc (Nat.le_refl _) _
      have hF1 := hFr.below hbA
      have hjo := fun w' => join_any d nm w' (by omega) (by omega)
      have hvis := visit_any _ base bl be bd bf v' out' ents dep pb um n room st (pre d ++ nm) ⟨bs nm, xk, xd, xs, xt⟩ hF1 (by omega) (by rw [hs2]; omega) hx1 hx2 hsz
      have hk1 : ((k + 1 : Nat) : Int) = (k : Int) + 1 := by omega
      unfold VisEnd budP at hvis
      rw [hs2, hk1] at hvis
      unfold itV ptr at hvis
      have hf0 : budQ out'.length ents dep ((k : Int) + 1) = false → ∃ f', f = f' + 1 := fun hb => by
        unfold budQ at hb
        rw [Bool.or_eq_false_iff, decide_eq_false_iff_not, decide_eq_false_iff_not] at hb
        exact ⟨f - 1, by omega⟩
      have hn40 := hFr.len
      have Hvis := hide hvis
      have Hf0 := hide hf0
      have Hk1 := hide hk1
      have Hhs := hide (And.intro hs1 (And.intro hs2 hs3))
      have Heq := hide heq
      have hor1 : OwnsIt (wr.alloc (.cells #[.string (bs nm), .int .i64 xk, .string xd, .int .i64 xs, .string xt] 47)) b0 (.slice (some ⟨g, o, none⟩) items.length ci) items := World.ownsRow.alloc hor _
      clear hvis hf0 hk1 heq hs1 hs2 hs3 hFr hor
      go_wp2_with (go_at_call 140; refine (hjo _).mono ?_; rintro e w' ⟨rfl, hw'⟩; rw [hw']; clear hw' w')
      refine (unhide Hvis).mono ?_
      rintro e W2 (⟨hb, rfl, hb2⟩ | ⟨hb, hce, rfl, hb2⟩ | ⟨hb, hce, vi2, v2, rfl, hoi2, hfi2, hF2, hf2, hl2⟩)
      · have Hr := hide (show fetItems (atP st) ents dep (belowF (atP st) ents dep f ((k : Int) + 1 + 1)) d ((k : Int) + 1) items out = (9, out') by rw [unhide Heq]; exact fet_bud _ _ _ _ _ _ _ _ _ hn40 hb)
        have hfr2 := hfr.trans (Fr.below (hbA.trans (hb2.mono hbA.size)))
        clear hb hb2 Hvis t0 t1 t2 t3 t4
        go_wp2_with fail
        go_ret
        exact ⟨ret_int (by rw [unhide Hr]), hfr2, fun h => by rw [unhide Hr] at h; simp at h⟩
      · obtain ⟨f', rfl⟩ := unhide Hf0 hb
        have Hr := hide (show (fetItems (atP st) ents dep (belowF (atP st) ents dep (f' + 1) ((k : Int) + 1 + 1)) d ((k : Int) + 1) items out).1 = contE (atP st) ((k : Int) + 1) ⟨bs nm, xk, xd, xs, xt⟩ by rw [unhide Heq]; exact fet_err _ _ _ _ _ _ _ _ _ hn40 hb hce)
        have hfr2 := hfr.trans (Fr.below (hbA.trans (hb2.mono hbA.size)))
        have Hce := hide hce
        have bce : (contE (atP st) ((k : Int) + 1) ⟨bs nm, xk, xd, xs, xt⟩ == 0) = false := by simpa using hce
        generalize contE (atP st) ((k : Int) + 1) ⟨bs nm, xk, xd, xs, xt⟩ = ce at *
        clear hb hce hb2 Hvis t0 t1 t2 t3 t4
        go_wp2_with fail
        go_ret
        exact ⟨ret_int (by rw [unhide Hr]), hfr2, fun h => by rw [unhide Hr] at h; exact absurd h (unhide Hce)⟩
      · obtain ⟨f', rfl⟩ := unhide Hf0 hb
        have hst := fet_step (atP st) ents dep f' d ((k : Int) + 1) ⟨bs nm, xk, xd, xs, xt⟩ (items.drop (j + 1)) out' hn40 hb hce hxo
        simp only [bs_data] at hst
        have hih := unhide Hih f' rfl (pre d ++ nm) (contI (atP st) ⟨bs nm, xk, xd, xs, xt⟩) vi2 _ v2 _ W2 hnn hpp (fun y hy => contI_ok _ _ y hy) hoi2 (by have := contI_len (atP st) ⟨bs nm, xk, xd, xs, xt⟩; omega) hF2
        rw [unhide Hk1] at hih
        unfold visV ptr FThrEnd at hih
        have hor2 := own_item hor1 hF1.l hF1.own hf2
        have hfr2 := fr_step hfr hloc ((Fr.below hbA).trans hf2)
        have hloc2 := loc_step hfr.size hloc (hl2.imp id (fun ⟨g', h1, h2⟩ => ⟨g', h1, Nat.le_trans hbA.size h2⟩))
        have Hst := hide hst
        have Hih2 := hide hih
        clear hst hih Hih hce hb Hvis t0 t1 t2 t3 t4 hfr hloc hf2 hl2 hor1 hF1 hoi2 hfi2
        generalize fetItems (atP st) ents dep (belowF (atP st) ents dep f' ((k : Int) + 1 + 1 + 1)) (pre d ++ nm) ((k : Int) + 1 + 1) (contI (atP st) ⟨bs nm, xk, xd, xs, xt⟩) (out' ++ [⟨bs (pre d ++ nm), xk, contD (atP st) ⟨bs nm, xk, xd, xs, xt⟩⟩]) = q at *
        obtain ⟨qe, qo⟩ := q
        simp only at Hst Hih2
        go_wp2_with fail
        refine (unhide Hih2).mono ?_
        rintro e W3 ⟨rfl, hf3, hq3⟩
        have hfr3 := fr_step hfr2 hloc2 hf3
        have hor3 := own_item hor2 hF2.l hF2.own hf3
        have hz2 := hfr2.size
        clear Hih2 hf3 hor2 hF2
        by_cases hq : qe = 0
        · subst hq
          obtain ⟨v3, hF3, hl3⟩ := hq3 rfl
          have Hr := hide (show fetItems (atP st) ents dep (belowF (atP st) ents dep (f' + 1) ((k : Int) + 1 + 1)) d ((k : Int) + 1) items out = fetItems (atP st) ents dep (belowF (atP st) ents dep (f' + 1) ((k : Int) + 1 + 1)) d ((k : Int) + 1) (items.drop (j + 1)) qo by rw [unhide Heq, unhide Hst]; simp)
          have hloc3 := loc_step hz2 hloc2 hl3
          clear hq3
          go_wp2_with fail
          go_roundw
          case rel => exact ⟨j + 1, qo, v3, by omega, by go_num, hF3, hor3, unhide Hr, hfr3, hloc3⟩
          case measure => simp [intOf]; omega
        · have bq : (qe == 0) = false := by simpa using hq
          have Hr := hide (show fetItems (atP st) ents dep (belowF (atP st) ents dep (f' + 1) ((k : Int) + 1 + 1)) d ((k : Int) + 1) items out = (qe, qo) by rw [unhide Heq, unhide Hst, if_pos hq])
          clear hq3
          go_wp2_with fail
          go_ret
          exact ⟨ret_int (by rw [unhide Hr]), hfr3, fun h => by rw [unhide Hr] at h; exact absurd h hq⟩
    · obtain rfl : j = items.length := by omega
      have Hr := hide (show fetItems (atP st) ents dep (belowF (atP st) ents dep f ((k : Int) + 1 + 1)) d ((k : Int) + 1) items out = (0, out') by rw [heq, List.drop_length]; rfl)
      clear heq
      go_wp2_with fail
      go_ret
      exact ⟨ret_int (by rw [unhide Hr]), hfr, fun _ => ⟨v', by rw [unhide Hr]; exact hFr, hloc⟩⟩
theorem through_all (base bl be bd bf : Nat) (ents dep : Int) (pb um n : Nat) (room : Int) (st : List (List UInt8 × List UInt8)) (hsz : ∀ d b, atP st d = some b → b.length ≤ 10000000) : ∀ (f k : Nat), k + f = 5 → ThrAt base bl be bd bf ents dep pb um n room st f k
  | 0, k, h => through_core base bl be bd bf ents dep pb um n room st hsz 0 k h (fun f' e => by omega)
  | f + 1, k, h => through_core base bl be bd bf ents dep pb um n room st hsz (f + 1) k h (fun f' e => by
    obtain rfl : f = f' := by omega
    exact through_all base bl be bd bf ents dep pb um n room st hsz f (k + 1) (by omega))
end Go.Proofs.YtjmacegibchplaaGreatDoor

/-
  The program's calls on stores: New, Put, Get, Missing, Plant, Upload (package cellar).
-/
namespace Go.Proofs.YtjmacegibchplaaGreatDoor
open Go.RowKit Go.Maps Go.WideMaps
set_option linter.unusedVariables false
structure CS (w : World) (sb pb um n : Nat) (room : Int) (st : List (List UInt8 × List UInt8)) : Prop where
  c : w.heap[sb]? = some (.cells #[.pointer (some ⟨pb, 0, none⟩)] 99 (0, 0))
  p : PStore w pb um n room st
section
variable {w w' : World} {sb pb um n : Nat} {room : Int} {st : List (List UInt8 × List UInt8)}
theorem CS.lt (h : CS w sb pb um n room st) : sb < w.heap.size ∧ pb < w.heap.size ∧ um < w.heap.size := ⟨(Array.getElem?_eq_some_iff.1 h.c).1, h.p.lt pb (.inl rfl), h.p.lt um (.inr rfl)⟩
theorem CS.ne (h : CS w sb pb um n room st) : sb ≠ pb ∧ sb ≠ um := ⟨fun e => by have a := h.c; rw [e, h.p.s] at a; simp at a, fun e => map_ne_cells h.p.m h.c e⟩
theorem CS.below {B : Nat} (h : CS w sb pb um n room st) (hb : Below B w w') (hB : w.heap.size ≤ B) : CS w' sb pb um n room st := ⟨(hb.block sb (Nat.lt_of_lt_of_le h.lt.1 hB)).trans h.c, h.p.below hb hB⟩
theorem CS.fr {S : Nat → Prop} (h : CS w sb pb um n room st) (hf : Fr S w w') (h0 : ¬ S sb) (h1 : ¬ S pb) (h2 : ¬ S um) : CS w' sb pb um n room st := ⟨(hf.block sb h.lt.1 h0).trans h.c, h.p.fr hf h1 h2⟩
theorem CS.next {n' : Nat} {st' : List (List UInt8 × List UInt8)} (h : CS w sb pb um n room st) (hf : Fr (fun x => x = pb ∨ x = um) w w') (hp : PStore w' pb um n' room st') : CS w' sb pb um n' room st' := ⟨(hf.block sb h.lt.1 (by have := h.ne; omega)).trans h.c, hp⟩
end
theorem cNew_ok (room : Int) (w : World) (h0 : 0 ≤ room) (h1 : room ≤ 100000) :
    Calls Tryz.prog 26 #[.int .i64 room] w fun e w' => ∃ sb pb um, e = .returned (.tuple #[.pointer (some ⟨sb, 0, none⟩), .int .i64 0]) ∧ CS w' sb pb um 0 room [] ∧ (w.heap.size ≤ sb ∧ w.heap.size ≤ pb ∧ w.heap.size ≤ um) ∧ Below w.heap.size w w' := by
  have hn := storeNew_ok room w h0 h1
  go_enter Tryz.func26, Tryz.ntmps26
  go_wp2_with fail
  refine hn.mono ?_
  rintro e w1 ⟨rfl, hp, hb⟩
  go_wp2_with fail
  go_ret2
  have hbA : Below w1.heap.size w1 (w1.alloc (.cells #[.pointer (some ⟨w.heap.size + 1, 0, none⟩)] 99)) := (Below.refl _ _).alloc (Nat.le_refl _) _
  exact ⟨w1.heap.size, w.heap.size + 1, w.heap.size, rfl, ⟨heap_alloc_new w1 _, hp.below hbA (Nat.le_refl _)⟩, ⟨hb.size, by omega, by omega⟩, hb.trans (hbA.mono hb.size)⟩
set_option maxRecDepth 100000 in
set_option maxHeartbeats 4000000 in
theorem cUpload_any (l : List En) (ae : Option Addr) (ce : Nat) (tries batch : Int) (L : List Int) (a : Option Addr) (c : Nat) (st : List (List UInt8 × List UInt8)) (sb pb um n : Nat) (room : Int) (w : World) (hg : GlobOk w)
    (hl : l.length ≤ maxLen) (hle : LiesE w ae l) (hf : TFit l) (h : CS w sb pb um n room st) (hi : IntsAt w a L) (hin : ∀ b o, a = some ⟨b, o, none⟩ → L ≠ [] → b ≠ pb ∧ b ≠ um) (hL : L.length ≤ maxLen)
    (hn : n ≤ 90000000000) (hsum : sumP st ≤ 1000000000000) (hr0 : 0 ≤ room) (hr : room ≤ 100000) :
    Calls Tryz.prog 27 #[.pointer (some ⟨sb, 0, none⟩), .slice ae l.length ce, planV tries batch a L.length c] w fun e w' => UpEnd room l tries batch L st pb um n w e w' := by
  have hlt := h.lt
  have hbA : Below w.heap.size w ((w.alloc (.cells #[.int .i64 tries, .int .i64 batch, .slice a L.length c] 57)).alloc (.cells #[.int .i64 0, .int .i64 0, .int .i64 0] 52)) := ((Below.refl _ _).alloc (Nat.le_refl _) _).alloc (by simp) _
  have hs5 : ((w.alloc (.cells #[.int .i64 tries, .int .i64 batch, .slice a L.length c] 57)).alloc (.cells #[.int .i64 0, .int .i64 0, .int .i64 0] 52)).heap[w.heap.size]? = some (.cells #[.int .i64 tries, .int .i64 batch, .slice a L.length c] 57 (0, 0)) := (Below.heap_alloc _ _ _ (by simp)).trans (heap_alloc_new w _)
  have hs7 : ((w.alloc (.cells #[.int .i64 tries, .int .i64 batch, .slice a L.length c] 57)).alloc (.cells #[.int .i64 0, .int .i64 0, .int .i64 0] 52)).heap[w.heap.size + 1]? = some (.cells #[.int .i64 0, .int .i64 0, .int .i64 0] 52 (0, 0)) := by
    have := heap_alloc_new (w.alloc (.cells #[.int .i64 tries, .int .i64 batch, .slice a L.length c] 57)) (.cells #[.int .i64 0, .int .i64 0, .int .i64 0] 52)
    rw [show (w.alloc (.cells #[.int .i64 tries, .int .i64 batch, .slice a L.length c] 57)).heap.size = w.heap.size + 1 by simp] at this
    exact this
  obtain ⟨W1, hW1⟩ : ∃ W1, (w.alloc (.cells #[.int .i64 tries, .int .i64 batch, .slice a L.length c] 57)).alloc (.cells #[.int .i64 0, .int .i64 0, .int .i64 0] 52) = W1 := ⟨_, rfl⟩
  rw [hW1] at hbA hs5 hs7
  have hb1 : Below w.heap.size w W1.drew := ⟨hbA.os, hbA.tape, hbA.output, hbA.size, hbA.block⟩
  have hup := upTree_any l ae ce tries batch L a c st pb um n room W1.drew (hg.below hb1 (Nat.le_refl _)) hl (hle.below hb1 (Nat.le_refl _)) hf (h.p.below hb1 (Nat.le_refl _)) (hi.below hb1 (Nat.le_refl _)) hin hL hn hsum hr0 hr
  have hs0 := (hbA.block sb hlt.1).trans h.c
  have s0 := cell_of_block (j := 0) hs0
  have p0 := cell_of_block (j := 0) hs5
  have p1 := cell_of_block (j := 1) hs5
  have p2 := cell_of_block (j := 2) hs5
  simp only [List.getElem?_toArray, List.getElem?_cons_zero, List.getElem?_cons_succ] at s0 p0 p1 p2
  have hl7 := (Array.getElem?_eq_some_iff.1 hs7).1
  unfold planV at hup ⊢
  unfold UpEnd sentV at hup
  have Hup := hide hup
  have Hend := hide (show ∀ e w', (e = .returned (.tuple #[.string (bs (upP room l tries batch L st).1), sentV (upP room l tries batch L st).2.1, .int .i64 (upP room l tries batch L st).2.2.1]) ∧
    (∃ n', n' ≤ n + 100000 ∧ PStore w' pb um n' room (upP room l tries batch L st).2.2.2) ∧ sumP (upP room l tries batch L st).2.2.2 ≤ 1000000000000 ∧ Fr (fun x => x = pb ∨ x = um) w w') → UpEnd room l tries batch L st pb um n w e w' from fun _ _ h => h)
  clear hup h hle hi hin hs5 hg
  generalize upP room l tries batch L st = u at *
  obtain ⟨u1, ⟨q1, q2, q3⟩, u3, u4⟩ := u
  simp only at Hup
  go_enter Tryz.func27, Tryz.ntmps27
  go_wp2_with fail
  go_region_with ((go_at_call 55; refine (unhide Hup).mono ?_; rintro e W2 ⟨rfl, ⟨n2, hn2, hp2⟩, hs2, hf2⟩; have hs72 := (Fr.block hf2 (w.heap.size + 1) hl7 (by omega)).trans hs7; have c0 := cell_of_block (j := 0) hs72; have c1 := cell_of_block (j := 1) hs72; have c2 := cell_of_block (j := 2) hs72; have f0 := free_block (j := 0) hs72; have f1 := free_block (j := 1) hs72; have f2 := free_block (j := 2) hs72; simp only [List.getElem?_toArray, List.getElem?_cons_zero, List.getElem?_cons_succ] at c0 c1 c2))
  all_goals
    have hfw2 : Fr (fun x => x = pb ∨ x = um) w W2 := Fr.widen hb1 hf2 (fun x _ h => h)
    have HP := hide (And.intro hp2 (And.intro hs2 hfw2))
    clear hp2 hs2 hfw2 hf2 hs72 hs7 Hup hW1 s0 p0 p1 p2 hs0 hb1 hbA
    go_wp2_with fail
    refine bodyPost_ret (v := .tuple #[.string (bs u1), .agg #[.int .i64 (q1 : Int), .int .i64 (q2 : Int), .int .i64 (q3 : Int)], .int .i64 u3]) ?qr rfl ?_
    case qr => simp [results, Tryz.results27, go_sem, c0, c1, c2]
    obtain ⟨hp5, hs5, hfw5⟩ := unhide HP
    have hF := ((hfw5.setNew (w.heap.size + 1) 0 (.int .i64 (q1 : Int)) (by omega)).setNew (w.heap.size + 1) 1 (.int .i64 (q2 : Int)) (by omega)).setNew (w.heap.size + 1) 2 (.int .i64 (q3 : Int)) (by omega)
    refine unhide Hend _ _ ⟨rfl, ⟨n2, hn2, ?_⟩, hs5, hF⟩
    refine hp5.same (fun b hb => ?_)
    have hbl : b < w.heap.size := by rcases hb with rfl | rfl <;> omega
    rw [Below.heap_setCell _ _ _ _ (by simp; omega), Below.heap_setCell _ _ _ _ (by simp; omega), Below.heap_setCell _ _ _ _ (by simp; omega)]
end Go.Proofs.YtjmacegibchplaaGreatDoor
