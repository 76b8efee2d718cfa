import Derived.Test.YtjmacegibchplaaGreatDoorStoA
/-
  The program's store: Put, Get, Plant.
-/
namespace Go.Proofs.YtjmacegibchplaaGreatDoor
open Go.RowKit Go.Maps Go.WideMaps
set_option linter.unusedVariables false
theorem tdig (b : List UInt8) (w : World) (hb : b.length ≤ 10000000) :
    Calls Tryz.prog 51 #[.string (bs b)] w fun e w' => e = .returned (.string (bs (P.digest b))) ∧ Below w.heap.size w w' := by
  have h := textDigest_any (bs b) w (by rw [bs_size]; unfold maxLen; omega)
  rw [bs_data] at h
  exact h
theorem fr_refl (S : Nat → Prop) (w : World) : Fr S w w := ⟨rfl, rfl, rfl, Nat.le_refl _, fun _ _ _ => rfl⟩
theorem fr_drewN (S : Nat → Prop) (w : World) (n : Nat) : Fr S w (w.drewN n) := ⟨rfl, rfl, rfl, Nat.le_refl _, fun _ _ _ => rfl⟩
set_option maxRecDepth 100000 in
set_option maxHeartbeats 600000 in
theorem put_any (st : List (List UInt8 × List UInt8)) (pb um n : Nat) (room : Int) (b : List UInt8) (w : World) (h : PStore w pb um n room st) (hb : b.length ≤ 10000000) (hn : n < maxLen) (hsum : sumP st ≤ 1000000000000) (hr0 : 0 ≤ room) (hr : room ≤ 100000) :
    Calls Tryz.prog 60 #[.pointer (some ⟨pb, 0, none⟩), .string (bs b)] w fun e w' => e = .returned (.int .i64 (putP room st b).1) ∧ PStore w' pb um (n + 1) room (putP room st b).2 ∧ Fr (fun x => x = pb ∨ x = um) w w' := by
  have hdg := tdig b w hb
  have hdl : (P.digest b).length ≤ maxLen := by rw [digest_len]; decide
  have hdl2 : (P.digest b).length ≤ 10000000 := by rw [digest_len]; decide
  have hhas := fun w' (hp : PStore w' pb um n room st) => has_any st pb um n room (P.digest b) w' hp hdl
  have hlay := fun w' (hp : PStore w' pb um n room st) => lay_any st pb um n room (P.digest b) b w' hp hdl2 hb hn hsum
  have Hput := hide (show putP room st b = if (atP st (P.digest b)).isSome then (0, st) else if room < (b.length : Int) + (sumP st : Int) then (6, st) else (0, st ++ [(P.digest b, b)]) from rfl)
  have hbz := bs_size b
  have Hp := hide h
  have Hhas := hide hhas
  have Hlay := hide hlay
  clear h hhas hlay hdl hdl2
  generalize hD : P.digest b = D at *
  clear hD
  go_enter Tryz.func60, Tryz.ntmps60
  go_wp2_with fail
  refine hdg.mono ?_
  rintro e w1 ⟨rfl, hb1⟩
  have hp1 := (unhide Hp).below hb1 (Nat.le_refl _)
  have hF1 : Fr (fun x => x = pb ∨ x = um) w w1 := Fr.below hb1
  clear hb1 hdg Hp
  go_wp2_with fail
  refine (unhide Hhas w1 hp1).mono ?_
  rintro e w2 ⟨rfl, hb2⟩
  have hp2 := hp1.below hb2 (Nat.le_refl _)
  have hF2 : Fr (fun x => x = pb ∨ x = um) w w2 := hF1.trans (Fr.below hb2)
  clear hb2 hF1 hp1 Hhas
  cases ha : (atP st D).isSome with
  | true =>
    have Hr := hide (show putP room st b = (0, st) by rw [unhide Hput, ha]; rfl)
    go_wp2_with fail
    go_ret
    refine ⟨ret_int (by rw [unhide Hr]), ?_, hF2⟩
    rw [unhide Hr]
    exact hp2.more (Nat.le_succ _)
  | false =>
    have c0 := hp2.c0
    have c1 := hp2.c1
    have hno : atP st D = none := by simpa using ha
    have hwr : IntKind.i64.wrap ((sumP st : Int) + (b.length : Int)) = (sumP st : Int) + (b.length : Int) := by rw [IntKind.wrap_i64]; omega
    have Hp2 := hide hp2
    have Hno := hide hno
    clear hp2 hno
    by_cases hroom : room < (b.length : Int) + (sumP st : Int)
    · have hW : P.within ((sumP st : Int) + (b.length : Int)) 0 room = false := by unfold P.within; simp; omega
      have Hr := hide (show putP room st b = (6, st) by rw [unhide Hput, ha, if_neg (by simp), if_pos hroom])
      clear hroom ha Hput hwr
      generalize sumP st = sm at *
      go_wp2_with fail
      go_quiet ((go_at_call 86; exact Calls.quiet_of_same (within_any _ _ _ _ hr0)))
      go_wp2_with fail
      go_ret
      refine ⟨ret_int (by rw [unhide Hr]), ?_, hF2.trans (fr_drewN _ _ _)⟩
      rw [unhide Hr]
      exact (show PStore (w2.drewN nq) pb um n room st from (unhide Hp2).same (fun _ _ => rfl)).more (Nat.le_succ _)
    · have hW : P.within ((sumP st : Int) + (b.length : Int)) 0 room = true := by unfold P.within; simp; omega
      have Hr := hide (show putP room st b = (0, st ++ [(D, b)]) by rw [unhide Hput, ha, if_neg (by simp), if_neg hroom])
      have hs1 : sumP st ≤ 100000 := by omega
      clear hroom ha Hput hwr
      generalize sumP st = sm at *
      go_wp2_with fail
      go_quiet ((go_at_call 86; exact Calls.quiet_of_same (within_any _ _ _ _ hr0)))
      go_wp2_with fail
      refine (unhide Hlay _ (show PStore (w2.drewN nq) pb um n room st from (unhide Hp2).same (fun _ _ => rfl)) (unhide Hno)).mono ?_
      rintro e w3 ⟨rfl, hp3, hf3⟩
      have hF3 := (hF2.trans (fr_drewN _ _ nq)).trans hf3
      clear hf3
      go_wp2_with fail
      go_ret
      refine ⟨ret_int (by rw [unhide Hr]), ?_, hF3⟩
      rw [unhide Hr]
      exact hp3
set_option maxRecDepth 100000 in
set_option maxHeartbeats 600000 in
theorem get_any (st : List (List UInt8 × List UInt8)) (pb um n : Nat) (room : Int) (d : List UInt8) (w : World) (h : PStore w pb um n room st) (hd : d.length ≤ maxLen) (hsz : ∀ b, atP st d = some b → b.length ≤ 10000000) :
    Calls Tryz.prog 159 #[.pointer (some ⟨pb, 0, none⟩), .string (bs d)] w fun e w' => e = .returned (.tuple #[.string (bs (getB st d)), .int .i64 (getE st d)]) ∧ Below w.heap.size w w' := by
  have hhas := has_any st pb um n room d w h hd
  cases ha : atP st d with
  | none =>
    have h1 : getB st d = [] := by unfold getB; rw [ha]; rfl
    have h2 : getE st d = 7 := by unfold getE; rw [ha]; rfl
    rw [ha] at hhas
    rw [h1, h2]
    clear ha h1 h2 hsz
    go_enter Tryz.func159, Tryz.ntmps159
    go_wp2_with fail
    refine hhas.mono ?_
    rintro e w1 ⟨rfl, hb1⟩
    go_wp2_with fail
    go_ret2
    exact ⟨rfl, hb1⟩
  | some b =>
    have h1 : getB st d = b := by unfold getB; rw [ha]; rfl
    have h2 : getE st d = 0 := by unfold getE; rw [ha]; rfl
    have hF : storeF st d = some (.agg #[.string (bs b)]) := by unfold storeF; rw [ha]; rfl
    have hcl := fun w' => clone3 b w' (hsz b ha)
    have hfd := field_sblob
    rw [ha] at hhas
    rw [h1, h2]
    have Hp := hide h
    clear ha h1 h2 hsz h
    go_enter Tryz.func159, Tryz.ntmps159
    go_wp2_with fail
    refine hhas.mono ?_
    rintro e w1 ⟨rfl, hb1⟩
    have hp1 := (unhide Hp).below hb1 (Nat.le_refl _)
    have c2 := hp1.c2
    have hm1 := hp1.m
    clear hhas hp1
    go_wp2_with (at_lookup; refine wp_look rfl _ _ 126 rfl 190 under126 (.agg #[.string ⟨#[]⟩]) (zero_sblob _) um n (storeF st) rfl hm1 d rfl hd ?_; rw [hF]; simp only [Option.getD_some])
    refine (hcl _).mono ?_
    rintro e w2 ⟨rfl, hb2⟩
    have hbb := hb1.trans (hb2.mono hb1.size)
    clear hb2 hb1 hm1
    go_wp2_with fail
    go_ret2
    exact ⟨rfl, hbb⟩
end Go.Proofs.YtjmacegibchplaaGreatDoor

/-
  The document's store: what is missing.
-/
namespace Go.Proofs.YtjmacegibchplaaGreatDoor
open Go.RowKit
set_option linter.unusedVariables false
theorem RStore.below {B : Nat} {w w' : World} {pb : Nat} {room : Int} {st : List (List UInt8 × List UInt8)} (h : RStore w pb room st) (hb : Below B w w') (hB : w.heap.size ≤ B) : RStore w' pb room st := by
  obtain ⟨f0, a1, c1, a2, c2, f1, f2, t1, t2⟩ := h
  have hl : pb < B := Nat.lt_of_lt_of_le (block_lt f0) hB
  exact ⟨(hb.cell (p := ⟨pb, _, none⟩) hl).trans f0, a1, c1, a2, c2, (hb.cell (p := ⟨pb, _, none⟩) hl).trans f1, (hb.cell (p := ⟨pb, _, none⟩) hl).trans f2, t1.below hb hB, t2.below hb hB⟩
def thereP (st : List (List UInt8 × List UInt8)) (l : List (List UInt8)) (i : Nat) : Bool := (atP st (l.getD i [])).isSome || (l.take i).any (· == l.getD i [])
def missTo (st : List (List UInt8 × List UInt8)) (l : List (List UInt8)) (k : Nat) : List (List UInt8) := ((List.range k).filter (fun i => !thereP st l i)).map (fun i => l.getD i [])
theorem missTo_succ (st : List (List UInt8 × List UInt8)) (l : List (List UInt8)) (k : Nat) : missTo st l (k + 1) = missTo st l k ++ (if thereP st l k = true then [] else [l.getD k []]) := by
  unfold missTo
  rw [List.range_succ, List.filter_append, List.map_append]
  congr 1
  cases h : thereP st l k <;> simp [h]
theorem missTo_len (st : List (List UInt8 × List UInt8)) (l : List (List UInt8)) (k : Nat) : (missTo st l k).length ≤ k := by
  unfold missTo
  rw [List.length_map]
  have := List.length_filter_le (fun i => !thereP st l i) (List.range k)
  simpa using this
end Go.Proofs.YtjmacegibchplaaGreatDoor

/-
  The program's store: Missing.
-/
namespace Go.Proofs.YtjmacegibchplaaGreatDoor
open Go.RowKit Go.Maps Go.WideMaps
set_option linter.unusedVariables false
theorem miss_mem (st : List (List UInt8 × List UInt8)) (l : List (List UInt8)) : ∀ (k : Nat), k ≤ l.length → ∀ x, x ∈ missTo st l k ↔ (atP st x).isSome = false ∧ x ∈ l.take k
  | 0, _, x => by simp [missTo]
  | k + 1, hk, x => by
    have ih := miss_mem st l k (by omega) x
    have hg : l.getD k [] = l[k] := by rw [List.getD_eq_getElem?_getD, List.getElem?_eq_getElem (by omega)]; rfl
    rw [missTo_succ, List.mem_append, ih, List.take_succ_eq_append_getElem (by omega), List.mem_append]
    have hth : thereP st l k = ((atP st (l.getD k [])).isSome || (l.take k).any (· == l.getD k [])) := rfl
    rw [hg] at hth ⊢
    by_cases ht : thereP st l k = true
    · rw [if_pos ht]
      rw [ht] at hth
      have h2 : (atP st l[k]).isSome = true ∨ l[k] ∈ l.take k := by
        have := hth.symm
        simp only [Bool.or_eq_true, List.any_eq_true] at this
        rcases this with h | ⟨y, hy, he⟩
        · exact .inl h
        · exact .inr (by have : y = l[k] := by simpa using he
                         rw [← this]; exact hy)
      constructor
      · rintro (h | h)
        · exact ⟨h.1, .inl h.2⟩
        · simp at h
      · rintro ⟨h1, h | h⟩
        · exact .inl ⟨h1, h⟩
        · have hx : x = l[k] := by simpa using h
          rcases h2 with h2 | h2
          · rw [hx, h2] at h1; simp at h1
          · exact .inl ⟨h1, by rw [hx]; exact h2⟩
    · rw [if_neg ht]
      have hf : thereP st l k = false := by simpa using ht
      rw [hf] at hth
      have h2 : (atP st l[k]).isSome = false := by
        have := hth.symm
        simp only [Bool.or_eq_false_iff] at this
        exact this.1
      constructor
      · rintro (h | h)
        · exact ⟨h.1, .inl h.2⟩
        · have hx : x = l[k] := by simpa using h
          exact ⟨by rw [hx]; exact h2, .inr h⟩
      · rintro ⟨h1, h | h⟩
        · exact .inl ⟨h1, h⟩
        · exact .inr h
def toldF (st : List (List UInt8 × List UInt8)) (l : List (List UInt8)) (k : Nat) : List UInt8 → Option Value := fun x => if x ∈ missTo st l k then some (.int .i64 1) else none
theorem told_there (st : List (List UInt8 × List UInt8)) (l : List (List UInt8)) (k : Nat) (hk : k < l.length) (hs : (atP st l[k]).isSome = false) : thereP st l k = decide (l[k] ∈ missTo st l k) := by
  have hg : l.getD k [] = l[k] := by rw [List.getD_eq_getElem?_getD, List.getElem?_eq_getElem hk]; rfl
  have hth : thereP st l k = ((atP st (l.getD k [])).isSome || (l.take k).any (· == l.getD k [])) := rfl
  rw [hth, hg, hs, Bool.false_or, Bool.eq_iff_iff, decide_eq_true_eq, miss_mem st l k (by omega), List.any_eq_true]
  constructor
  · rintro ⟨y, hy, he⟩
    have : y = l[k] := by simpa using he
    exact ⟨hs, by rw [← this]; exact hy⟩
  · rintro ⟨_, h⟩
    exact ⟨_, h, by simp⟩
theorem told_upd (st : List (List UInt8 × List UInt8)) (l : List (List UInt8)) (k : Nat) (hk : k < l.length) (hs : thereP st l k = false) : updF (toldF st l k) l[k] (.int .i64 1) = toldF st l (k + 1) := by
  have hg : l.getD k [] = l[k] := by rw [List.getD_eq_getElem?_getD, List.getElem?_eq_getElem hk]; rfl
  funext x
  unfold updF toldF
  rw [missTo_succ, hs, hg]
  by_cases h : x = l[k]
  · simp [h]
  · simp [h]
theorem told_same (st : List (List UInt8 × List UInt8)) (l : List (List UInt8)) (k : Nat) (hs : thereP st l k = true) : toldF st l k = toldF st l (k + 1) := by
  funext x
  unfold toldF
  rw [missTo_succ, hs]
  simp
theorem under144 : Tryz.prog.underlying 144 = some (.map 9 3) := by kernel_rfl
set_option maxRecDepth 100000 in
set_option maxHeartbeats 2000000 in
theorem missing_any (st : List (List UInt8 × List UInt8)) (pb um n : Nat) (room : Int) (l : List (List UInt8)) (a : Option Addr) (c : Nat) (w : World) (h : PStore w pb um n room st) (hl : l.length ≤ 1100000) (ht : TextsAt w a l) (hx : ∀ x ∈ l, x.length ≤ 10000000) :
    Calls Tryz.prog 132 #[.pointer (some ⟨pb, 0, none⟩), .slice a l.length c] w fun e w' => ∃ v, e = .returned v ∧ OwnsS w' w.heap.size v (missTo st l l.length) ∧ Below w.heap.size w w' := by
  have Hh := hide h
  have hmm := @run_makeMap Tryz.prog
  have hT0 : toldF st l 0 = fun _ => none := by funext x; unfold toldF missTo; simp
  have hM0 := MapIs.made w
  rw [← hT0] at hM0
  have HM0 := hide hM0
  clear h hT0 hM0
  go_enter Tryz.func132, Tryz.ntmps132
  go_wp2_with fail
  go_loopw [5, 12] (fun v i wr => ∃ k : Nat, k ≤ l.length ∧ i = .int .i64 k ∧ OwnsS wr w.heap.size v (missTo st l k) ∧ MapIs wr w.heap.size k (toldF st l k) ∧ Below w.heap.size w wr) (fun _ i _ => l.length - (intOf i).toNat)
  case atStart => exact ⟨0, by omega, rfl, World.ownsRow_nil _ _ _ _, unhide HM0, (Below.refl _ _).alloc (Nat.le_refl _) _⟩
  case round =>
    obtain ⟨k, hk, rfl, hown, hmap, hbel⟩ := hrel
    clear HM0
    by_cases hlt : k < l.length
    · obtain ⟨b, o, rfl, hct⟩ : ∃ b o, a = some ⟨b, o, none⟩ ∧ ∀ i (h : i < l.length), w.cell? ⟨b, o + i, none⟩ = some (strVal l[i]) := by
        rcases ht with h | h
        · subst h; simp at hlt
        · exact h
      have ck : wr.cell? ⟨b, o + k, none⟩ = some (strVal l[k]) := (hbel.cell (p := ⟨b, _, none⟩) (block_lt (hct k hlt))).trans (hct k hlt)
      unfold strVal at ck
      have q1 : (k : Int) < (l.length : Int) := by omega
      have hrs : PStore wr pb um n room st := (unhide Hh).below hbel (Nat.le_refl _)
      have hxl : l[k].length ≤ 10000000 := hx _ (List.getElem_mem hlt)
      have hxm : l[k].length ≤ maxLen := by unfold maxLen; omega
      have hhas := has_any st pb um n room l[k] wr hrs hxm
      have hcl := fun w' => clone3 l[k] w' hxl
      have Hsu := hide (missTo_succ st l k)
      have Hth := hide (told_there st l k hlt)
      have Hup := hide (told_upd st l k hlt)
      have Hsa := hide (told_same st l k)
      have Htl := hide (show toldF st l k l[k] = if l[k] ∈ missTo st l k then some (.int .i64 1) else none from rfl)
      have Hts := hide (show thereP st l k = ((atP st (l.getD k [])).isSome || (l.take k).any (· == l.getD k [])) from rfl)
      rw [show l.getD k [] = l[k] by rw [List.getD_eq_getElem?_getD, List.getElem?_eq_getElem hlt]; rfl] at Hsu Hts
      have hml := missTo_len st l k
      clear hct ht hrs
      generalize l[k] = x at *
      have hbs := hbel.size
      go_wp2_with fail
      refine hhas.mono ?_
      rintro e w2 ⟨rfl, hb2⟩
      have hown2 : OwnsS w2 w.heap.size u5 (missTo st l k) := ownsRow_same hown (fun g hg => hb2.block g (own_lt hown hg))
      have hmap2 : MapIs w2 w.heap.size k (toldF st l k) := hmap.same (hb2.block _ hmap.lt)
      have hbel2 : Below w.heap.size w w2 := hbel.trans (hb2.mono hbs)
      clear hb2 hown hmap hbel hhas
      generalize hTT : (atP st x).isSome = T at *
      cases T with
      | true =>
        have hV : thereP st l k = true := by rw [unhide Hts]; rfl
        have Hs2 := hide (show missTo st l (k + 1) = missTo st l k by rw [unhide Hsu, hV]; simp)
        have Hs3 := hide (unhide Hsa hV)
        go_wp2_with fail
        go_roundw
        case rel => exact ⟨k + 1, by omega, by go_num, by rw [unhide Hs2]; exact hown2, by rw [← unhide Hs3]; exact hmap2.more (Nat.le_succ _), hbel2⟩
        case measure => simp [intOf]; omega
      | false =>
        have hV := unhide Hth rfl
        by_cases hmem : x ∈ missTo st l k
        · have hV2 : thereP st l k = true := by rw [hV]; simpa using hmem
          have hF : toldF st l k x = some (.int .i64 1) := by rw [unhide Htl, if_pos hmem]
          have Hs2 := hide (show missTo st l (k + 1) = missTo st l k by rw [unhide Hsu, hV2]; simp)
          have Hs3 := hide (unhide Hsa hV2)
          clear hV hV2 hmem
          have hlk2 := hmap2.look 144 3 under144 (.int .i64 0) (zero_int _) x hxm
          rw [hF, Option.getD_some] at hlk2
          go_wp2_with fail
          go_roundw
          case rel => exact ⟨k + 1, by omega, by go_num, by rw [unhide Hs2]; exact hown2, by rw [← unhide Hs3]; exact hmap2.more (Nat.le_succ _), hbel2⟩
          case measure => simp [intOf]; omega
        · have hV2 : thereP st l k = false := by rw [hV]; simpa using hmem
          have hF : toldF st l k x = none := by rw [unhide Htl, if_neg hmem]
          have Hs2 := hide (show missTo st l (k + 1) = missTo st l k ++ [x] by rw [unhide Hsu, hV2]; simp)
          obtain ⟨w5, hrun5, hm5, hg5⟩ := MapIs.store hmap2 144 3 under144 (by unfold maxLen; omega) x hxm (.int .i64 1)
          rw [unhide Hup hV2] at hm5
          have hlm := hmap2.lt
          have hown5 : OwnsS w5 w.heap.size u5 (missTo st l k) := ownsRow_same hown2 (fun g hg => hg5.block g (own_lt hown2 hg) (fun e => map_not_row hmap2 hown2 (by rw [hg, e])))
          have hbel5 : Below w.heap.size w w5 := hbel2.grown hg5 hbel2.size (fun q hq => by cases hq; exact Nat.le_refl _)
          clear hV hV2 hmem hg5
          have hlk2 := hmap2.look 144 3 under144 (.int .i64 0) (zero_int _) x hxm
          rw [hF, Option.getD_none] at hlk2
          go_wp2_with fail
          refine (hcl _).mono ?_
          rintro e w6 ⟨rfl, hb6⟩
          have hown6 : OwnsS w6 w.heap.size u5 (missTo st l k) := ownsRow_same hown5 (fun g hg => hb6.block g (own_lt hown5 hg))
          have hm6 : MapIs w6 w.heap.size (k + 1) (toldF st l (k + 1)) := hm5.same (hb6.block _ hm5.lt)
          have hbel6 : Below w.heap.size w w6 := hbel5.trans (hb6.mono hbel5.size)
          have hne6 := map_not_row hm6 hown6
          have hlm6 := hm6.lt
          clear hown5 hm5 hbel5 hb6 hown2 hmap2 hrun5 hcl
          have hb8 := hbel6.size
          generalize missTo st l k = done at *
          go_wp2_with (at_builtin; refine app_text rfl (.tmp 29) (.tmp 32) rfl w.heap.size _ done rfl (hown6.alloc _) ⟨w6.heap.size, 0, none⟩ x rfl ?qa ?qb ?qc ?_)
          case qa => first | rfl | (rw [add_off0]; simp [strVal])
          case qb => omega
          case qc => first | omega | (simp; omega)
          intro v4 w4 ho4 g4
          have hb4 : Below w.heap.size w w4 := (hbel6.alloc hbel6.size _).grown g4 (by simp; omega) (fun k hk => (World.ownsRow.lt hown6 k hk).1)
          have hm4 : MapIs w4 w.heap.size (k + 1) (toldF st l (k + 1)) := (hm6.alloc _).same (g4.block _ (by simp; omega) (by first | exact hne6 | simpa using hne6))
          clear g4
          go_wp2_with fail
          go_roundw
          case rel => exact ⟨k + 1, by omega, by go_num, by rw [unhide Hs2]; exact ho4, hm4, hb4⟩
          case measure => simp [intOf]; omega
    · obtain rfl : k = l.length := by omega
      go_wp2_with fail
      go_ret
      exact ⟨_, rfl, hown, hbel⟩
end Go.Proofs.YtjmacegibchplaaGreatDoor
