import Derived.Test.YtjmacegibchplaaGreatDoorPrC
/-
  The document's store: what is missing.
-/
namespace Go.Proofs.YtjmacegibchplaaGreatDoor
open Go.RowKit
set_option linter.unusedVariables false
theorem RStore.below {B : Nat} {w w' : World} {pb : Nat} {room : Int} {st : List (List UInt8 × List UInt8)} (h : RStore w pb room st) (hb : Below B w w') (hB : w.heap.size ≤ B) : RStore w' pb room st := by
  obtain ⟨f0, a1, c1, a2, c2, f1, f2, t1, t2⟩ := h
  have hl : pb < B := Nat.lt_of_lt_of_le (block_lt f0) hB
  exact ⟨(hb.cell (p := ⟨pb, _, none⟩) hl).trans f0, a1, c1, a2, c2, (hb.cell (p := ⟨pb, _, none⟩) hl).trans f1, (hb.cell (p := ⟨pb, _, none⟩) hl).trans f2, t1.below hb hB, t2.below hb hB⟩
def thereP (st : List (List UInt8 × List UInt8)) (l : List (List UInt8)) (i : Nat) : Bool := (atP st (l.getD i [])).isSome || (l.take i).any (· == l.getD i [])
def missTo (st : List (List UInt8 × List UInt8)) (l : List (List UInt8)) (k : Nat) : List (List UInt8) := ((List.range k).filter (fun i => !thereP st l i)).map (fun i => l.getD i [])
theorem missTo_succ (st : List (List UInt8 × List UInt8)) (l : List (List UInt8)) (k : Nat) : missTo st l (k + 1) = missTo st l k ++ (if thereP st l k = true then [] else [l.getD k []]) := by
  unfold missTo
  rw [List.range_succ, List.filter_append, List.map_append]
  congr 1
  cases h : thereP st l k <;> simp [h]
theorem missTo_len (st : List (List UInt8 × List UInt8)) (l : List (List UInt8)) (k : Nat) : (missTo st l k).length ≤ k := by
  unfold missTo
  rw [List.length_map]
  have := List.length_filter_le (fun i => !thereP st l i) (List.range k)
  simpa using this
set_option maxRecDepth 100000 in
set_option maxHeartbeats 2000000 in
theorem refMissing_any (st : List (List UInt8 × List UInt8)) (pb : Nat) (room : Int) (l : List (List UInt8)) (a : Option Addr) (c : Nat) (w : World) (hst : st.length ≤ maxLen) (h : RStore w pb room st) (hl : l.length ≤ 1100000) (ht : TextsAt w a l) :
    Calls Tryz.prog 163 #[.pointer (some ⟨pb, 0, none⟩), .slice a l.length c] w fun e w' => ∃ v, e = .returned v ∧ OwnsS w' w.heap.size v (missTo st l l.length) ∧ Below w.heap.size w w' := by
  have Hh := hide h
  clear h
  go_enter Tryz.func163, Tryz.ntmps163
  go_wp2_with fail
  go_loopw [5, 6] (fun v i wr => ∃ k : Nat, k ≤ l.length ∧ i = .int .i64 k ∧ OwnsS wr w.heap.size v (missTo st l k) ∧ Below w.heap.size w wr) (fun _ i _ => l.length - (intOf i).toNat)
  case atStart => exact ⟨0, by omega, rfl, World.ownsRow_nil _ _ _ _, Below.refl _ _⟩
  case round =>
    obtain ⟨k, hk, rfl, hown, hbel⟩ := hrel
    by_cases hlt : k < l.length
    · obtain ⟨b, o, rfl, hct⟩ : ∃ b o, a = some ⟨b, o, none⟩ ∧ ∀ i (h : i < l.length), w.cell? ⟨b, o + i, none⟩ = some (strVal l[i]) := by
        rcases ht with h | h
        · subst h; simp at hlt
        · exact h
      have hcw : ∀ i (h : i < l.length), wr.cell? ⟨b, o + i, none⟩ = some (strVal l[i]) := fun i h => (hbel.cell (p := ⟨b, _, none⟩) (block_lt (hct i h))).trans (hct i h)
      have Hcw := hide hcw
      have ck := hcw k hlt
      unfold strVal at ck
      have q1 : (k : Int) < (l.length : Int) := by omega
      have hrs : RStore wr pb room st := (unhide Hh).below hbel (Nat.le_refl _)
      have Hrs := hide hrs
      clear hcw hrs hct
      have hgk : l.getD k [] = l[k] := by rw [List.getD_eq_getElem?_getD, List.getElem?_eq_getElem hlt]; rfl
      have Hsu := hide (missTo_succ st l k)
      have Hth := hide (show thereP st l k = ((atP st (l.getD k [])).isSome || (l.take k).any (· == l.getD k [])) from rfl)
      rw [hgk] at Hsu Hth
      have hml := missTo_len st l k
      have Hgk := hide (show l[k] = l[k] from rfl)
      clear hgk Hgk
      generalize hxx : l[k] = x at *
      have Hxx := hide hxx
      clear hxx
      have hbs := hbel.size
      have hidx := atP_idx st x
      have hcase : ((atP st x).isSome = true ∧ 0 ≤ idxP st x) ∨ ((atP st x).isSome = false ∧ idxP st x = -1) := by
        rcases hidx with ⟨h1, h2⟩ | ⟨m, _, h1, h2⟩
        · exact .inr ⟨by rw [h2]; rfl, h1⟩
        · exact .inl ⟨by rw [h2]; rfl, by omega⟩
      clear hidx
      generalize hT : (atP st x).isSome = T at *
      have HT := hide hT
      clear hT
      go_wp2_with fail
      refine (refAt_any st pb room x _ hst (unhide Hrs)).mono ?_
      rintro e w1 ⟨rfl, hw1⟩
      subst hw1
      have hge : decide (0 ≤ idxP st x) = T := by
        rcases hcase with ⟨h1, h2⟩ | ⟨h1, h2⟩
        · rw [h1]; simpa using h2
        · rw [h1, h2]; rfl
      clear hcase
      generalize idxP st x = ix at *
      go_wp2_with fail
      have hownN : ∀ q, OwnsS (w1.drewN q) w.heap.size u5 (missTo st l k) := fun q => OwnsS.below hown (below_drewN (Below.refl _ _) q)
      have hbelN : ∀ q, Below w.heap.size w (w1.drewN q) := fun q => below_drewN hbel q
      have HownN := hide hownN
      have HbelN := hide hbelN
      clear hown hownN hbelN hbel
      go_loopw [7, 8] (fun tv jv wr => ∃ j : Nat, j ≤ k ∧ jv = .int .i64 j ∧ tv = .bool (T || (l.take j).any (· == x)) ∧ ∃ q, wr = w1.drewN q) (fun _ jv _ => k - (intOf jv).toNat)
      case atStart => exact ⟨0, by omega, rfl, by simp, 0, rfl⟩
      case round =>
        obtain ⟨j, hj, rfl, rfl, q, hwr⟩ := hrel
        subst hwr
        by_cases hjk : j < k
        · have hjl : j < l.length := by omega
          have cj := unhide Hcw j hjl
          unfold strVal at cj
          have Hat := hide (any_take_succ (· == x) l j hjl)
          have hE := str_eq2 l[j] x
          generalize l[j] = y at *
          have cj' : (w1.drewN q).cell? ⟨b, o + j, none⟩ = some (.string (bs y)) := cj
          have ck' : (w1.drewN q).cell? ⟨b, o + k, none⟩ = some (.string (bs x)) := ck
          have z1 : (j : Int) < (k : Int) := by omega
          have z2 : (j : Int) < (l.length : Int) := by omega
          clear cj ck
          generalize hw8 : w1.drewN q = w8 at *
          have Hw8 := hide hw8
          clear hw8
          generalize hA : (l.take j).any (· == x) = A at *
          clear hA
          generalize hY : (y == x) = Y at *
          clear hY
          cases hB : (T || A) with
          | true =>
            have Hv := hide (show (T || (l.take (j + 1)).any (· == x)) = true by rw [unhide Hat, ← Bool.or_assoc, hB]; rfl)
            clear hB
            go_wp2_with fail
            go_quiet (fail)
            go_wp2
            go_roundw
            case rel => exact ⟨j + 1, by omega, by go_num, by rw [unhide Hv], q + nq, by rw [← unhide Hw8, World.drewN_drewN]⟩
            case measure => simp [intOf]; omega
          | false =>
            have Hv := hide (show (T || (l.take (j + 1)).any (· == x)) = Y by rw [unhide Hat, ← Bool.or_assoc, hB]; rfl)
            clear hB
            go_wp2_with fail
            go_quiet (fail)
            go_wp2
            go_roundw
            case rel => exact ⟨j + 1, by omega, by go_num, by rw [unhide Hv], q + nq, by rw [← unhide Hw8, World.drewN_drewN]⟩
            case measure => simp [intOf]; omega
        · obtain rfl : j = k := by omega
          have hown2 := unhide HownN q
          have hbel2 := unhide HbelN q
          have ck' : (w1.drewN q).cell? ⟨b, o + j, none⟩ = some (.string (bs x)) := ck
          clear ck
          generalize w1.drewN q = w8 at *
          rw [← unhide Hth] at *
          generalize hV : thereP st l j = V at *
          clear hV
          cases V with
          | true =>
            have Hs2 := hide (show missTo st l (j + 1) = missTo st l j by rw [unhide Hsu]; simp)
            go_wp2_with fail
            go_roundw
            case rel => exact ⟨j + 1, by omega, by go_num, by rw [unhide Hs2]; exact hown2, hbel2⟩
            case measure => simp [intOf]; omega
          | false =>
            have Hs2 := hide (show missTo st l (j + 1) = missTo st l j ++ [x] by rw [unhide Hsu]; simp)
            have hb8 := hbel2.size
            generalize missTo st l j = done at *
            go_wp2_with (at_builtin; refine app_text rfl (.tmp 41) (.tmp 46) rfl w.heap.size _ done rfl (hown2.alloc _) ⟨w8.heap.size, 0, none⟩ x rfl ?qa ?qb ?qc ?_)
            case qa => first | rfl | (rw [add_off0]; simp [strVal])
            case qb => omega
            case qc => first | omega | (simp; omega)
            intro v4 w4 ho4 g4
            have hb4 : Below w.heap.size w w4 := (hbel2.alloc hbel2.size _).grown g4 (by simp; omega) (fun k hk => (World.ownsRow.lt hown2 k hk).1)
            clear g4
            go_wp2_with fail
            go_roundw
            case rel => exact ⟨j + 1, by omega, by go_num, by rw [unhide Hs2]; exact ho4, hb4⟩
            case measure => simp [intOf]; omega
    · obtain rfl : k = l.length := by omega
      go_wp2_with fail
      go_ret
      exact ⟨_, rfl, hown, hbel⟩
end Go.Proofs.YtjmacegibchplaaGreatDoor

/-
  The program's store: Missing.
-/
namespace Go.Proofs.YtjmacegibchplaaGreatDoor
open Go.RowKit Go.Maps Go.WideMaps
set_option linter.unusedVariables false
theorem miss_mem (st : List (List UInt8 × List UInt8)) (l : List (List UInt8)) : ∀ (k : Nat), k ≤ l.length → ∀ x, x ∈ missTo st l k ↔ (atP st x).isSome = false ∧ x ∈ l.take k
  | 0, _, x => by simp [missTo]
  | k + 1, hk, x => by
    have ih := miss_mem st l k (by omega) x
    have hg : l.getD k [] = l[k] := by rw [List.getD_eq_getElem?_getD, List.getElem?_eq_getElem (by omega)]; rfl
    rw [missTo_succ, List.mem_append, ih, List.take_succ_eq_append_getElem (by omega), List.mem_append]
    have hth : thereP st l k = ((atP st (l.getD k [])).isSome || (l.take k).any (· == l.getD k [])) := rfl
    rw [hg] at hth ⊢
    by_cases ht : thereP st l k = true
    · rw [if_pos ht]
      rw [ht] at hth
      have h2 : (atP st l[k]).isSome = true ∨ l[k] ∈ l.take k := by
        have := hth.symm
        simp only [Bool.or_eq_true, List.any_eq_true] at this
        rcases this with h | ⟨y, hy, he⟩
        · exact .inl h
        · exact .inr (by have : y = l[k] := by simpa using he
                         rw [← this]; exact hy)
      constructor
      · rintro (h | h)
        · exact ⟨h.1, .inl h.2⟩
        · simp at h
      · rintro ⟨h1, h | h⟩
        · exact .inl ⟨h1, h⟩
        · have hx : x = l[k] := by simpa using h
          rcases h2 with h2 | h2
          · rw [hx, h2] at h1; simp at h1
          · exact .inl ⟨h1, by rw [hx]; exact h2⟩
    · rw [if_neg ht]
      have hf : thereP st l k = false := by simpa using ht
      rw [hf] at hth
      have h2 : (atP st l[k]).isSome = false := by
        have := hth.symm
        simp only [Bool.or_eq_false_iff] at this
        exact this.1
      constructor
      · rintro (h | h)
        · exact ⟨h.1, .inl h.2⟩
        · have hx : x = l[k] := by simpa using h
          exact ⟨by rw [hx]; exact h2, .inr h⟩
      · rintro ⟨h1, h | h⟩
        · exact .inl ⟨h1, h⟩
        · exact .inr h
def toldF (st : List (List UInt8 × List UInt8)) (l : List (List UInt8)) (k : Nat) : List UInt8 → Option Value := fun x => if x ∈ missTo st l k then some (.int .i64 1) else none
theorem told_there (st : List (List UInt8 × List UInt8)) (l : List (List UInt8)) (k : Nat) (hk : k < l.length) (hs : (atP st l[k]).isSome = false) : thereP st l k = decide (l[k] ∈ missTo st l k) := by
  have hg : l.getD k [] = l[k] := by rw [List.getD_eq_getElem?_getD, List.getElem?_eq_getElem hk]; rfl
  have hth : thereP st l k = ((atP st (l.getD k [])).isSome || (l.take k).any (· == l.getD k [])) := rfl
  rw [hth, hg, hs, Bool.false_or, Bool.eq_iff_iff, decide_eq_true_eq, miss_mem st l k (by omega), List.any_eq_true]
  constructor
  · rintro ⟨y, hy, he⟩
    have : y = l[k] := by simpa using he
    exact ⟨hs, by rw [← this]; exact hy⟩
  · rintro ⟨_, h⟩
    exact ⟨_, h, by simp⟩
theorem told_upd (st : List (List UInt8 × List UInt8)) (l : List (List UInt8)) (k : Nat) (hk : k < l.length) (hs : thereP st l k = false) : updF (toldF st l k) l[k] (.int .i64 1) = toldF st l (k + 1) := by
  have hg : l.getD k [] = l[k] := by rw [List.getD_eq_getElem?_getD, List.getElem?_eq_getElem hk]; rfl
  funext x
  unfold updF toldF
  rw [missTo_succ, hs, hg]
  by_cases h : x = l[k]
  · simp [h]
  · simp [h]
theorem told_same (st : List (List UInt8 × List UInt8)) (l : List (List UInt8)) (k : Nat) (hs : thereP st l k = true) : toldF st l k = toldF st l (k + 1) := by
  funext x
  unfold toldF
  rw [missTo_succ, hs]
  simp
theorem under144 : Tryz.prog.underlying 144 = some (.map 9 3) := by kernel_rfl
set_option maxRecDepth 100000 in
set_option maxHeartbeats 2000000 in
theorem missing_any (st : List (List UInt8 × List UInt8)) (pb um n : Nat) (room : Int) (l : List (List UInt8)) (a : Option Addr) (c : Nat) (w : World) (h : PStore w pb um n room st) (hl : l.length ≤ 1100000) (ht : TextsAt w a l) (hx : ∀ x ∈ l, x.length ≤ 10000000) :
    Calls Tryz.prog 132 #[.pointer (some ⟨pb, 0, none⟩), .slice a l.length c] w fun e w' => ∃ v, e = .returned v ∧ OwnsS w' w.heap.size v (missTo st l l.length) ∧ Below w.heap.size w w' := by
  have Hh := hide h
  have hmm := @run_makeMap Tryz.prog
  have hT0 : toldF st l 0 = fun _ => none := by funext x; unfold toldF missTo; simp
  have hM0 := MapIs.made w
  rw [← hT0] at hM0
  have HM0 := hide hM0
  clear h hT0 hM0
  go_enter Tryz.func132, Tryz.ntmps132
  go_wp2_with fail
  go_loopw [5, 12] (fun v i wr => ∃ k : Nat, k ≤ l.length ∧ i = .int .i64 k ∧ OwnsS wr w.heap.size v (missTo st l k) ∧ MapIs wr w.heap.size k (toldF st l k) ∧ Below w.heap.size w wr) (fun _ i _ => l.length - (intOf i).toNat)
  case atStart => exact ⟨0, by omega, rfl, World.ownsRow_nil _ _ _ _, unhide HM0, (Below.refl _ _).alloc (Nat.le_refl _) _⟩
  case round =>
    obtain ⟨k, hk, rfl, hown, hmap, hbel⟩ := hrel
    clear HM0
    by_cases hlt : k < l.length
    · obtain ⟨b, o, rfl, hct⟩ : ∃ b o, a = some ⟨b, o, none⟩ ∧ ∀ i (h : i < l.length), w.cell? ⟨b, o + i, none⟩ = some (strVal l[i]) := by
        rcases ht with h | h
        · subst h; simp at hlt
        · exact h
      have ck : wr.cell? ⟨b, o + k, none⟩ = some (strVal l[k]) := (hbel.cell (p := ⟨b, _, none⟩) (block_lt (hct k hlt))).trans (hct k hlt)
      unfold strVal at ck
      have q1 : (k : Int) < (l.length : Int) := by omega
      have hrs : PStore wr pb um n room st := (unhide Hh).below hbel (Nat.le_refl _)
      have hxl : l[k].length ≤ 10000000 := hx _ (List.getElem_mem hlt)
      have hxm : l[k].length ≤ maxLen := by unfold maxLen; omega
      have hhas := has_any st pb um n room l[k] wr hrs hxm
      have hcl := fun w' => clone3 l[k] w' hxl
      have Hsu := hide (missTo_succ st l k)
      have Hth := hide (told_there st l k hlt)
      have Hup := hide (told_upd st l k hlt)
      have Hsa := hide (told_same st l k)
      have Htl := hide (show toldF st l k l[k] = if l[k] ∈ missTo st l k then some (.int .i64 1) else none from rfl)
      have Hts := hide (show thereP st l k = ((atP st (l.getD k [])).isSome || (l.take k).any (· == l.getD k [])) from rfl)
      rw [show l.getD k [] = l[k] by rw [List.getD_eq_getElem?_getD, List.getElem?_eq_getElem hlt]; rfl] at Hsu Hts
      have hml := missTo_len st l k
      clear hct ht hrs
      generalize l[k] = x at *
      have hbs := hbel.size
      go_wp2_with fail
      refine hhas.mono ?_
      rintro e w2 ⟨rfl, hb2⟩
      have hown2 : OwnsS w2 w.heap.size u5 (missTo st l k) := ownsRow_same hown (fun g hg => hb2.block g (own_lt hown hg))
      have hmap2 : MapIs w2 w.heap.size k (toldF st l k) := hmap.same (hb2.block _ hmap.lt)
      have hbel2 : Below w.heap.size w w2 := hbel.trans (hb2.mono hbs)
      clear hb2 hown hmap hbel hhas
      generalize hTT : (atP st x).isSome = T at *
      cases T with
      | true =>
        have hV : thereP st l k = true := by rw [unhide Hts]; rfl
        have Hs2 := hide (show missTo st l (k + 1) = missTo st l k by rw [unhide Hsu, hV]; simp)
        have Hs3 := hide (unhide Hsa hV)
        go_wp2_with fail
        go_roundw
        case rel => exact ⟨k + 1, by omega, by go_num, by rw [unhide Hs2]; exact hown2, by rw [← unhide Hs3]; exact hmap2.more (Nat.le_succ _), hbel2⟩
        case measure => simp [intOf]; omega
      | false =>
        have hV := unhide Hth rfl
        by_cases hmem : x ∈ missTo st l k
        · have hV2 : thereP st l k = true := by rw [hV]; simpa using hmem
          have hF : toldF st l k x = some (.int .i64 1) := by rw [unhide Htl, if_pos hmem]
          have Hs2 := hide (show missTo st l (k + 1) = missTo st l k by rw [unhide Hsu, hV2]; simp)
          have Hs3 := hide (unhide Hsa hV2)
          clear hV hV2 hmem
          have hlk2 := hmap2.look 144 3 under144 (.int .i64 0) (zero_int _) x hxm
          rw [hF, Option.getD_some] at hlk2
          go_wp2_with fail
          go_roundw
          case rel => exact ⟨k + 1, by omega, by go_num, by rw [unhide Hs2]; exact hown2, by rw [← unhide Hs3]; exact hmap2.more (Nat.le_succ _), hbel2⟩
          case measure => simp [intOf]; omega
        · have hV2 : thereP st l k = false := by rw [hV]; simpa using hmem
          have hF : toldF st l k x = none := by rw [unhide Htl, if_neg hmem]
          have Hs2 := hide (show missTo st l (k + 1) = missTo st l k ++ [x] by rw [unhide Hsu, hV2]; simp)
          obtain ⟨w5, hrun5, hm5, hg5⟩ := MapIs.store hmap2 144 3 under144 (by unfold maxLen; omega) x hxm (.int .i64 1)
          rw [unhide Hup hV2] at hm5
          have hlm := hmap2.lt
          have hown5 : OwnsS w5 w.heap.size u5 (missTo st l k) := ownsRow_same hown2 (fun g hg => hg5.block g (own_lt hown2 hg) (fun e => map_not_row hmap2 hown2 (by rw [hg, e])))
          have hbel5 : Below w.heap.size w w5 := hbel2.grown hg5 hbel2.size (fun q hq => by cases hq; exact Nat.le_refl _)
          clear hV hV2 hmem hg5
          have hlk2 := hmap2.look 144 3 under144 (.int .i64 0) (zero_int _) x hxm
          rw [hF, Option.getD_none] at hlk2
          go_wp2_with fail
          refine (hcl _).mono ?_
          rintro e w6 ⟨rfl, hb6⟩
          have hown6 : OwnsS w6 w.heap.size u5 (missTo st l k) := ownsRow_same hown5 (fun g hg => hb6.block g (own_lt hown5 hg))
          have hm6 : MapIs w6 w.heap.size (k + 1) (toldF st l (k + 1)) := hm5.same (hb6.block _ hm5.lt)
          have hbel6 : Below w.heap.size w w6 := hbel5.trans (hb6.mono hbel5.size)
          have hne6 := map_not_row hm6 hown6
          have hlm6 := hm6.lt
          clear hown5 hm5 hbel5 hb6 hown2 hmap2 hrun5 hcl
          have hb8 := hbel6.size
          generalize missTo st l k = done at *
          go_wp2_with (at_builtin; refine app_text rfl (.tmp 29) (.tmp 32) rfl w.heap.size _ done rfl (hown6.alloc _) ⟨w6.heap.size, 0, none⟩ x rfl ?qa ?qb ?qc ?_)
          case qa => first | rfl | (rw [add_off0]; simp [strVal])
          case qb => omega
          case qc => first | omega | (simp; omega)
          intro v4 w4 ho4 g4
          have hb4 : Below w.heap.size w w4 := (hbel6.alloc hbel6.size _).grown g4 (by simp; omega) (fun k hk => (World.ownsRow.lt hown6 k hk).1)
          have hm4 : MapIs w4 w.heap.size (k + 1) (toldF st l (k + 1)) := (hm6.alloc _).same (g4.block _ (by simp; omega) (by first | exact hne6 | simpa using hne6))
          clear g4
          go_wp2_with fail
          go_roundw
          case rel => exact ⟨k + 1, by omega, by go_num, by rw [unhide Hs2]; exact ho4, hm4, hb4⟩
          case measure => simp [intOf]; omega
    · obtain rfl : k = l.length := by omega
      go_wp2_with fail
      go_ret
      exact ⟨_, rfl, hown, hbel⟩
end Go.Proofs.YtjmacegibchplaaGreatDoor
