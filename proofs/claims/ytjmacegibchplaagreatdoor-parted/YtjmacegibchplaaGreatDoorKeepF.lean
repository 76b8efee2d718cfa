/-
  Trees made of raw numbers and texts, in memory (cellarkeep.tree).
-/
import Derived.Test.YtjmacegibchplaaGreatDoorFetR
import Derived.Test.YtjmacegibchplaaGreatDoorKeepR
import Derived.Test.YtjmacegibchplaaGreatDoorCardA
import Derived.Test.YtjmacegibchplaaGreatDoorLnB
import Derived.Test.YtjmacegibchplaaGreatDoorFtA
import Derived.Deep.DrawnRows
import Derived.Deep.CutBlock
import Derived.Deep.RegionHeld
namespace Go.Proofs.YtjmacegibchplaaGreatDoor
open Go.RowKit
set_option linter.unusedVariables false
attribute [local go_sem ↓] Go.wp_at_zero Go.wp_at_succ
structure TrSt (w : World) (base : Nat) (v5 v6 v7 : Value) (L : List En) (dirs : List (List UInt8 × Nat)) : Prop where
  l : OwnsE w base v5 L
  d : OwnsS w base v6 (dirs.map (·.1))
  n : OwnsN w base v7 (dirs.map (fun p => (p.2 : Int)))
theorem TrSt.below {w w' : World} {base : Nat} {v5 v6 v7 : Value} {L : List En} {dirs : List (List UInt8 × Nat)} (h : TrSt w base v5 v6 v7 L dirs) (hb : Below w.heap.size w w') : TrSt w' base v5 v6 v7 L dirs :=
  ⟨ownsRow_same h.l (fun g hg => hb.block g (own_lt h.l hg)), ownsRow_same h.d (fun g hg => hb.block g (own_lt h.d hg)), ownsRow_same h.n (fun g hg => hb.block g (own_lt h.n hg))⟩
def DirsIn (dirs : List (List UInt8 × Nat)) (k : Nat) : Prop := dirs ≠ [] ∧ dirs.length ≤ k + 1 ∧ ∀ p ∈ dirs, p.1.length ≤ 4 * k ∧ p.2 ≤ 4
theorem apart {w w' : World} {base e1 e2 s1 n1 : Nat} {v1 : Value} {xs1 : List Value} (h1 : w.ownsRow base e1 s1 v1 n1 xs1) (K : Keeps base e2 w w') (hne : e1 ≠ e2) : w'.ownsRow base e1 s1 v1 n1 xs1 := ownsRow_same h1 (fun g hg => by
  rcases h1.2 with ⟨rfl, _⟩ | ⟨g', cap, cur, rfl, hb, hgg, _⟩
  · simp [Value.ownBlock] at hg
  · simp [Value.ownBlock] at hg
    subst hg
    rw [K.other hgg hne, hgg])
theorem nameT_len (k : Nat) (hk : k < 30) (v : Int) : (nameT k v).length ≤ 3 := by
  have := (dig_name ⟨k, hk⟩).1
  simp only at this
  simp [nameT]; omega
theorem inT_in {dirs : List (List UInt8 × Nat)} {k : Nat} (h : DirsIn dirs k) (v : Int) : (inT dirs v).1.length ≤ 4 * k ∧ (inT dirs v).2 ≤ 4 := by
  unfold inT
  rcases Nat.lt_or_ge (v / 8 % dirs.length).toNat dirs.length with hl | hl
  · rw [List.getD_eq_getElem?_getD, List.getElem?_eq_getElem hl]
    exact h.2.2 _ (List.getElem_mem hl)
  · rw [List.getD_eq_getElem?_getD, List.getElem?_eq_none hl]
    exact ⟨by simp, by simp⟩
theorem DirsIn.step {dirs : List (List UInt8 × Nat)} {k : Nat} (h : DirsIn dirs k) (hk : k < 30) (v : Int) : DirsIn (dirT dirs k v) (k + 1) := by
  have hi := inT_in h v
  have hn := nameT_len k hk v
  unfold dirT
  split
  · rename_i hc
    refine ⟨by simp, by simp; exact h.2.1, fun p hp => ?_⟩
    rcases List.mem_append.1 hp with hp | hp
    · have := h.2.2 p hp; omega
    · simp at hp
      subst hp
      simp; omega
  · exact ⟨h.1, by have := h.2.1; omega, fun p hp => by have := h.2.2 p hp; omega⟩
def swT (dirs : List (List UInt8 × Nat)) (i : Nat) (v : Int) : En :=
  if v % 8 ≤ 1 then ⟨bs ((inT dirs v).1 ++ nameT i v), 0, ⟨#[]⟩⟩
  else if v % 8 = 2 then ⟨bs ((inT dirs v).1 ++ nameT i v), 3, bs ((if (inT dirs v).2 = 0 then [] else [46, 46, 47]) ++ lnkP (v / 80 % 4).toNat)⟩
  else ⟨bs ((inT dirs v).1 ++ nameT i v), if v % 8 = 3 then 2 else 1, ⟨#[]⟩⟩
theorem sw_ent (dirs : List (List UInt8 × Nat)) (texts : List (List UInt8)) (i : Nat) (v : Int) : ((swT dirs i v).kind = 0 ∨ (swT dirs i v).kind = 3) ∧ entT dirs texts i v = swT dirs i v ∨
    ((swT dirs i v).kind = 1 ∨ (swT dirs i v).kind = 2) ∧ (swT dirs i v).data = ⟨#[]⟩ ∧ entT dirs texts i v = ⟨(swT dirs i v).path, (swT dirs i v).kind, bs (if texts = [] then [] else (texts.getD (v / 80 % texts.length).toNat []).take 60)⟩ := by
  unfold entT swT
  by_cases h1 : v % 8 ≤ 1
  · left; simp [h1]
  · by_cases h2 : v % 8 = 2
    · left; simp [h2]
    · right
      simp only [h1, h2, if_false]
      refine ⟨?_, by first | trivial | rfl, by first | trivial | rfl⟩
      by_cases h3 : v % 8 = 3 <;> simp [h3]
def EntC (b : Nat) (W : World) (x : En) : Prop := W.heap[b]? = some (.cells #[.string x.path, .int .i64 x.kind, .string x.data] 32 (0, 0))
theorem row_ne {w : World} {base e1 s1 n1 b g : Nat} {v1 : Value} {xs1 : List Value} {cur : Array Value} {e2 : TypeId} {fz : Nat × Nat} (h1 : w.ownsRow base e1 s1 v1 n1 xs1) (hb : w.heap[b]? = some (.cells cur e2 fz)) (hne : e1 ≠ e2) (hg : v1.ownBlock = some g) : g ≠ b := by
  rcases h1.2 with ⟨rfl, _⟩ | ⟨g', cap, cur', rfl, hb', hgg, _⟩
  · simp [Value.ownBlock] at hg
  · simp [Value.ownBlock] at hg
    subst hg
    rintro rfl
    rw [hb] at hgg
    simp at hgg
    exact hne hgg.2.1.symm
theorem TrSt.put {w : World} {base b j : Nat} {v5 v6 v7 u : Value} {L : List En} {dirs : List (List UInt8 × Nat)} {cur : Array Value} {fz : Nat × Nat} (h : TrSt w base v5 v6 v7 L dirs) (hb : w.heap[b]? = some (.cells cur 32 fz)) (h5 : v5.ownBlock ≠ some b) : TrSt (w.setCell ⟨b, j, none⟩ u) base v5 v6 v7 L dirs := by
  have hg := grown_setCell w b j u
  refine ⟨ownsRow_same h.l (fun g e => hg.block g (own_lt h.l e) (fun h2 => h5 (by rw [e, h2]))), ownsRow_same h.d (fun g e => hg.block g (own_lt h.d e) (fun h2 => row_ne h.d hb (by decide) e (by simpa using h2))), ownsRow_same h.n (fun g e => hg.block g (own_lt h.n e) (fun h2 => row_ne h.n hb (by decide) e (by simpa using h2)))⟩
theorem link_end {wx : World} {base b : Nat} {v5 v6 v7 : Value} {L : List En} {dirs : List (List UInt8 × Nat)} {p : ByteArray} (h : TrSt wx base v5 v6 v7 L dirs) (hb : wx.heap[b]? = some (.cells #[.string p, .int .i64 0, .string ⟨#[]⟩] 32 (0, 0))) (h5 : v5.ownBlock ≠ some b) (s : ByteArray) (X : Obj) :
    TrSt (((wx.setCell ⟨b, 1, none⟩ (.int .i64 3)).setCell ⟨b, 2, none⟩ (.string s)).alloc X) base v5 v6 v7 L dirs ∧ EntC b (((wx.setCell ⟨b, 1, none⟩ (.int .i64 3)).setCell ⟨b, 2, none⟩ (.string s)).alloc X) ⟨p, 3, s⟩ := by
  have h1 := heap_setCell_same wx b 1 _ _ (.int .i64 3) hb
  have h2 := heap_setCell_same _ b 2 _ _ (.string s) h1
  exact ⟨((h.put hb h5).put h1 h5).below ((Below.refl _ _).alloc (Nat.le_refl _) _), (Below.heap_alloc _ _ _ (Array.getElem?_eq_some_iff.1 h2).1).trans h2⟩
theorem link_end2 {wx : World} {base b : Nat} {v5 v6 v7 : Value} {L : List En} {dirs : List (List UInt8 × Nat)} {p : ByteArray} (h : TrSt wx base v5 v6 v7 L dirs) (hb : wx.heap[b]? = some (.cells #[.string p, .int .i64 0, .string ⟨#[]⟩] 32 (0, 0))) (h5 : v5.ownBlock ≠ some b) (r s : ByteArray) (X : Obj) :
    TrSt ((((wx.setCell ⟨b, 1, none⟩ (.int .i64 3)).setCell ⟨b, 2, none⟩ (.string r)).setCell ⟨b, 2, none⟩ (.string s)).alloc X) base v5 v6 v7 L dirs ∧ EntC b ((((wx.setCell ⟨b, 1, none⟩ (.int .i64 3)).setCell ⟨b, 2, none⟩ (.string r)).setCell ⟨b, 2, none⟩ (.string s)).alloc X) ⟨p, 3, s⟩ := by
  have h1 := heap_setCell_same wx b 1 _ _ (.int .i64 3) hb
  have h2 := heap_setCell_same _ b 2 _ _ (.string r) h1
  have h3 := heap_setCell_same _ b 2 _ _ (.string s) h2
  exact ⟨(((h.put hb h5).put h1 h5).put h2 h5).below ((Below.refl _ _).alloc (Nat.le_refl _) _), (Below.heap_alloc _ _ _ (Array.getElem?_eq_some_iff.1 h3).1).trans h3⟩
theorem ownsN_I {w : World} {base : Nat} {v : Value} {dirs : List (List UInt8 × Nat)} : OwnsN w base v (dirs.map (fun p => (p.2 : Int))) ↔ OwnsI w base v (dirs.map (·.2)) := by
  have e : (dirs.map (fun p => (p.2 : Int))).map (Value.int .i64) = (dirs.map (·.2)).map natVal := by simp [natVal]
  unfold OwnsN OwnsI
  rw [e]
  simp
theorem dir_end {w wx w6 w7 : World} {b n : Nat} {v5 v6 v7 v6' v7' : Value} {L : List En} {dirs : List (List UInt8 × Nat)} {q : List UInt8} {x : En} {X1 X2 : Obj}
    (hst : TrSt wx w.heap.size v5 v6 v7 L dirs) (hbk : EntC b wx x) (hbel : Below w.heap.size w wx)
    (ho6 : OwnsS w6 w.heap.size v6' (dirs.map (·.1) ++ [q])) (g6 : (wx.alloc X1).grownBy w6 v6.ownBlock)
    (ho7 : OwnsI w7 w.heap.size v7' (dirs.map (·.2) ++ [n])) (g7 : (w6.alloc X2).grownBy w7 v7.ownBlock) :
    TrSt w7 w.heap.size v5 v6' v7' L (dirs ++ [(q, n)]) ∧ EntC b w7 x ∧ Below w.heap.size w w7 := by
  have K6 := Keeps.grown (World.ownsRow.alloc hst.d X1) g6
  have h5' := apart (World.ownsRow.alloc hst.l X1) K6 (by decide)
  have h7' := apart (World.ownsRow.alloc hst.n X1) K6 (by decide)
  have K7 := Keeps.grown (World.ownsRow.alloc h7' X2) g7
  have h5'' := apart (World.ownsRow.alloc h5' X2) K7 (by decide)
  have h6'' := apart (World.ownsRow.alloc ho6 X2) K7 (by decide)
  have e1 : (wx.alloc X1).heap[b]? = _ := (Below.heap_alloc _ _ _ (Array.getElem?_eq_some_iff.1 hbk).1).trans hbk
  have e2 := K6.other e1 (by decide)
  have e3 : (w6.alloc X2).heap[b]? = _ := (Below.heap_alloc _ _ _ (Array.getElem?_eq_some_iff.1 e2).1).trans e2
  have e4 := K7.other e3 (by decide)
  have b6 : Below w.heap.size w w6 := (hbel.alloc hbel.size _).grown g6 (by simp; have := hbel.size; omega) (fun k hk => (World.ownsRow.lt hst.d k hk).1)
  refine ⟨⟨h5'', ?_, ?_⟩, e4, (b6.alloc b6.size _).grown g7 (by simp; have := b6.size; omega) (fun k hk => (World.ownsRow.lt h7' k hk).1)⟩
  · have : (dirs ++ [(q, n)]).map (·.1) = dirs.map (·.1) ++ [q] := by simp
    rw [this]; exact h6''
  · refine ownsN_I.2 ?_
    have : (dirs ++ [(q, n)]).map (·.2) = dirs.map (·.2) ++ [n] := by simp
    rw [this]; exact ho7
set_option maxRecDepth 100000 in
set_option maxHeartbeats 40000000 in
theorem keepTreeM (raw : List Int) (texts : List (List UInt8)) (ar : Option Addr) (cr : Nat) (at' : Option Addr) (ct : Nat) (w : World) (hrl : raw.length ≤ 9223372036854775807) (htl : texts.length ≤ 9223372036854775807)
    (hir : IntsAt w ar raw) (hrb : ∀ r ∈ raw, -9223372036854775808 ≤ r ∧ r ≤ 9223372036854775807) (htx : TextsAt w at' texts) (hts : ∀ x ∈ texts, x.length ≤ 9223372036854775807) :
    Calls Tryz.prog 33 #[.slice ar raw.length cr, .slice at' texts.length ct] w fun e w' => ∃ v, e = .returned v ∧ OwnsE w' w.heap.size v (treeP raw texts) ∧ Below w.heap.size w w' := by
  obtain ⟨N, hN⟩ : ∃ N, N = min raw.length 30 := ⟨_, rfl⟩
  have Hvl := hide (show ((raw.take 30).map (fun c => pickP c 1099511627776)).length = N by rw [List.length_map, List.length_take]; omega)
  have hbA : Below w.heap.size w ((w.alloc (.cells #[.string ⟨#[]⟩] 9)).alloc (.cells #[.int .i64 0] 3)) := ((Below.refl _ _).alloc (Nat.le_refl _) _).alloc (by simp) _
  have h0 : TrSt ((w.alloc (.cells #[.string ⟨#[]⟩] 9)).alloc (.cells #[.int .i64 0] 3)) w.heap.size (.slice none 0 0) (.slice (some ⟨w.heap.size, 0, none⟩) 1 1) (.slice (some ⟨w.heap.size + 1, 0, none⟩) 1 1) [] [([], 0)] := by
    refine ⟨World.ownsRow_nil _ _ _ _, ⟨rfl, .inr ⟨w.heap.size, 1, #[.string ⟨#[]⟩], rfl, Nat.le_refl _, ?_, Nat.le_refl _, by decide, rfl, rfl⟩⟩, ⟨rfl, .inr ⟨w.heap.size + 1, 1, #[.int .i64 0], rfl, by omega, ?_, Nat.le_refl _, by decide, rfl, rfl⟩⟩⟩
    · exact (Below.heap_alloc _ _ _ (by simp)).trans (heap_alloc_new w _)
    · have := heap_alloc_new (w.alloc (.cells #[.string ⟨#[]⟩] 9)) (.cells #[.int .i64 0] 3)
      rw [show (w.alloc (.cells #[.string ⟨#[]⟩] 9)).heap.size = w.heap.size + 1 by simp] at this
      exact this
  have H0 := hide (And.intro h0 hbA)
  have HN := hide hN
  clear h0 hbA hN
  go_enter Tryz.func33, Tryz.ntmps33
  go_wp2_with fail
  go_loopw [5, 6, 7, 8] (fun v5 v6 v7 i wr => ∃ (k : Nat) (L : List En) (dirs : List (List UInt8 × Nat)), k ≤ N ∧ i = .int .i64 k ∧ TrSt wr w.heap.size v5 v6 v7 L dirs ∧ DirsIn dirs k ∧ L.length = k ∧ treeP raw texts = L ++ treeG texts (((raw.take 30).map (fun c => pickP c 1099511627776)).drop k) k dirs ∧ Below w.heap.size w wr) (fun _ _ _ i _ => N - (intOf i).toNat)
  case atStart => exact ⟨0, [], [([], 0)], by omega, rfl, (unhide H0).1, ⟨by simp, by simp, by simp⟩, rfl, rfl, (unhide H0).2⟩
  case round =>
    obtain ⟨k, L, dirs, hk, rfl, hst, hdi, hLl, hgen, hbel⟩ := hrel
    clear H0
    have hNn : N ≤ raw.length ∧ N ≤ 30 := by have := unhide HN; omega
    go_upto_region 5 with fail
    go_cut [21] (fun s21 wx => s21 = .bool (decide (k < N)) ∧ wr = wx)
    case first =>
      by_cases h1 : k < raw.length
      · have g1 : decide ((k : Int) < (raw.length : Int)) = true := by simpa using h1
        have g3 : decide ((k : Int) < 30) = decide (k < N) := by rw [unhide HN, decide_eq_decide]; omega
        clear hLl
        go_wp2_with fail
        go_meet
        exact ⟨by first | rfl | exact congrArg Value.bool g3, rfl⟩
      · have g1 : decide ((k : Int) < (raw.length : Int)) = false := by simpa using h1
        have g3 : decide (k < N) = false := by rw [unhide HN, decide_eq_false_iff_not]; omega
        clear hLl
        go_wp2_with fail
        go_meet
        exact ⟨congrArg Value.bool g3.symm, rfl⟩
    case rest =>
      obtain ⟨h21, hwr⟩ := hcut
      subst h21
      subst hwr
      have HLl := hide hLl
      have Hgen := hide hgen
      clear hLl hgen
      by_cases hlt : k < N
      · rw [decide_eq_true hlt]
        obtain ⟨br, orr, rfl, hcr⟩ : ∃ b o, ar = some ⟨b, o, none⟩ ∧ wr.cell? ⟨b, o + k, none⟩ = some (.int .i64 raw[k]) := by
          rcases hir.below hbel (Nat.le_refl _) with h | ⟨b, o, e, h⟩
          · subst h; simp at hNn; omega
          · exact ⟨b, o, e, h k (by omega)⟩
        have hr := hrb _ (List.getElem_mem (show k < raw.length by omega))
        have hpk := keepPick raw[k] 1099511627776 wr hr.1 hr.2 (by decide) (by decide)
        have hvb : 0 ≤ pickP raw[k] 1099511627776 ∧ pickP raw[k] 1099511627776 < 1099511627776 := by unfold pickP; exact ⟨Int.emod_nonneg _ (by decide), Int.emod_lt_of_pos _ (by decide)⟩
        have Hdr := hide (show ((raw.take 30).map (fun c => pickP c 1099511627776)).drop k = pickP raw[k] 1099511627776 :: ((raw.take 30).map (fun c => pickP c 1099511627776)).drop (k + 1) by
          rw [List.drop_eq_getElem_cons (by rw [unhide Hvl]; exact hlt)]
          simp)
        have q1 : (k : Int) < (raw.length : Int) := by omega
        clear hr
        generalize raw[k] = r at *
        generalize pickP r 1099511627776 = v at *
        obtain ⟨hdn, hdk, hdp⟩ := hdi
        have hdl : 0 < dirs.length := List.length_pos_iff.2 hdn
        obtain ⟨J, hJ, hJl⟩ : ∃ J : Nat, v / 8 % (dirs.length : Int) = (J : Int) ∧ J < dirs.length := ⟨(v / 8 % (dirs.length : Int)).toNat, by have := Int.emod_nonneg (v / 8) (show (dirs.length : Int) ≠ 0 by omega); omega, by have := Int.emod_lt_of_pos (v / 8) (show (0 : Int) < (dirs.length : Int) by omega); have := Int.emod_nonneg (v / 8) (show (dirs.length : Int) ≠ 0 by omega); omega⟩
        obtain ⟨M, hM, hMl⟩ : ∃ M : Nat, v / 800 % 26 = (M : Int) ∧ M < 26 := ⟨(v / 800 % 26).toNat, by omega, by omega⟩
        obtain ⟨a6, c6, rfl⟩ := row_shape hst.d
        obtain ⟨a7, c7, rfl⟩ := row_shape hst.n
        obtain ⟨g6, cap6, cur6, e6, hg6, hb6, hc6⟩ := row_at hst.d J (by simpa using hJl)
        obtain ⟨g7, cap7, cur7, e7, hg7, hb7, hc7⟩ := row_at hst.n J (by simpa using hJl)
        obtain ⟨rfl, rfl⟩ : a6 = some ⟨g6, 0, none⟩ ∧ c6 = cap6 := by simpa using e6
        obtain ⟨rfl, rfl⟩ : a7 = some ⟨g7, 0, none⟩ ∧ c7 = cap7 := by simpa using e7
        have Hin := hide (show inT dirs v = dirs[J] by unfold inT; rw [hJ, Int.toNat_natCast, List.getD_eq_getElem?_getD, List.getElem?_eq_getElem hJl]; rfl)
        have hdJ := hdp _ (List.getElem_mem hJl)
        simp only [List.getElem_map] at hc6 hc7
        have k6 := cell_of_block (j := J) hb6
        have k7 := cell_of_block (j := J) hb7
        rw [hc6] at k6
        rw [hc7] at k7
        unfold strVal at k6
        generalize hdj : dirs[J] = dj at *
        obtain ⟨pj, nj⟩ := dj
        simp only at hdJ k6 k7
        have hbs := hbel.size
        have hl6 := (Array.getElem?_eq_some_iff.1 hb6).1
        have hl7 := (Array.getElem?_eq_some_iff.1 hb7).1
        have hl6' : g6 < wr.heap.size + 1 := by omega
        have hcv : ∀ (W : World) (g : Nat), W.cell? ⟨g, 0, none⟩ = some (.int .u8 (97 + (M : Int))) → (convert 102 9 (.slice (some ⟨g, 0, none⟩) 1 1)).run Tryz.prog W = .ok (.string (strOfNums [97 + (M : Int)])) W := fun W g h => conv_at W g _ h
        have hq1 : IntKind.i64.wrap (v.tdiv 800) = v / 800 := by rw [Int.tdiv_eq_ediv_of_nonneg hvb.1, IntKind.wrap_i64]; omega
        have hq2 : (v / 800).tmod 26 = (M : Int) := by rw [Int.tmod_eq_emod_of_nonneg (by omega)]; exact hM
        have hw1 : IntKind.i64.wrap (97 + (M : Int)) = 97 + (M : Int) := by rw [IntKind.wrap_i64]; omega
        have hw2 : IntKind.u8.wrap (97 + (M : Int)) = 97 + (M : Int) := u8_wrap _ (by omega) (by omega)
        have hMb : (0 : Int) ≤ (M : Int) ∧ (M : Int) < 26 := by omega
        have hdg := fun w' => keepDigits k w' (by omega)
        have hzp := bs_size pj
        have hln := let_num ⟨M, hMl⟩
        simp only at hln
        have hzd := (dig_name ⟨k, by omega⟩).1
        simp only at hzd
        have hz1 : (strOfNums [97 + (M : Int)]).size = 1 := rfl
        have hzg := bs_size (digP k)
        have ad1 := add_ok (bs pj) (strOfNums [97 + (M : Int)]) (by omega) (by omega)
        have ad2 := add_ok (bs pj ++ strOfNums [97 + (M : Int)]) (bs (digP k)) (by rw [ByteArray.size_append]; omega) (by omega)
        have hpth : bs pj ++ strOfNums [97 + (M : Int)] ++ bs (digP k) = bs (pj ++ nameT k v) := by
          unfold nameT
          rw [hln, bs_add, bs_add, hM, Int.toNat_natCast]
          simp
        clear hln
        have Hdj := hide hdj
        have Hpth := hide hpth
        have Hdi := hide (And.intro hdn (And.intro hdk hdp))
        have Hc := hide (And.intro hb6 (And.intro hb7 (And.intro hg6 hg7)))
        have HM := hide hM
        have HJ := hide hJ
        have Hst := hide hst
        clear hdj hpth hdn hdk hdp hb6 hb7 hg6 hg7 hc6 hc7 e6 e7 hst
        simp only [List.length_map] at *
        go_upto_region 9 with (go_at_call 22; refine hpk.mono ?_; rintro e w' ⟨rfl, hw'⟩; rw [hw']; clear hw' w')
        simp only [hJ]
        go_cut [11] (fun s11 wx => ∃ b, s11 = .pointer (some ⟨b, 0, none⟩) ∧ wx.heap[b]? = some (.cells #[.string (bs (pj ++ nameT k v)), .int .i64 0, .string ⟨#[]⟩] 32 (0, 0)) ∧ wr.heap.size ≤ b ∧ Below wr.heap.size wr wx)
        case first =>
          refine Code.wp_mono NoPanic.imp (reg9 _ wr g6 dirs.length J k M nj v pj c6 _ _ _ _ _ _ _ _ _ _ _ _ _ _ _ _ _ _ _ _ _ _ _ _ _ _ _ _ _ _ _ _ _ _ _ _ _ _ _ _ _ _ _ _ _ _ _ _ _ _ _ _ _ _ _ _ _ _ _ _ _ _ _ _ _ _ _ _ _ _ _ _ _ _ _ _ _ _ _ _ _ _ _ _ _ _ _ _ _ _ _ _ _ _ _ _ _ _ _ _ _ _ _ _ _ _ _ _ _ _ _ _ _ _ _ _ _ _ _ _ _ k6 hl6 hJl (by omega) hvb (unhide HM) hMl (by omega) (unhide Hpth) ?_)
          intro s34 s35 s36 s37 s38 s39 s40 s41 s42 s43 s44 s45 s46 s47 s48 s49 b wx h1 h2 h3
          go_wp2_with fail
          go_meet
          exact ⟨b, rfl, h1, h2, h3⟩
        case rest =>
          rename World => wx
          obtain ⟨b, rfl, hbk, hbl, hbw⟩ := hcut
          have hst2 := (unhide Hst).below hbw
          have hbel2 : Below w.heap.size w wx := hbel.trans (hbw.mono hbel.size)
          go_upto_block 2 with fail
          go_cut [6, 7] from 50 to 96 (fun v6 v7 wy => TrSt wy w.heap.size u5 v6 v7 L (dirT dirs k v) ∧ EntC b wy (swT dirs k v) ∧ Below w.heap.size w wy)
          case first =>
            have hin : inT dirs v = (pj, nj) := unhide Hin
            have h5b : u5.ownBlock ≠ some b := fun e => by
              have := own_lt (unhide Hst).l e
              omega
            have k7x : wx.cell? ⟨g7, J, none⟩ = some (.int .i64 (nj : Int)) := ((bcell hbw).1 g7 J hl7).trans k7
            have c0 := cell_of_block (j := 0) hbk
            have c1 := cell_of_block (j := 1) hbk
            have c2 := cell_of_block (j := 2) hbk
            simp at c0 c1 c2
            have hbx : b < wx.heap.size := (Array.getElem?_eq_some_iff.1 hbk).1
            have hl7x : g7 < wx.heap.size := Nat.lt_of_lt_of_le hl7 hbw.size
            have hgb : g7 ≠ b := by omega
            have hgb2 : b ≠ g7 := by omega
            have f1 := free_block (j := 1) hbk
            have f2 := free_block (j := 2) hbk
            have hsw : swT dirs k v = if v % 8 ≤ 1 then ⟨bs (pj ++ nameT k v), 0, ⟨#[]⟩⟩ else if v % 8 = 2 then ⟨bs (pj ++ nameT k v), 3, bs ((if nj = 0 then [] else [46, 46, 47]) ++ lnkP (v / 80 % 4).toNat)⟩ else ⟨bs (pj ++ nameT k v), if v % 8 = 3 then 2 else 1, ⟨#[]⟩⟩ := by
              unfold swT; rw [hin]
            have hdt : dirT dirs k v = if v % 8 ≤ 1 ∧ nj < 4 then dirs ++ [(pj ++ nameT k v ++ [47], nj + 1)] else dirs := by
              unfold dirT; rw [hin]
            have hq : (J : Int) < (dirs.length : Int) := by omega
            obtain ⟨R, hR⟩ : ∃ R, v % 8 = R := ⟨_, rfl⟩
            rw [hR] at hsw hdt
            have hRb : 0 ≤ R ∧ R < 8 := by omega
            have Hhd := hide (And.intro hbk hst2)
            have Hk := hide k6
            clear hbk hst2 k6 hin
            by_cases hR1 : R ≤ 1
            · rw [if_pos hR1] at hsw
              by_cases hn4 : nj < 4
              · rw [if_pos ⟨hR1, hn4⟩] at hdt
                have hd4 : decide ((nj : Int) < 4) = true := by simp; omega
                have Hx := hide (And.intro hsw hdt)
                clear hsw hdt
                have hzq := bs_size (pj ++ nameT k v)
                have hnl := nameT_len k (by omega) v
                have had := add_ok (bs (pj ++ nameT k v)) ⟨#[47]⟩ (by rw [hzq, List.length_append]; omega) (by decide)
                have hdl2 : dirs.length ≤ 40 := by have := (unhide Hdi).2.1; omega
                have hbs2 := hbel2.size
                have hnw : IntKind.i64.wrap ((nj : Int) + 1) = (nj : Int) + 1 := by rw [IntKind.wrap_i64]; omega
                clear hnl hzq
                have hd6 : OwnsS wx w.heap.size (.slice (some ⟨g6, 0, none⟩) dirs.length c6) (dirs.map (·.1)) := by
                  have h := (unhide Hhd).2.d
                  first | exact h | (rw [List.length_map] at h; exact h)
                have hd7 : OwnsI wx w.heap.size (.slice (some ⟨g7, 0, none⟩) dirs.length c7) (dirs.map (·.2)) := by
                  have h := ownsN_I.1 (unhide Hhd).2.n
                  first | exact h | (rw [List.length_map] at h; exact h)
                obtain rfl | rfl : R = 0 ∨ R = 1 := by omega
                all_goals
                  go_wp2_with (at_builtin; (refine app_text rfl (.tmp 61) (.tmp 65) rfl w.heap.size _ _ rfl (OwnsS.alloc hd6 _) ⟨wx.heap.size, 0, none⟩ (pj ++ nameT k v ++ [47]) rfl ?qa ?qb ?qc ?_))
                  case qa =>
                    have hbk := heap_alloc_new wx (.cells #[.string (bs (pj ++ nameT k v) ++ ⟨#[47]⟩)] 9)
                    have hadd : (⟨wx.heap.size, 0, none⟩ : Addr).add 0 = ⟨wx.heap.size, 0, none⟩ := rfl
                    rw [hadd]
                    unfold strVal
                    rw [← bs_add]
                    exact cell_of_block hbk
                  case qb => simp; omega
                  case qc => simp; omega
                  intro v6 w6 ho6 gr6
                  have hb6' : w6.heap[g7]? = some (.cells cur7 3 (0, 0)) := by
                    have K6 := Keeps.grown (World.ownsRow.alloc hd6 _) gr6
                    have e0 : wx.heap[g7]? = some (.cells cur7 3 (0, 0)) := (hbw.block g7 hl7).trans (unhide Hc).2.1
                    exact K6.other ((Below.heap_alloc _ _ _ (Array.getElem?_eq_some_iff.1 e0).1).trans e0) (by decide)
                  have k7y : w6.cell? ⟨g7, J, none⟩ = some (.int .i64 (nj : Int)) := by
                    have q := cell_of_block (j := J) hb6'
                    rw [q]
                    have q2 := cell_of_block (j := J) (unhide Hc).2.1
                    rw [q2] at k7
                    exact k7
                  have hn6 : OwnsI w6 w.heap.size (.slice (some ⟨g7, 0, none⟩) dirs.length c7) (dirs.map (·.2)) := by
                    have K6 := Keeps.grown (World.ownsRow.alloc hd6 _) gr6
                    exact apart (World.ownsRow.alloc hd7 _) K6 (by decide)
                  have hs6 : w.heap.size ≤ w6.heap.size := by have := gr6.size; simp at this; omega
                  have Hg6 := hide (And.intro ho6 gr6)
                  clear ho6 gr6 hb6'
                  go_wp2_with (at_builtin; (refine app_int rfl (.tmp 67) (.tmp 73) rfl w.heap.size _ _ rfl (OwnsI.alloc hn6 _) ⟨w6.heap.size, 0, none⟩ (nj + 1) rfl ?qd ?qe ?qf ?_))
                  case qd =>
                    have hbk := heap_alloc_new w6 (.cells #[.int .i64 ((nj : Int) + 1)] 3)
                    exact cell_of_block hbk
                  case qe => simp; omega
                  case qf => simp; omega
                  intro v7 w7 ho7 gr7
                  go_wp2_with fail
                  go_meet
                  have hE := dir_end (unhide Hhd).2 (show EntC b wx ⟨_, 0, ⟨#[]⟩⟩ from (unhide Hhd).1) hbel2 (unhide Hg6).1 (unhide Hg6).2 ho7 gr7
                  exact ⟨by rw [(unhide Hx).2, List.append_assoc pj]; exact hE.1, by rw [(unhide Hx).1]; exact hE.2.1, hE.2.2⟩
              · rw [if_neg (by omega)] at hdt
                have hd4 : decide ((nj : Int) < 4) = false := by simp; omega
                have Hx := hide (And.intro hsw hdt)
                clear hsw hdt
                obtain rfl | rfl : R = 0 ∨ R = 1 := by omega
                all_goals
                  go_wp2_with fail
                  go_meet
                  exact ⟨by rw [(unhide Hx).2]; exact (unhide Hhd).2, by rw [(unhide Hx).1]; exact (unhide Hhd).1, hbel2⟩
            · rw [if_neg hR1] at hsw
              rw [if_neg (by omega)] at hdt
              by_cases hR2 : R = 2
              · subst hR2
                rw [if_pos rfl] at hsw
                obtain ⟨Z, hZ, hZl⟩ : ∃ Z : Nat, v / 80 % 4 = (Z : Int) ∧ Z < 4 := ⟨(v / 80 % 4).toNat, by omega, by omega⟩
                rw [hZ, Int.toNat_natCast] at hsw
                have Hx := hide (And.intro hsw hdt)
                clear hsw hdt hR1
                by_cases hz0 : nj = 0
                · subst hz0
                  obtain rfl | rfl | rfl | rfl : Z = 0 ∨ Z = 1 ∨ Z = 2 ∨ Z = 3 := by omega
                  all_goals
                    go_wp2_with fail
                    go_meet
                    exact ⟨by rw [(unhide Hx).2]; exact (link_end (unhide Hhd).2 (unhide Hhd).1 h5b _ _).1, by rw [(unhide Hx).1]; exact (link_end (unhide Hhd).2 (unhide Hhd).1 h5b _ _).2, ((hbel2.setCell (by simp; omega) _).setCell (by simp; omega) _).alloc (by simp; exact hbel2.size) _⟩
                · have hd0 : decide ((0 : Int) < (nj : Int)) = true := by simp; omega
                  have a0 := add_ok (bs [46, 46, 47]) (bs (lnkP 0)) (by decide) (by decide)
                  have a1 := add_ok (bs [46, 46, 47]) (bs (lnkP 1)) (by decide) (by decide)
                  have a2 := add_ok (bs [46, 46, 47]) (bs (lnkP 2)) (by decide) (by decide)
                  have a3 := add_ok (bs [46, 46, 47]) (bs (lnkP 3)) (by decide) (by decide)
                  obtain rfl | rfl | rfl | rfl : Z = 0 ∨ Z = 1 ∨ Z = 2 ∨ Z = 3 := by omega
                  all_goals
                    go_wp2_with fail
                    go_meet
                    exact ⟨by rw [(unhide Hx).2]; exact (link_end2 (unhide Hhd).2 (unhide Hhd).1 h5b _ _ _).1, by rw [(unhide Hx).1, if_neg hz0]; exact (link_end2 (unhide Hhd).2 (unhide Hhd).1 h5b _ _ _).2, (((hbel2.setCell (by simp; omega) _).setCell (by simp; omega) _).setCell (by simp; omega) _).alloc (by simp; exact hbel2.size) _⟩
              · rw [if_neg hR2] at hsw
                have Hx := hide (And.intro hsw hdt)
                clear hsw hdt
                by_cases hR3 : R = 3
                · subst hR3
                  go_wp2_with fail
                  go_meet
                  exact ⟨by rw [(unhide Hx).2]; exact TrSt.put (unhide Hhd).2 (unhide Hhd).1 h5b, by rw [(unhide Hx).1]; exact heap_setCell_same wx b 1 _ _ _ (unhide Hhd).1, hbel2.setCell (by simp; omega) _⟩
                · have r0 : (R == 0) = false := by simp; omega
                  have r1 : (R == 1) = false := by simp; omega
                  have r2 : (R == 2) = false := by simp; omega
                  have r3 : (R == 3) = false := by simp; omega
                  go_wp2_with fail
                  go_meet
                  exact ⟨by rw [(unhide Hx).2]; exact TrSt.put (unhide Hhd).2 (unhide Hhd).1 h5b, by rw [(unhide Hx).1, if_neg hR3]; exact heap_setCell_same wx b 1 _ _ _ (unhide Hhd).1, hbel2.setCell (by simp; omega) _⟩
          case rest =>
            rename World => wz
            obtain ⟨hst4, hent4, hbel4⟩ := hcut
            clear k6 k7 hbk
            have hsw := sw_ent dirs texts k v
            generalize swT dirs k v = x at *
            obtain ⟨xp, xk, xd⟩ := x
            unfold EntC at hent4
            simp only at hent4 hsw
            have c0 := cell_of_block (j := 0) hent4
            have c1 := cell_of_block (j := 1) hent4
            have c2 := cell_of_block (j := 2) hent4
            simp at c0 c1 c2
            have f2 := free_block (j := 2) hent4
            obtain ⟨T, hT⟩ : ∃ T : Bool, T = decide ((xk = 1 ∨ xk = 2) ∧ texts ≠ []) := ⟨_, rfl⟩
            go_upto_region 24 with fail
            go_cut [109] from 97 to 108 (fun s wy => s = .bool T ∧ wz = wy)
            case first =>
              have hkk : xk = 0 ∨ xk = 3 ∨ xk = 1 ∨ xk = 2 := by rcases hsw with ⟨h | h, _⟩ | ⟨h | h, _⟩ <;> simp [h]
              have htt : (texts = [] ∧ decide ((0 : Int) < (texts.length : Int)) = false) ∨ (texts ≠ [] ∧ decide ((0 : Int) < (texts.length : Int)) = true) := by
                cases texts with
                | nil => left; simp
                | cons a r => right; exact ⟨by simp, by simp⟩
              have Hent4 := hide hent4
              clear hsw hent4 hst4
              rcases hkk with rfl | rfl | rfl | rfl <;> rcases htt with ⟨ht, hd⟩ | ⟨ht, hd⟩
              all_goals
                have Ht := hide ht
                clear ht
                subst hT
                go_wp2_with fail
                go_meet
                exact ⟨by first | (simp [unhide Ht]; done) | (simp [unhide Ht]; exact List.length_pos_iff.2 (unhide Ht)), rfl⟩
            case rest =>
            obtain ⟨h109, hwz⟩ := hcut
            subst h109
            subst hwz
            go_upto_if 109 with fail
            go_cut [5] from 110 to 119 (fun v5 wy => v5 = u5 ∧ TrSt wy w.heap.size u5 u6 u7 L (dirT dirs k v) ∧ EntC b wy (entT dirs texts k v) ∧ Below w.heap.size w wy)
            case first =>
              have h5b : u5.ownBlock ≠ some b := fun e => by
                have := own_lt (unhide Hst).l e
                omega
              rcases hsw with ⟨hk0, he⟩ | ⟨hk1, hd0, he⟩
              · have hTf : T = false := by
                  rw [hT]; simp
                  rintro (h | h) <;> rcases hk0 with h0 | h0 <;> omega
                have Hx := hide (And.intro hst4 (And.intro hent4 he))
                clear hT hst4 hent4 he hk0
                subst hTf
                go_wp2_with fail
                go_meet
                exact ⟨rfl, (unhide Hx).1, by rw [(unhide Hx).2.2]; exact (unhide Hx).2.1, hbel4⟩
              · by_cases ht : texts = []
                · have hTf : T = false := by rw [hT]; simp [ht]
                  rw [if_pos ht] at he
                  have Hx := hide (And.intro hst4 (And.intro hent4 he))
                  clear hT hst4 hent4 he hk1 ht
                  subst hTf
                  subst hd0
                  go_wp2_with fail
                  go_meet
                  exact ⟨rfl, (unhide Hx).1, by rw [(unhide Hx).2.2]; exact (unhide Hx).2.1, hbel4⟩
                · have hTf : T = true := by rw [hT]; simp [ht]; exact hk1
                  rw [if_neg ht] at he
                  have htp : 0 < texts.length := List.length_pos_iff.2 ht
                  obtain ⟨Q, hQ, hQl⟩ : ∃ Q : Nat, v / 80 % (texts.length : Int) = (Q : Int) ∧ Q < texts.length := ⟨(v / 80 % (texts.length : Int)).toNat, by have := Int.emod_nonneg (v / 80) (show (texts.length : Int) ≠ 0 by omega); omega, by have := Int.emod_lt_of_pos (v / 80) (show (0 : Int) < (texts.length : Int) by omega); have := Int.emod_nonneg (v / 80) (show (texts.length : Int) ≠ 0 by omega); omega⟩
                  obtain ⟨bt, ot, hat, hct⟩ : ∃ b o, at' = some ⟨b, o, none⟩ ∧ ∀ i (h : i < texts.length), wz.cell? ⟨b, o + i, none⟩ = some (strVal texts[i]) := by
                    rcases htx.below hbel4 (Nat.le_refl _) with h | h
                    · subst h; simp at htp
                    · exact h
                  have ck := hct Q hQl
                  unfold strVal at ck
                  have hlq := hts _ (List.getElem_mem hQl)
                  have he2 : (texts.getD (v / 80 % (texts.length : Int)).toNat []) = texts[Q] := by rw [hQ, Int.toNat_natCast, List.getD_eq_getElem?_getD, List.getElem?_eq_getElem hQl]; rfl
                  rw [he2] at he
                  generalize texts[Q] = tx at *
                  have hcc := keepCutM tx 60 wz (by omega) (by decide)
                  have q2 : (Q : Int) < (texts.length : Int) := by omega
                  have q3 : (0 : Int) < (texts.length : Int) := by omega
                  have Hx := hide (And.intro hst4 (And.intro hent4 he))
                  have Hhts := hide hts
                  have hbl4 := hbel4.size
                  clear hT hst4 hent4 he hk1 ht hct he2 htx hts htp
                  subst hat
                  subst hTf
                  subst hd0
                  go_wp2_with (go_at_call 31; refine hcc.mono ?_; rintro e w' ⟨rfl, hw'⟩; rw [hw']; clear hw' w')
                  go_meet
                  refine ⟨rfl, TrSt.put (unhide Hx).1 (unhide Hx).2.1 h5b, ?_, hbel4.setCell (by simp; omega) _⟩
                  rw [(unhide Hx).2.2]
                  exact heap_setCell_same wz b 2 _ _ _ (unhide Hx).2.1
            case rest =>
            clear hsw hent4 c0 c1 c2 f2 hT
            rename World => wy
            obtain ⟨rfl, hst3, hent, hbel3⟩ := hcut
            have hk30 : k < 30 := by omega
            have Hfin := hide (show treeP raw texts = (L ++ [entT dirs texts k v]) ++ treeG texts (((raw.take 30).map (fun c => pickP c 1099511627776)).drop (k + 1)) (k + 1) (dirT dirs k v) by
              rw [unhide Hgen, unhide Hdr]
              simp [treeG])
            have Hdi2 := hide (DirsIn.step (unhide Hdi) hk30 v)
            obtain ⟨h5, h6, h7⟩ := hst3
            generalize dirT dirs k v = D2 at *
            generalize entT dirs texts k v = x2 at *
            obtain ⟨yp, yk, yd⟩ := x2
            unfold EntC at hent
            simp only at hent
            have c0 := cell_of_block (j := 0) hent
            have c1 := cell_of_block (j := 1) hent
            have c2 := cell_of_block (j := 2) hent
            simp at c0 c1 c2
            have hlen : L.length ≤ 40 := by rw [unhide HLl]; omega
            have hbs3 := hbel3.size
            have Hent := hide hent
            have H67 := hide (And.intro h6 h7)
            clear hent h6 h7
            go_wp2_with (at_builtin; refine app_entry rfl (.tmp 120) (.tmp 122) rfl w.heap.size _ L rfl (World.ownsRow.alloc h5 _) ⟨wy.heap.size, 0, none⟩ ⟨yp, yk, yd⟩ rfl ?qa ?qb ?qc ?_)
            case qa =>
              intro j u hu
              have hbk := heap_alloc_new wy (.cells #[.string yp, .int .i64 yk, .string yd] 32)
              have hadd : (⟨wy.heap.size, 0, none⟩ : Addr).add j = ⟨wy.heap.size, j, none⟩ := by unfold Addr.add; split <;> simp_all
              rw [hadd]
              match j, hu with
              | 0, hu => simp [enCells] at hu; subst hu; exact cell_of_block hbk
              | 1, hu => simp [enCells] at hu; subst hu; exact cell_of_block hbk
              | 2, hu => simp [enCells] at hu; subst hu; exact cell_of_block hbk
              | j + 3, hu => simp [enCells] at hu
            case qb => omega
            case qc => simp; omega
            intro v4 w4 ho4 g4
            have hb4 : Below w.heap.size w w4 := (hbel3.alloc hbel3.size _).grown g4 (by simp; omega) (fun k hk => (World.ownsRow.lt h5 k hk).1)
            have K4 := Keeps.grown (World.ownsRow.alloc h5 _) g4
            have h6' := apart (World.ownsRow.alloc (unhide H67).1 _) K4 (by decide)
            have h7' := apart (World.ownsRow.alloc (unhide H67).2 _) K4 (by decide)
            have Hend := hide (TrSt.mk ho4 h6' h7')
            clear g4 K4 h6' h7'
            go_wp2_with fail
            refine ⟨⟨k + 1, _, D2, by omega, by go_num, unhide Hend, unhide Hdi2, by simp; exact unhide HLl, unhide Hfin, hb4⟩, ?_⟩
            simp [intOf]; omega
      · rw [decide_eq_false hlt]
        obtain rfl : k = N := by omega
        have Hr := hide (show treeP raw texts = L by rw [unhide Hgen, List.drop_of_length_le (by rw [unhide Hvl]; exact Nat.le_refl _)]; simp [treeG])
        go_wp2_with fail
        go_ret
        exact ⟨_, rfl, by rw [unhide Hr]; exact hst.l, hbel⟩
end Go.Proofs.YtjmacegibchplaaGreatDoor
