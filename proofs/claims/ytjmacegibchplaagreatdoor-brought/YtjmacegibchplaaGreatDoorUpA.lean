import Derived.Test.YtjmacegibchplaaGreatDoorBldLaw
import Derived.Test.YtjmacegibchplaaGreatDoorLnD
import Derived.Test.YtjmacegibchplaaGreatDoorOfB
/-
  The program's Build answers as the document's.
-/
namespace Go.Proofs.YtjmacegibchplaaGreatDoor
open Go.RowKit Go.Maps
set_option linter.unusedVariables false
set_option maxRecDepth 100000 in
set_option maxHeartbeats 1000000 in
theorem list_nil (root : ByteArray) (w : World) :
    Calls Tryz.prog 52 #[setV root none] w fun e w' => e = .returned (.slice none 0 0) ∧ Below w.heap.size w w' := by
  have hd := digests_nil root (w.alloc (.cells #[.string root, .map none] 77))
  unfold setV at hd
  have Hd := hide hd
  clear hd
  unfold setV
  go_enter Tryz.func52, Tryz.ntmps52
  go_wp2_with fail
  refine (unhide Hd).mono ?_
  rintro e w2 ⟨rfl, hb2⟩
  have hbb : Below w.heap.size w w2 := ((Below.refl _ _).alloc (Nat.le_refl _) _).trans (hb2.mono (by simp))
  clear hb2 Hd
  go_wp2_with fail
  refine wp_loop_rounds 1 ?_
  rw [rounds_succ]
  go_wp2_with fail
  go_ret
  exact ⟨rfl, hbb⟩
theorem kept_mem (l : List En) (ht : Tree l) (b : List UInt8) : b ∈ keptAll l ↔ b ∈ allP l := by
  unfold keptAll keptR allP allTo
  rw [List.take_length]
  simp only [List.mem_cons, List.mem_reverse, List.mem_flatMap]
  refine or_congr Iff.rfl ⟨?_, ?_⟩
  · rintro ⟨i, hi, hb⟩
    have hl := (walk_all l ht i).1 hi
    rw [en_getD l i hl] at hb
    exact ⟨_, List.getElem_mem hl, hb⟩
  · rintro ⟨e, he, hb⟩
    obtain ⟨i, hi, rfl⟩ := List.getElem_of_mem he
    exact ⟨i, (walk_all l ht i).2 hi, by rw [en_getD l i hi]; exact hb⟩
theorem list_mem (kr : List (List UInt8)) (hc : clashR kr = false) (b : List UInt8) : b ∈ listOf kr ↔ b ∈ kr := by
  unfold listOf
  simp only [List.mem_map, digs_mem]
  constructor
  · rintro ⟨d, ⟨x, hx, e⟩, hb⟩
    cases hl : lastR kr d with
    | none => exact absurd e (lastR_none hl x hx)
    | some y => rw [hl] at hb; simp at hb; subst hb; exact (lastR_some hl).1
  · intro hb
    refine ⟨P.digest b, ⟨b, hb, rfl⟩, ?_⟩
    cases hl : lastR kr (P.digest b) with
    | none => exact absurd rfl (lastR_none hl b hb)
    | some y =>
      obtain ⟨hy, e⟩ := lastR_some hl
      simp [clashR_false kr hc y hy b hb e]
theorem list_sorted (kr : List (List UInt8)) : (listOf kr).Pairwise (fun x y => dless x y = true) := by
  unfold listOf
  rw [List.pairwise_map]
  refine List.Pairwise.imp_of_mem ?_ (digs_sorted kr)
  intro a b ha hb hab
  have key : ∀ d, d ∈ digsOf kr → P.digest ((lastR kr d).getD []) = d := by
    intro d hd
    obtain ⟨y, hy⟩ := Option.isSome_iff_exists.1 ((lastR_isSome kr d).2 ((digs_mem kr d).1 hd))
    rw [hy]; exact (lastR_some hy).2
  unfold dless
  rw [key a ha, key b hb]; exact hab
theorem built_some (l : List En) (ht : Tree l) (hc : clashR (keptAll l) = false) : builtP l = some (listOf (keptAll l)) :=
  outs_of (allP l) (listOf (keptAll l)) (list_sorted _) (fun x => by rw [list_mem _ hc, kept_mem l ht]) (fun x hx y hy e => clashR_false _ hc x ((kept_mem l ht x).2 hx) y ((kept_mem l ht y).2 hy) e)
theorem built_none (l : List En) (ht : Tree l) (hc : clashR (keptAll l) = true) : builtP l = none := by
  obtain ⟨x, hx, y, hy, e, hne⟩ := clashR_true _ hc
  exact outs_none (allP l) x y ((kept_mem l ht x).1 hx) ((kept_mem l ht y).1 hy) e hne
theorem kept_len (l : List En) (ht : Tree l) : (digsOf (keptAll l)).length ≤ 100 := by
  have e : digsOf (keptAll l) = digsOf (allP l) := order_one less less_irr less_trans _ _ (digs_sorted _) (digs_sorted _) (fun d => by
    rw [digs_mem, digs_mem]
    constructor
    · rintro ⟨b, hb, h⟩; exact ⟨b, (kept_mem l ht b).1 hb, h⟩
    · rintro ⟨b, hb, h⟩; exact ⟨b, (kept_mem l ht b).2 hb, h⟩)
  have h1 := digs_len (allP l)
  have h2 := allTo_len l l.length (Nat.le_refl _)
  have h3 := ht.len
  rw [e]
  unfold allP at h1 ⊢
  omega
set_option maxRecDepth 100000 in
set_option maxHeartbeats 2000000 in
theorem progBuild : ProgBuild GlobOk := by
  intro l a c w hg hl hi hf
  go_enter Tryz.func24, Tryz.ntmps24
  go_wp2_with fail
  refine (of_any l a c w hl hi hf hg).mono ?_
  rintro e w1 ⟨hb1, h1⟩
  rcases h1 with ⟨hnt, rfl⟩ | ⟨ht, hes, rfl⟩ | ⟨ht, hes, hcl, rfl⟩ | ⟨ht, hes, hcl, um, n, hn, hum, rfl, hm⟩
  · have Hw := hide (wrong_no l hnt)
    clear hnt
    have hln := list_nil ⟨#[]⟩ ((w1.alloc (.cells #[.string ⟨#[]⟩, .map none] 77)).drew)
    unfold setV at hln
    have Hln := hide hln
    have hbA : Below w1.heap.size w1 (w1.alloc (.cells #[.string ⟨#[]⟩, .map none] 77)) := (Below.refl _ _).alloc (Nat.le_refl _) _
    clear hln
    go_wp2_with fail
    go_region_held3 (fun w' => w'.cell? ⟨w1.heap.size, 0, none⟩ = some (.string ⟨#[]⟩) ∧ w'.cell? ⟨w1.heap.size, 1, none⟩ = some (.map none))
      ((first | exact ⟨by assumption, by assumption⟩ | go_keep))
      ((go_at_call 52; refine (unhide Hln).mono ?_; rintro e w2 ⟨rfl, hb2⟩;
        have s0 := ((bcell hb2).1 w1.heap.size 0 (by simp)).trans (by simp : _ = some (.string ⟨#[]⟩));
        have s1 := ((bcell hb2).1 w1.heap.size 1 (by simp)).trans (by simp : _ = some (.map none))))
    all_goals go_wp2_with fail
    all_goals go_ret3
    all_goals
      have hbw : Below w.heap.size w w2 := hb1.trans ((Below.trans (b := (w1.alloc (.cells #[.string ⟨#[]⟩, .map none] 77)).drew) ⟨hbA.os, hbA.tape, hbA.output, hbA.size, hbA.block⟩ (hb2.mono hbA.size)).mono hb1.size)
      refine ⟨hbw, .inl ⟨by rw [unhide Hw]; decide, by rw [unhide Hw]; rfl⟩⟩
  · have Hw := hide (show wrongP l = 2 by rw [wrong_yes l ht, hes]; rfl)
    clear hes
    have hln := list_nil ⟨#[]⟩ ((w1.alloc (.cells #[.string ⟨#[]⟩, .map none] 77)).drew)
    unfold setV at hln
    have Hln := hide hln
    have hbA : Below w1.heap.size w1 (w1.alloc (.cells #[.string ⟨#[]⟩, .map none] 77)) := (Below.refl _ _).alloc (Nat.le_refl _) _
    clear hln
    go_wp2_with fail
    go_region_held3 (fun w' => w'.cell? ⟨w1.heap.size, 0, none⟩ = some (.string ⟨#[]⟩) ∧ w'.cell? ⟨w1.heap.size, 1, none⟩ = some (.map none))
      ((first | exact ⟨by assumption, by assumption⟩ | go_keep))
      ((go_at_call 52; refine (unhide Hln).mono ?_; rintro e w2 ⟨rfl, hb2⟩;
        have s0 := ((bcell hb2).1 w1.heap.size 0 (by simp)).trans (by simp : _ = some (.string ⟨#[]⟩));
        have s1 := ((bcell hb2).1 w1.heap.size 1 (by simp)).trans (by simp : _ = some (.map none))))
    all_goals go_wp2_with fail
    all_goals go_ret3
    all_goals
      have hbw : Below w.heap.size w w2 := hb1.trans ((Below.trans (b := (w1.alloc (.cells #[.string ⟨#[]⟩, .map none] 77)).drew) ⟨hbA.os, hbA.tape, hbA.output, hbA.size, hbA.block⟩ (hb2.mono hbA.size)).mono hb1.size)
      refine ⟨hbw, .inl ⟨by rw [unhide Hw]; decide, by rw [unhide Hw]; rfl⟩⟩
  · have Hw := hide (show wrongP l = 0 by rw [wrong_yes l ht, hes]; rfl)
    have Hn := hide (built_none l ht hcl)
    clear hes hcl
    have hln := list_nil ⟨#[]⟩ ((w1.alloc (.cells #[.string ⟨#[]⟩, .map none] 77)).drew)
    unfold setV at hln
    have Hln := hide hln
    have hbA : Below w1.heap.size w1 (w1.alloc (.cells #[.string ⟨#[]⟩, .map none] 77)) := (Below.refl _ _).alloc (Nat.le_refl _) _
    clear hln
    go_wp2_with fail
    go_region_held3 (fun w' => w'.cell? ⟨w1.heap.size, 0, none⟩ = some (.string ⟨#[]⟩) ∧ w'.cell? ⟨w1.heap.size, 1, none⟩ = some (.map none))
      ((first | exact ⟨by assumption, by assumption⟩ | go_keep))
      ((go_at_call 52; refine (unhide Hln).mono ?_; rintro e w2 ⟨rfl, hb2⟩;
        have s0 := ((bcell hb2).1 w1.heap.size 0 (by simp)).trans (by simp : _ = some (.string ⟨#[]⟩));
        have s1 := ((bcell hb2).1 w1.heap.size 1 (by simp)).trans (by simp : _ = some (.map none))))
    all_goals go_wp2_with fail
    all_goals go_ret3
    all_goals
      have hbw : Below w.heap.size w w2 := hb1.trans ((Below.trans (b := (w1.alloc (.cells #[.string ⟨#[]⟩, .map none] 77)).drew) ⟨hbA.os, hbA.tape, hbA.output, hbA.size, hbA.block⟩ (hb2.mono hbA.size)).mono hb1.size)
      refine ⟨hbw, .inr (.inl ⟨unhide Hw, unhide Hn, rfl⟩)⟩
  · have hsome := built_some l ht hcl
    have hw0 : wrongP l = 0 := by rw [wrong_yes l ht, hes]; rfl
    have hln := list_any (bs (P.digest (blobP l 6 []))) um n (keptAll l) ((w1.alloc (.cells #[.string (bs (P.digest (blobP l 6 []))), .map (some um)] 77)).drew) ((hm.alloc _).drew) hn (by have := kept_len l ht; omega)
    unfold setV at hln
    have Hln := hide hln
    have hbA : Below w1.heap.size w1 (w1.alloc (.cells #[.string (bs (P.digest (blobP l 6 []))), .map (some um)] 77)) := (Below.refl _ _).alloc (Nat.le_refl _) _
    have Hs := hide hsome
    have Hw := hide hw0
    generalize hR : bs (P.digest (blobP l 6 [])) = R at *
    have HR := hide hR
    clear hln hsome hw0 hR hm hes hcl
    go_wp2_with fail
    go_region_held3 (fun w' => w'.cell? ⟨w1.heap.size, 0, none⟩ = some (.string R) ∧ w'.cell? ⟨w1.heap.size, 1, none⟩ = some (.map (some um)))
      ((first | exact ⟨by assumption, by assumption⟩ | go_keep))
      ((go_at_call 52; refine (unhide Hln).mono ?_; rintro e w2 ⟨v, rfl, ho2, hb2⟩;
        have s0 := ((bcell hb2).1 w1.heap.size 0 (by simp)).trans (by simp : _ = some (.string R));
        have s1 := ((bcell hb2).1 w1.heap.size 1 (by simp)).trans (by simp : _ = some (.map (some um)))))
    all_goals go_wp2_with fail
    all_goals go_ret3
    all_goals
      have hbw : Below w.heap.size w w2 := hb1.trans ((Below.trans (b := (w1.alloc (.cells #[.string R, .map (some um)] 77)).drew) ⟨hbA.os, hbA.tape, hbA.output, hbA.size, hbA.block⟩ (hb2.mono hbA.size)).mono hb1.size)
      refine ⟨hbw, .inr (.inr ⟨listOf (keptAll l), v, unhide Hw, unhide Hs, by rw [unhide HR]; rfl, ho2.weak' (by have := hb1.size; simp; omega)⟩)⟩
end Go.Proofs.YtjmacegibchplaaGreatDoor

/-
  Batches in memory: a list of lists of texts, each in a row of its own.
-/
namespace Go.Proofs.YtjmacegibchplaaGreatDoor
open Go.RowKit Go.Maps Go.WideMaps
set_option linter.unusedVariables false
theorem wp_app_at {w : World} {ops : Array Oper} {rest : List Oper} {o : Oper} {a : Act} {Q : Exit → Act → World → Prop} (hgd : o.guard = none) (s x : Operand) (t : TypeId)
    (ho : o.op = .call { callee := .builtin .append, args := #[s, x], argTypes := #[t, t] }) (base : Nat) (e : TypeId) (i : TypeInfo) (z : Value) (bytes : Nat) (ht : Tryz.prog.underlying t = some (.slice e)) (hi : Tryz.prog.info? e = some i) (hz : i.zero = some z)
    (hsize : i.size = 1) (hby : i.bytes = bytes) (hzs : z.cells.size = 1) (v : Value) (n : Nat) (xs : List Value) (hs : a.eval s = v) (hown : w.ownsRow base e 1 v n xs)
    (ad : Addr) (y : Value) (hx : a.eval x = .slice (some ad) 1 1) (hnews : w.cell? (ad.add 0) = some y) (h1 : y.oneCell' = true) (h63 : n + 1 ≤ maxLen) (hbytes : (n + 1) * bytes ≤ 140737488355328) (hbase : base ≤ w.heap.size)
    (h : ∀ v' w', w'.ownsRow base e 1 v' (n + 1) (xs ++ [y]) → w.grownBy w' v.ownBlock → (v'.ownBlock = v.ownBlock ∨ v'.ownBlock = some w.heap.size) → wpList Tryz.prog ops Q rest (a.put o.dst v') w') : wpList Tryz.prog ops Q (o :: rest) a w := by
  refine wpList_plain hgd fun K' hK' => ?_
  obtain ⟨v', w', hrun, r1, r2, _, r4⟩ := run_append_own_at (P := Tryz.prog) w base t o.type e i z 1 bytes ht hi hz hsize hby hzs (by decide) v n xs hown ad 1 1 [y] rfl (fun j u hj => by
    match j, hj with
    | 0, hj => simp at hj; subst hj; exact hnews) (fun u hu => by simp at hu; subst hu; exact h1) h63 hbytes hbase
  unfold Oper.wp
  simp [execOp, ho, resolve, invoke, builtin, hs, hx, hrun, Result.andThen]
  exact hK' _ _ (h v' w' r1 r2 r4)
theorem row_set {w : World} {base e n g i : Nat} {v v' : Value} {xs : List Value} (h : w.ownsRow base e 1 v n xs) (hg : v.ownBlock = some g) : (w.setCell ⟨g, i, none⟩ v').ownsRow base e 1 v n (xs.set i v') := by
  obtain ⟨h1, h2⟩ := h
  refine ⟨by rw [List.length_set]; exact h1, ?_⟩
  rcases h2 with ⟨rfl, _⟩ | ⟨g', cap, cur, rfl, hb, hgg, q1, q2, q3, q4⟩
  · simp [Value.ownBlock] at hg
  · simp only [Value.ownBlock] at hg
    obtain rfl := Option.some.inj hg
    refine .inr ⟨g', cap, cur.setIfInBounds i v', rfl, hb, heap_setCell_same w g' i cur e v' hgg, q1, q2, by simpa using q3, ?_⟩
    rw [← q4]
    simp [List.take_set]
theorem row_shape {w : World} {base e size n : Nat} {v : Value} {xs : List Value} (h : w.ownsRow base e size v n xs) : ∃ a c, v = .slice a n c := by
  rcases h.2 with ⟨rfl, rfl⟩ | ⟨g, cap, cur, rfl, _⟩
  · exact ⟨none, 0, rfl⟩
  · exact ⟨_, _, rfl⟩
theorem row_at {w : World} {base e n : Nat} {v : Value} {xs : List Value} (h : w.ownsRow base e 1 v n xs) (i : Nat) (hi : i < xs.length) : ∃ g cap cur, v = .slice (some ⟨g, 0, none⟩) n cap ∧ v.ownBlock = some g ∧ w.heap[g]? = some (.cells cur e (0, 0)) ∧ cur[i]? = some xs[i] := by
  obtain ⟨h1, h2⟩ := h
  rcases h2 with ⟨rfl, rfl⟩ | ⟨g, cap, cur, rfl, hb, hgg, q1, q2, q3, q4⟩
  · simp at h1; subst h1; simp at hi
  · refine ⟨g, cap, cur, rfl, rfl, hgg, ?_⟩
    rw [Nat.mul_one] at q4 h1
    have : (cur.toList.take n)[i]? = some xs[i] := by rw [q4]; exact List.getElem?_eq_getElem hi
    rw [List.getElem?_take_of_lt (by omega)] at this
    simpa using this
theorem own_types {w : World} {base base' e e' n n' size size' g : Nat} {v v' : Value} {xs xs' : List Value} (h : w.ownsRow base e size v n xs) (h' : w.ownsRow base' e' size' v' n' xs') (he : e ≠ e') (hg : v.ownBlock = some g) : v'.ownBlock ≠ some g := by
  intro hg'
  rcases h.2 with ⟨rfl, _⟩ | ⟨g1, cap, cur, rfl, _, hgg, _⟩
  · simp [Value.ownBlock] at hg
  · rcases h'.2 with ⟨rfl, _⟩ | ⟨g2, cap2, cur2, rfl, _, hgg2, _⟩
    · simp [Value.ownBlock] at hg'
    · simp only [Value.ownBlock] at hg hg'
      obtain rfl := Option.some.inj hg
      obtain rfl := Option.some.inj hg'
      rw [hgg] at hgg2
      simp at hgg2
      exact he hgg2.2
theorem own_cells {w : World} {base e n size g b t : Nat} {v : Value} {xs : List Value} {cur : Array Value} {fz : Nat × Nat} (h : w.ownsRow base e size v n xs) (hg : v.ownBlock = some g) (hb : w.heap[b]? = some (.cells cur t fz)) (he : t ≠ e) : g ≠ b := by
  rcases h.2 with ⟨rfl, _⟩ | ⟨g1, cap, cur1, rfl, _, hgg, _⟩
  · simp [Value.ownBlock] at hg
  · simp only [Value.ownBlock] at hg
    obtain rfl := Option.some.inj hg
    intro e1
    rw [← e1, hgg] at hb
    simp at hb
    exact he hb.2.1.symm
theorem info_sl : (Tryz.prog.info? 23).map (fun i => (i.zero, i.size, i.bytes)) = some (some (.slice none 0 0), 1, 24) := by kernel_rfl
structure Bats (w : World) (base : Nat) (v : Value) (vs : List Value) (ls : List (List (List UInt8))) : Prop where
  row : w.ownsRow base 23 1 v vs.length vs
  len : vs.length = ls.length
  own : ∀ i (h : i < vs.length), OwnsS w base vs[i] (ls.getD i [])
  apart : ∀ i j (hi : i < vs.length) (hj : j < vs.length) g, vs[i].ownBlock = some g → vs[j].ownBlock = some g → i = j
theorem Bats.nil (w : World) (base : Nat) : Bats w base (.slice none 0 0) [] [] := ⟨World.ownsRow_nil _ _ _ _, rfl, fun i h => by simp at h, fun i j hi => by simp at hi⟩
theorem Bats.same {w w' : World} {base : Nat} {v : Value} {vs : List Value} {ls : List (List (List UInt8))} (h : Bats w base v vs ls) (hs : ∀ b, base ≤ b → b < w.heap.size → w'.heap[b]? = w.heap[b]?) : Bats w' base v vs ls :=
  ⟨ownsRow_same h.row (fun g hg => hs g (World.ownsRow.lt h.row g hg).1 (own_lt h.row hg)), h.len, fun i hi => ownsRow_same (h.own i hi) (fun g hg => hs g (World.ownsRow.lt (h.own i hi) g hg).1 (own_lt (h.own i hi) hg)), h.apart⟩
theorem t_sl : 9 ≠ 23 := by decide
theorem getD_left {α : Type} (a b : List α) (z : α) (i : Nat) (h : i < a.length) : (a ++ b).getD i z = a.getD i z := by
  rw [List.getD_eq_getElem?_getD, List.getD_eq_getElem?_getD, List.getElem?_append_left h]
theorem getD_last {α : Type} (a : List α) (x z : α) : (a ++ [x]).getD a.length z = x := by
  rw [List.getD_eq_getElem?_getD, List.getElem?_append_right (Nat.le_refl _)]; simp
theorem Bats.new {w w' : World} {base : Nat} {v v' : Value} {vs : List Value} {ls : List (List (List UInt8))} (h : Bats w base v vs ls) (hr : w'.ownsRow base 23 1 v' (vs.length + 1) (vs ++ [.slice none 0 0])) (hg : w.grownBy w' v.ownBlock) : Bats w' base v' (vs ++ [.slice none 0 0]) (ls ++ [[]]) := by
  refine ⟨by simpa using hr, by simp [h.len], fun i hi => ?_, fun i j hi hj g hgi hgj => ?_⟩
  · by_cases hlt : i < vs.length
    · have ho := h.own i hlt
      rw [List.getElem_append_left hlt, getD_left _ _ _ _ (by rw [← h.len]; exact hlt)]
      exact ownsRow_same ho (fun g hgg => hg.block g (own_lt ho hgg) (fun e => own_types ho h.row t_sl hgg e.symm))
    · have : i = vs.length := by simp at hi; omega
      subst this
      have e : (ls ++ [[]]).getD vs.length [] = [] := by rw [h.len, getD_last]
      rw [List.getElem_append_right (Nat.le_refl _), e]
      simp
      exact World.ownsRow_nil _ _ _ _
  · by_cases hi' : i < vs.length
    · by_cases hj' : j < vs.length
      · rw [List.getElem_append_left hi'] at hgi
        rw [List.getElem_append_left hj'] at hgj
        exact h.apart i j hi' hj' g hgi hgj
      · rw [List.getElem_append_right (by omega)] at hgj
        simp [Value.ownBlock] at hgj
    · rw [List.getElem_append_right (by omega)] at hgi
      simp [Value.ownBlock] at hgi
theorem Bats.put {w w4 : World} {base n g : Nat} {v u : Value} {vs : List Value} {ls : List (List (List UInt8))} {x : List UInt8} (o : Obj) (h : Bats w base v vs ls) (hn : vs.length = n + 1) (hgv : v.ownBlock = some g) (hg4 : (w.alloc o).grownBy w4 ((vs[n]'(by omega)).ownBlock)) (ho : OwnsS w4 base u (ls.getD n [] ++ [x])) (hloc : u.ownBlock = (vs[n]'(by omega)).ownBlock ∨ u.ownBlock = some (w.alloc o).heap.size) :
    Bats (w4.setCell ⟨g, n, none⟩ u) base v (vs.set n u) (ls.set n (ls.getD n [] ++ [x])) := by
  have hnl : n < ls.length := by rw [← h.len]; omega
  have hrow4 : w4.ownsRow base 23 1 v vs.length vs := ownsRow_same h.row (fun g' hg' => (hg4.block g' (by have := own_lt h.row hg'; simp; omega) (fun e => own_types (h.own n (by omega)) h.row t_sl e.symm hg')).trans (Below.heap_alloc w o g' (own_lt h.row hg')))
  refine ⟨by rw [List.length_set]; exact row_set hrow4 hgv, by simp [h.len], fun i hi => ?_, fun i j hi hj g' hgi hgj => ?_⟩
  · rw [List.length_set] at hi
    by_cases hin : i = n
    · subst hin
      rw [List.getElem_set_self, List.getD_eq_getElem?_getD, List.getElem?_set_self hnl]
      refine ownsRow_same ho (fun g' hg' => Below.heap_setCell _ _ _ _ ?_)
      intro e
      exact own_types ho hrow4 t_sl hg' (by rw [hgv, e])
    · rw [List.getElem_set_ne (Ne.symm hin), List.getD_eq_getElem?_getD, List.getElem?_set_ne (Ne.symm hin), ← List.getD_eq_getElem?_getD]
      have hoi := h.own i hi
      refine ownsRow_same hoi (fun g' hg' => ?_)
      have hlt := own_lt hoi hg'
      refine (Below.heap_setCell _ _ _ _ ?_).trans ((hg4.block g' (by simp; omega) (fun e => hin (h.apart i n hi (by omega) g' hg' e.symm))).trans (Below.heap_alloc w o g' hlt))
      intro e
      exact own_types hoi h.row t_sl hg' (by rw [hgv, e])
  · have hi2 : i < vs.length := by simpa using hi
    have hj2 : j < vs.length := by simpa using hj
    have key : ∀ i (hi : i < vs.length), i ≠ n → ∀ g', vs[i].ownBlock = some g' → u.ownBlock ≠ some g' := by
      intro i hi hin g' hgi e
      rcases hloc with hl | hl
      · rw [hl] at e; exact hin (h.apart i n hi (by omega) g' hgi e)
      · rw [hl] at e
        have := own_lt (h.own i hi) hgi
        have := Option.some.inj e
        simp at this
        omega
    by_cases hi' : i = n
    · by_cases hj' : j = n
      · rw [hi', hj']
      · subst hi'
        rw [List.getElem_set_self] at hgi
        rw [List.getElem_set_ne (Ne.symm hj')] at hgj
        exact absurd hgi (key j hj2 hj' g' hgj)
    · rw [List.getElem_set_ne (Ne.symm hi')] at hgi
      by_cases hj' : j = n
      · subst hj'
        rw [List.getElem_set_self] at hgj
        exact absurd hgj (key i hi2 hi' g' hgi)
      · rw [List.getElem_set_ne (Ne.symm hj')] at hgj
        exact h.apart i j hi2 hj2 g' hgi hgj
theorem bat_set (ls : List (List (List UInt8))) (n : Nat) (x : List UInt8) (h : ls.length = n + 1) : ls.dropLast ++ [ls.getLastD [] ++ [x]] = ls.set n (ls.getD n [] ++ [x]) := by
  obtain ⟨d, c, rfl⟩ : ∃ d c, ls = d ++ [c] := ⟨ls.dropLast, ls.getLast (by intro e; subst e; simp at h), (List.dropLast_concat_getLast _).symm⟩
  have hd : d.length = n := by simpa using h
  subst hd
  rw [(bat_last d c).1, (bat_last d c).2]
  simp
end Go.Proofs.YtjmacegibchplaaGreatDoor
