import Derived.Test.YtjmacegibchplaaGreatDoorLcH
import Derived.Test.YtjmacegibchplaaGreatDoorLcA
import Derived.Test.YtjmacegibchplaaGreatDoorLawC
import Derived.Test.YtjmacegibchplaaGreatDoorUpA
import Derived.Test.YtjmacegibchplaaGreatDoorFtB
import Derived.Test.YtjmacegibchplaaGreatDoorLcC
import Derived.Test.YtjmacegibchplaaGreatDoorEntB
namespace Go.Proofs.YtjmacegibchplaaGreatDoor
open Go.RowKit Go.Maps Go.WideMaps
set_option linter.unusedVariables false
set_option maxRecDepth 100000 in
set_option maxHeartbeats 1000000 in
theorem refFetch_any (st : List (List UInt8 × List UInt8)) (rb : Nat) (v1 v2 : Value) (dbase : Nat) (room : Int) (root : List UInt8) (ents dep : Int) (w : World) (h : DS w rb v1 v2 dbase room st) (hst : st.length ≤ maxLen) (hsz : ∀ d b, atP st d = some b → b.length ≤ 1100000) :
  Calls Tryz.prog 167 #[.pointer (some ⟨rb, 0, none⟩), .string (bs root), .int .i64 ents, .int .i64 dep] w fun e w' => FetEnd (atP st) root ents dep w e w' := by
 have Hbl := hide (refBlob_any st rb room root w hst h.r (hsz root))
 have hbo := blobS_ok (S := atP st) (d := root)
 have hfe : fetchP (atP st) root ents dep = if (blobS (atP st) root).1 ≠ 0 then ((blobS (atP st) root).1, []) else if (belowF (atP st) ents dep 6 1 (blobS (atP st) root).2 [] []).1 ≠ 0 then ((belowF (atP st) ents dep 6 1 (blobS (atP st) root).2 [] []).1, []) else belowF (atP st) ents dep 6 1 (blobS (atP st) root).2 [] [] := rfl
 generalize blobS (atP st) root = B at *
 obtain ⟨be, bb⟩ := B
 simp only at hfe hbo Hbl
 have Hfe := hide hfe
 have Hh := hide h
 clear hfe h
 go_enter Tryz.func167, Tryz.ntmps167
 go_wp2_with fail
 refine (unhide Hbl).mono ?_
 rintro e W1 ⟨rfl, n1, hW1⟩
 have hb1 : Below w.heap.size w W1 := by rw [hW1]; exact below_drewN (Below.refl _ _) n1
 have hz1 : W1.heap.size = w.heap.size := by rw [hW1]; simp
 clear hW1 Hbl
 by_cases hbe : be = 0
 ·subst hbe
  have hbb := hsz root bb (hbo rfl).1
  have hd1 := DSt.below (unhide Hh) hb1 (Nat.le_refl _)
  have hbF : Below W1.heap.size W1 (W1.alloc (.cells #[.pointer (some ⟨rb, 0, none⟩), .int .i64 ents, .int .i64 dep, .slice none 0 0] 217)) := (Below.refl _ _).alloc (Nat.le_refl _) _
  have hF := heap_alloc_new W1 (.cells #[.pointer (some ⟨rb, 0, none⟩), .int .i64 ents, .int .i64 dep, .slice none 0 0] 217)
  obtain ⟨W2, hW2⟩ : ∃ W2, W1.alloc (.cells #[.pointer (some ⟨rb, 0, none⟩), .int .i64 ents, .int .i64 dep, .slice none 0 0] 217) = W2 := ⟨_, rfl⟩
  rw [hW2] at hbF hF
  rw [hz1] at hF
  have hFB : FB W2 w.heap.size w.heap.size (.slice none 0 0) [] ents dep rb v1 v2 dbase room st := ⟨hF, World.ownsRow_nil _ _ _ _, by have := hbF.size; omega, by simp, DSt.below hd1 hbF (Nat.le_refl _), fun x hx => (unhide Hh).setLt x hx, Nat.le_refl _⟩
  have hbel := below_all w.heap.size w.heap.size ents dep rb v1 v2 dbase room st hst hsz 5 0 rfl [] bb (.slice none 0 0) [] W2 (by simp) (by omega) hFB
  simp only [Int.ofNat_zero, Int.zero_add] at hbel
  rw [show bs (pre []) = ⟨#[]⟩ from rfl] at hbel
  unfold BEnd at hbel
  have Hfe2 := hide ((unhide Hfe).trans (if_neg (by simp)))
  have hbw2 := hb1.trans (hbF.mono hb1.size)
  generalize belowF (atP st) ents dep 6 1 bb [] [] = q at *
  obtain ⟨qe, qo⟩ := q
  simp only at hbel Hfe2
  have Hbel := hide hbel
  have HW2 := hide hW2
  clear hbel hW2 hFB hd1 hF hbo Hfe
  go_wp2_with fail
  rw [unhide HW2]
  refine (unhide Hbel).mono ?_
  rintro e W3 ⟨rfl, hf3, hq3⟩
  have hbw3 : Below w.heap.size w W3 := hbw2.trans (hf3.toBelow hbw2.size (fun x hx => by
   rcases hx with e | e
   ·omega
   ·simp [Value.ownBlock] at e))
  clear Hbel hf3 hbF hb1 hbw2
  by_cases hqe : qe = 0
  ·subst hqe
   obtain ⟨v3, hF3, -⟩ := hq3 rfl
   have k3 := cell_of_block (j := 3) hF3.f
   simp only [List.getElem?_toArray, List.getElem?_cons_zero, List.getElem?_cons_succ] at k3
   have hl3 := hF3.lt
   obtain ⟨a3, c3, rfl⟩ := row_shape hF3.own
   have H3 := hide (And.intro hF3.own hbw3)
   have Hr := hide ((unhide Hfe2).trans (if_neg (by simp)))
   clear hF3 hq3 hbw3 Hfe2
   go_wp2_with fail
   go_ret2
   exact ⟨(unhide H3).2, _, by (rw [unhide Hr]; first | done | rfl), by rw [unhide Hr]; exact (unhide H3).1⟩
  ·have Hr := hide ((unhide Hfe2).trans (if_pos hqe))
   have bq : (qe == 0) = false := by simpa using hqe
   have H3 := hide hbw3
   clear hq3 hbw3 Hfe2
   go_wp2_with fail
   go_ret2
   exact ⟨unhide H3, _, by (rw [unhide Hr]; first | done | rfl), by rw [unhide Hr]; exact World.ownsRow_nil _ _ _ _⟩
 ·have Hr := hide ((unhide Hfe).trans (if_pos hbe))
  have bq : (be == 0) = false := by simpa using hbe
  have H3 := hide hb1
  clear hb1 hbo Hfe Hh
  go_wp2_with fail
  go_ret2
  exact ⟨unhide H3, _, by (rw [unhide Hr]; first | done | rfl), by rw [unhide Hr]; exact World.ownsRow_nil _ _ _ _⟩
theorem fetch_none (S : List UInt8 → Option (List UInt8)) (root : List UInt8) (ents dep : Int) (h : (fetchP S root ents dep).1 ≠ 0) : (fetchP S root ents dep).2 = [] := by
 unfold fetchP at h ⊢
 split
 ·rfl
 ·rename_i h1
  rw [if_neg h1] at h
  simp only at h ⊢
  split
  ·rfl
  ·rename_i h2
   rw [if_neg h2] at h
   exact absurd h h2
theorem fetch_len (S : List UInt8 → Option (List UInt8)) (root : List UInt8) (ents dep : Int) : (fetchP S root ents dep).2.length ≤ 40 := by
 by_cases h : (fetchP S root ents dep).1 = 0
 ·have hh := h
  unfold fetchP at h ⊢
  split
  ·simp
  ·rename_i h1
   rw [if_neg h1] at h
   simp only at h ⊢
   split
   ·simp
   ·rename_i h2
    exact (belowF_flat S ents dep 6 1 (blobS S root).2 [] [] (belowF S ents dep 6 1 (blobS S root).2 [] []).2 (by simp) (by rw [← Decidable.not_not.1 h2])).1
 ·rw [fetch_none S root ents dep h]; simp
set_option maxRecDepth 100000 in
set_option maxHeartbeats 4000000 in
theorem fetched_any (root : List UInt8) (ents dep : Int) (pp sb pb um n rb : Nat) (v1 v2 : Value) (base : Nat) (room : Int) (st : List (List UInt8 × List UInt8)) (w : World) (h : Pair w pp sb pb um n rb v1 v2 base room st) (hg : GlobOk w) (hd : root.length ≤ maxLen) (hst : st.length ≤ maxLen) (hsz : ∀ d b, atP st d = some b → b.length ≤ 1100000) :
  Calls Tryz.prog 123 #[.pointer (some ⟨pp, 0, none⟩), .string (bs root), .int .i64 ents, .int .i64 dep] w fun e w' => ∃ v, e = .returned (.tuple #[v, .bool true]) ∧ OwnsE w' w.heap.size v (fetchP (atP st) root ents dep).2 ∧ Below w.heap.size w w' := by
 have H1 := hide (cFetch_any st sb pb um n room root ents dep w h.c hg hd (fun d b e => by have := hsz d b e; omega))
 have hln := fetch_len (atP st) root ents dep
 have hno := fetch_none (atP st) root ents dep
 have H2 := hide (fun W (hW : Below w.heap.size w W) => refFetch_any st rb v1 v2 base room root ents dep W (DSt.below h.d hW (Nat.le_refl _)) hst hsz)
 have hlp := h.lt pp (.inl rfl)
 have y0 := cell_of_block (j := 0) h.p
 have y1 := cell_of_block (j := 1) h.p
 simp only [List.getElem?_toArray, List.getElem?_cons_zero, List.getElem?_cons_succ] at y0 y1
 unfold FetEnd at H1 H2
 generalize fetchP (atP st) root ents dep = F at *
 obtain ⟨fe, fo⟩ := F
 simp only at H1 H2 hln hno ⊢
 clear h hg hsz
 go_enter Tryz.func123, Tryz.ntmps123
 go_wp2_with fail
 refine (unhide H1).mono ?_
 rintro e W1 ⟨hb1, u1, rfl, ho1⟩
 have y1' := (hb1.cell (p := ⟨pp, 1, none⟩) hlp).trans y1
 have hlp1 : pp < W1.heap.size := by have := hb1.size; omega
 obtain ⟨a1, c1, rfl⟩ := row_shape ho1
 have H2' := hide (unhide H2 W1 hb1)
 have Ho1 := hide (And.intro ho1 hb1)
 clear ho1 hb1 y0 y1 H1 H2
 go_wp2_with fail
 refine (unhide H2').mono ?_
 rintro e W2 ⟨hb2, u2, rfl, ho2⟩
 obtain ⟨ho1, hb1⟩ := unhide Ho1
 have ho1' : OwnsE W2 w.heap.size (.slice a1 fo.length c1) fo := own_fr ho1 (Fr.below (S := fun _ => False) hb2) (fun _ _ hh => hh)
 have hbw2 := hb1.trans (hb2.mono hb1.size)
 obtain ⟨b1, d1, e1, l1, -⟩ := OwnsE.lies ho1'
 obtain ⟨b2, d2, e2, l2, -⟩ := OwnsE.lies ho2
 subst e2
 obtain ⟨rfl, rfl⟩ : a1 = b1 ∧ c1 = d1 := by simpa using e1
 have Hs := hide (sameEntries_same fo a1 b2 c1 d2 W2 (by unfold maxLen; omega) l1 l2)
 have H3 := hide (And.intro ho1' hbw2)
 clear ho1 hb1 ho1' hbw2 l1 l2 ho2 hb2 H2' Ho1 y1' e1
 go_wp2_with fail
 refine (unhide Hs).mono ?_
 rintro e W3 ⟨rfl, n3, hW3⟩
 have hb3 : Below W2.heap.size W2 W3 := by rw [hW3]; exact below_drewN (Below.refl _ _) _
 have H4 := hide (show OwnsE W3 w.heap.size (.slice a1 fo.length c1) fo ∧ Below w.heap.size w W3 from ⟨own_fr (unhide H3).1 (Fr.below (S := fun _ => False) hb3) (fun _ _ hh => hh), (unhide H3).2.trans (hb3.mono (unhide H3).2.size)⟩)
 clear hW3 hb3 H3 Hs
 by_cases hfe : fe = 0
 ·subst hfe
  go_wp2_with fail
  go_ret2
  exact ⟨_, by first | rfl | simp, unhide H4⟩
 ·have hfo := hno hfe
  subst hfo
  have bq : (fe == 0) = false := by simpa using hfe
  go_wp2_with fail
  go_ret2
  exact ⟨_, by first | rfl | simp, unhide H4⟩
theorem row_put (cur : Array Value) (news : List Value) (a : Nat) (h : a + news.length ≤ cur.size) (i : Nat) :
  (cur.toList.take a ++ news ++ cur.toList.drop (a + news.length)).toArray[i]? = if i < a then cur[i]? else if i < a + news.length then news[i - a]? else cur[i]? := by
 have hl : (cur.toList.take a).length = a := by simp; omega
 rw [List.getElem?_toArray, List.append_assoc]
 by_cases h1 : i < a
 ·rw [List.getElem?_append_left (by omega), if_pos h1, List.getElem?_take_of_lt h1]
  simp
 ·rw [List.getElem?_append_right (by omega), if_neg h1, hl]
  by_cases h2 : i < a + news.length
  ·rw [List.getElem?_append_left (by omega), if_pos h2]
  ·rw [List.getElem?_append_right (by omega), if_neg h2, List.getElem?_drop, show a + news.length + (i - a - news.length) = i by omega]
   simp
structure AppOld (base : Nat) (e : TypeId) (size : Nat) (v : Value) (n m : Nat) (xs news : List Value) (w w' : World) : Prop where
 old : w'.ownsRow base e size v n xs
 cells : ∀ g cur, v.ownBlock = some g → w.heap[g]? = some (.cells cur e (0, 0)) → ∃ cur', w'.heap[g]? = some (.cells cur' e (0, 0)) ∧ cur'.size = cur.size ∧ ∀ i, cur'[i]? = cur[i]? ∨ (n * size ≤ i ∧ i < n * size + news.length ∧ cur'[i]? = news[i - n * size]?)
theorem run_append_two {P : Program} (w : World) (base : Nat) (t ty e : TypeId) (i : TypeInfo) (z : Value) (size bytes : Nat) (ht : P.underlying t = some (.slice e)) (hi : P.info? e = some i) (hz : i.zero = some z)
  (hsize : i.size = size) (hby : i.bytes = bytes) (hzs : z.cells.size = size) (hsz : 0 < size)
  (v : Value) (n : Nat) (xs : List Value) (hown : w.ownsRow base e size v n xs)
  (a : Addr) (m c : Nat) (hm0 : 0 < m) (news : List Value) (hl : news.length = m * size) (hnews : ∀ j u, news[j]? = some u → w.cell? (a.add j) = some u) (h1 : ∀ u ∈ news, u.oneCell' = true)
  (h63 : n + m ≤ maxLen) (hbytes : (n + m) * bytes ≤ 140737488355328) (hbase : base ≤ w.heap.size) :
  ∃ v' w', (Builtin.append_ #[t, t] ty #[v, .slice (some a) m c]).run P w = .ok v' w' ∧ w'.ownsRow base e size v' (n + m) (xs ++ news) ∧ w.grownBy w' v.ownBlock ∧
   (v'.ownBlock = v.ownBlock ∨ v'.ownBlock = some w.heap.size) ∧ AppOld base e size v n m xs news w w' := by
 subst hsize
 subst hby
 have hsmall : n + m ≤ 9223372036854775807 := by simp only [maxLen] at h63; omega
 have hlen : (xs ++ news).length = (n + m) * i.size := by rw [List.length_append, hown.1, hl, Nat.add_mul]
 have grown : ∀ (old : Nat), old < n + m → ∀ (row : Option Nat),
   (w.drew.alloc (.cells (xs.toArray ++ news.toArray ++ Builtin.zeroCells z.cells (grownCap w (n + m) old e - (n + m))) e)).ownsRow base e i.size
    (.slice (some ⟨w.heap.size, 0, none⟩) (n + m) (grownCap w (n + m) old e)) (n + m) (xs ++ news) ∧
   w.grownBy (w.drew.alloc (.cells (xs.toArray ++ news.toArray ++ Builtin.zeroCells z.cells (grownCap w (n + m) old e - (n + m))) e)) row := by
  intro old ho row
  have hge := grownCap_ge w (n + m) old e
  have hcm : grownCap w (n + m) old e ≤ maxLen := grownCap_le_maxLen w (n + m) old e h63
  refine ⟨⟨hlen, .inr ⟨w.heap.size, _, _, rfl, hbase, heap_alloc_new w.drew _, hge, hcm, ?_, ?_⟩⟩, ⟨rfl, rfl, rfl, by simp, fun k hk _ => heap_alloc_old w.drew _ hk⟩⟩
  ·simp only [Array.size_append, List.size_toArray, size_zeroCells, hzs, hown.1, hl, ← Nat.add_mul]
   congr 1
   omega
  ·simp only [Array.toList_append, List.append_assoc]
   rw [← List.append_assoc, ← hlen]
   exact List.take_left
 rcases hown.2 with ⟨rfl, rfl⟩ | ⟨g, cap, cur, rfl, hbg, hg, hnc, hcm, hcs, htake⟩
 ·have hx : xs = [] := List.eq_nil_of_length_eq_zero (by simpa using hown.1)
  subst hx
  have hr := run_append_nil (P := P) w t ty e i z ht hi hz a m c news hl hnews (by omega) (by omega) (by have hb := hbytes; simp only [Nat.zero_add] at hb; omega)
  have hgr := grown 0 (by omega) (Value.ownBlock (.slice none 0 0))
  simp only [Nat.zero_add, List.nil_append, Array.empty_append] at hgr ⊢
  exact ⟨_, _, hr, hgr.1, hgr.2, Or.inr rfl, World.ownsRow_nil _ _ _ _, fun g cur h => by simp [Value.ownBlock] at h⟩
 ·by_cases hroom : n + m ≤ cap
  ·have hfit : n * i.size + news.length ≤ cur.size := by rw [hl, hcs, ← Nat.add_mul]; exact Nat.mul_le_mul_right _ hroom
   have hr := run_append_room (P := P) w t ty e i ht hi g n cap cur hg a m c news hl hnews h1 hroom hfit
   have hcsz : (cur.toList.take (n * i.size) ++ news ++ cur.toList.drop (n * i.size + news.length)).toArray.size = cap * i.size := by
    simp only [List.size_toArray, List.length_append, List.length_take, List.length_drop, Array.length_toList]
    omega
   have hh := setRow_heap w g cur (cur.toList.take (n * i.size) ++ news ++ cur.toList.drop (n * i.size + news.length)).toArray e _ hg
   refine ⟨_, _, hr, ⟨hlen, .inr ⟨g, cap, _, rfl, hbg, hh, hroom, hcm, hcsz, ?_⟩⟩, ⟨rfl, rfl, rfl, by simp, fun k _ hk => setRow_other w g k _ (fun e => hk (by simp [Value.ownBlock, e]))⟩, Or.inl rfl, ⟨hown.1, .inr ⟨g, cap, _, rfl, hbg, hh, hnc, hcm, hcsz, ?_⟩⟩, ?_⟩
   ·rw [htake, ← hlen]
    exact List.take_left
   ·rw [htake, List.append_assoc, ← hown.1]
    exact List.take_left
   ·intro g' cur0 hg' hc0
    obtain rfl : g = g' := by simpa [Value.ownBlock] using hg'
    rw [hg] at hc0
    obtain rfl : cur = cur0 := by simpa using hc0
    refine ⟨_, hh, by rw [hcsz, hcs], fun j => ?_⟩
    rw [row_put cur news (n * i.size) hfit j]
    by_cases q1 : j < n * i.size
    ·rw [if_pos q1]; exact .inl rfl
    ·rw [if_neg q1]
     by_cases q2 : j < n * i.size + news.length
     ·rw [if_pos q2]; exact .inr ⟨by omega, q2, rfl⟩
     ·rw [if_neg q2]; exact .inl rfl
  ·have holds : ∀ j u, xs[j]? = some u → w.cell? ((⟨g, 0, none⟩ : Addr).add j) = some u := hown.cells (g := g) rfl
   have hr := run_append_grow (P := P) w t ty e i z ht hi hz ⟨g, 0, none⟩ n cap xs hown.1 holds a m c news hl hnews (by omega) (by omega) (growslice_fits (by omega) hbytes)
   have hgr := grown cap (by omega) (Value.ownBlock (.slice (some ⟨g, 0, none⟩) n cap))
   have hgl : g < w.drew.heap.size := (Array.getElem?_eq_some_iff.1 hg).1
   refine ⟨_, _, hr, hgr.1, hgr.2, Or.inr rfl, ⟨hown.1, .inr ⟨g, cap, cur, rfl, hbg, (heap_alloc_old w.drew _ hgl).trans hg, hnc, hcm, hcs, htake⟩⟩, ?_⟩
   intro g' cur0 hg' hc0
   obtain rfl : g = g' := by simpa [Value.ownBlock] using hg'
   exact ⟨cur0, (heap_alloc_old w.drew _ hgl).trans hc0, rfl, fun j => .inl rfl⟩
end Go.Proofs.YtjmacegibchplaaGreatDoor
namespace Go.Proofs.YtjmacegibchplaaGreatDoor
open Go.RowKit
set_option linter.unusedVariables false
theorem dig_num : ∀ r : Fin 10, strOfNums [48 + (r.val : Int)] = bs [UInt8.ofNat (48 + r.val)] := by decide
theorem bs_add (a b : List UInt8) : bs a ++ bs b = bs (a ++ b) := by
 apply ByteArray.ext
 simp [bs]
theorem lawPick (c n : Int) (w : World) (c0 : -9223372036854775808 ≤ c) (c1 : c ≤ 9223372036854775807) (n0 : 0 < n) (n1 : n ≤ 9223372036854775807) :
  Calls Tryz.prog 116 #[.int .i64 c, .int .i64 n] w fun e w' => e = .returned (.int .i64 (pickP c n)) ∧ w' = w := by
 have hnz : ¬ n = 0 := by omega
 by_cases hneg : c < 0
 ·have e1 : pickP c n = (-(c + 1)).tmod n := by unfold pickP; rw [if_pos hneg, Int.tmod_eq_emod_of_nonneg (by omega)]
  have b1 := Int.tmod_nonneg n (show 0 ≤ -(c + 1) by omega)
  have b2 := Int.tmod_lt_of_pos (-(c + 1)) n0
  rw [e1]
  go_enter Tryz.func116, Tryz.ntmps116
  go_wp2_with fail
  go_ret
  exact ⟨ret_int (Int.neg_tmod _ _).symm, rfl⟩
 ·have e1 : pickP c n = c.tmod n := by unfold pickP; rw [if_neg hneg, Int.tmod_eq_emod_of_nonneg (by omega)]
  have b1 := Int.tmod_nonneg n (show 0 ≤ c by omega)
  have b2 := Int.tmod_lt_of_pos c n0
  rw [e1]
  go_enter Tryz.func116, Tryz.ntmps116
  go_wp2_with fail
  go_ret
  exact ⟨ret_int (Int.tmod_eq_emod_of_nonneg (by omega)).symm, rfl⟩
def strG : Nat → List UInt8 → Nat → List UInt8
 | 0, s, _ => s
 | f + 1, s, i => if i = 0 then s else strG f (s ++ [UInt8.ofNat (48 + i % 10)]) (i / 10)
def strP (i : Nat) : List UInt8 := strG 19 [47] i
theorem strG_len : ∀ f s i, (strG f s i).length ≤ s.length + f
 | 0, s, i => by simp [strG]
 | f + 1, s, i => by
  simp only [strG]
  split
  ·omega
  ·have := strG_len f (s ++ [UInt8.ofNat (48 + i % 10)]) (i / 10)
   rw [List.length_append, List.length_singleton] at this
   omega
theorem strP_len (i : Nat) : (strP i).length ≤ 20 := strG_len 19 [47] i
theorem strG_zero (f : Nat) (s : List UInt8) : strG f s 0 = s := by cases f <;> simp [strG]
set_option maxHeartbeats 1000000 in
theorem strokes_any (i : Nat) (w : World) (hi : i < 10 ^ 18) :
  Calls Tryz.prog 80 #[.int .i64 i] w fun e w' => e = .returned (.string (bs (strP i))) ∧ Below w.heap.size w w' := by
 have hcv := conv_one
 go_enter Tryz.func80, Tryz.ntmps80
 go_wp2_with fail
 go_loopw [0, 3] (fun mv sv wr => Below w.heap.size w wr ∧ ∃ (f m : Nat) (s : List UInt8), mv = .int .i64 m ∧ sv = .string (bs s) ∧ m < 10 ^ f ∧ f ≤ 19 ∧ m < 10 ^ 18 ∧ s.length + f ≤ 21 ∧ strG f s m = strP i) (fun mv _ _ => (intOf mv).toNat)
 case atStart => exact ⟨Below.refl _ _, 19, i, [47], rfl, rfl, by omega, by omega, by omega, by simp, rfl⟩
 case round =>
  obtain ⟨hbel, f, m, s, rfl, rfl, hf, hf20, hm, hsl, hst⟩ := hrel
  have Hst := hide hst
  have hsz := bs_size s
  clear hst
  by_cases h0 : m = 0
  ·subst h0
   have Hs := hide (show s = strP i by rw [← unhide Hst, strG_zero])
   clear hf hm
   go_wp2_with fail
   go_ret
   exact ⟨by rw [unhide Hs]; rfl, hbel⟩
  ·obtain ⟨g, rfl⟩ : ∃ g, f = g + 1 := by
    cases f with
    | zero => simp at hf; omega
    | succ g => exact ⟨g, rfl⟩
   have hp : (0 : Int) < (m : Int) := by omega
   have hal : ∀ x, Below w.heap.size w (wr.alloc x) := fun x => hbel.alloc hbel.size x
   have hq : (strOfNums [48 + (m : Int) % 10]).size = 1 := rfl
   have Hn := hide (show bs s ++ strOfNums [48 + (m : Int) % 10] = bs (s ++ [UInt8.ofNat (48 + m % 10)]) by
    have h := dig_num ⟨m % 10, Nat.mod_lt _ (by decide)⟩
    simp only at h
    rw [show (m : Int) % 10 = ((m % 10 : Nat) : Int) by omega, h, bs_add])
   have Hg := hide (show strG g (s ++ [UInt8.ofNat (48 + m % 10)]) (m / 10) = strP i by
    have := unhide Hst
    simp only [strG, if_neg h0] at this
    exact this)
   have hm10 : m / 10 < 10 ^ g := by rw [Nat.pow_succ] at hf; exact Nat.div_lt_of_lt_mul (by rw [Nat.mul_comm]; exact hf)
   have hmd : m / 10 < 10 ^ 18 := by omega
   have Hdm := hide (show ((m : Int) / 10) = ((m / 10 : Nat) : Int) by omega)
   have Hh := hide (And.intro hm10 hmd)
   clear hf hm10 hmd
   go_wp2_with fail
   refine ⟨⟨hal _, g, m / 10, s ++ [UInt8.ofNat (48 + m % 10)], by first | rfl | (rw [unhide Hdm]), by rw [← unhide Hn], (unhide Hh).1, by omega, (unhide Hh).2, by rw [List.length_append, List.length_singleton]; omega, unhide Hg⟩, ?_⟩
   clear Hh hm
   simp only [intOf]
   omega
theorem fullTexts_any (n : Nat) (m : List UInt8) (a : Option Addr) (c : Nat) (w : World) (hn : n ≤ maxLen) (h : TextsAt w a (List.replicate n m)) :
  Calls Tryz.prog 81 #[.slice a n c, .string (bs m)] w fun e w' => e = .returned (.bool true) ∧ w' = w := by
 unfold maxLen at hn
 have hE : ((bs m).toList == (bs m).toList) = true := by simp
 go_enter Tryz.func81, Tryz.ntmps81
 go_wp2_with fail
 go_loop [5] (fun i => ∃ k : Nat, k ≤ n ∧ i = .int .i64 k) (fun i => n - (intOf i).toNat)
 case atStart => exact ⟨0, by omega, rfl⟩
 case round =>
  obtain ⟨k, hk, rfl⟩ := hrel
  by_cases hlt : k < n
  ·obtain ⟨b, o, rfl, hc⟩ : ∃ b o, a = some ⟨b, o, none⟩ ∧ w.cell? ⟨b, o + k, none⟩ = some (.string (bs m)) := by
    rcases h with h | ⟨b, o, e, h⟩
    ·have := congrArg List.length h; simp at this; omega
    ·have := h k (by simpa using hlt)
     rw [List.getElem_replicate] at this
     exact ⟨b, o, e, this⟩
   have q1 : (k : Int) < (n : Int) := by omega
   clear h
   go_wp2_with fail
   go_round
   case rel => exact ⟨k + 1, by omega, by go_num⟩
   case measure => simp [intOf]; omega
  ·obtain rfl : k = n := by omega
   go_wp2_with fail
   go_ret
   exact ⟨rfl, rfl⟩
end Go.Proofs.YtjmacegibchplaaGreatDoor
namespace Go.Proofs.YtjmacegibchplaaGreatDoor
open Go.RowKit Go.Maps Go.WideMaps
set_option linter.unusedVariables false
def MarksStay (m : Value) (w w' : World) : Prop := ∀ b i, w.cell? ⟨b, i, none⟩ = some m → w'.cell? ⟨b, i, none⟩ = some m
theorem MarksStay.trans {m : Value} {a b c : World} (h : MarksStay m a b) (k : MarksStay m b c) : MarksStay m a c := fun x i e => k x i (h x i e)
theorem MarksStay.below {m : Value} {w w' : World} (h : Below w.heap.size w w') : MarksStay m w w' := fun b i e => (h.cell (p := ⟨b, i, none⟩) (block_lt e)).trans e
theorem app_mark {w : World} {ops : Array Oper} {rest : List Oper} {o : Oper} {a : Act} {Q : Exit → Act → World → Prop} (hgd : o.guard = none) (s x : Operand)
  (ho : o.op = .call { callee := .builtin .append, args := #[s, x], argTypes := #[23, 23] }) (base : Nat) (v : Value) (n : Nat) (m : List UInt8) (hs : a.eval s = v) (hown : OwnsS w base v (List.replicate n m))
  (ad : Addr) (j : Nat) (hj : 0 < j) (hj3 : j ≤ 3) (hx : a.eval x = .slice (some ad) j j) (hnews : ∀ i, i < j → w.cell? (ad.add i) = some (strVal m)) (hlen : n ≤ 2000000) (hbase : base ≤ w.heap.size)
  (h : ∀ v' w', OwnsS w' base v' (List.replicate (n + j) m) → w.grownBy w' v.ownBlock → (v'.ownBlock = v.ownBlock ∨ v'.ownBlock = some w.heap.size) → OwnsS w' base v (List.replicate n m) → MarksStay (strVal m) w w' → wpList Tryz.prog ops Q rest (a.put o.dst v') w') : wpList Tryz.prog ops Q (o :: rest) a w := by
 obtain ⟨i0, hi, hz0, hz1, hz2⟩ := info_parts info_str
 refine wpList_plain hgd fun K' hK' => ?_
 have hown' : w.ownsRow base 9 1 v n (List.replicate n (strVal m)) := by
  have := hown
  unfold OwnsS at this
  rw [List.length_replicate, List.map_replicate] at this
  exact this
 obtain ⟨v', w', hrun, r1, r2, r3, r4⟩ := run_append_two (P := Tryz.prog) w base 23 o.type 9 i0 _ 1 16 Tryz.underlying23 hi hz0 hz1 hz2 rfl (by decide) v n (List.replicate n (strVal m)) hown' ad j j hj (List.replicate j (strVal m)) (by simp) (fun i u hu => by
  obtain ⟨hi, rfl⟩ := List.getElem?_eq_some_iff.1 hu
  rw [List.getElem_replicate]
  exact hnews i (by simpa using hi)) (fun u hu => by rw [List.eq_of_mem_replicate hu]; rfl) (by unfold maxLen; omega) (by omega) hbase
 unfold Oper.wp
 simp [execOp, ho, resolve, invoke, builtin, hs, hx, hrun, Result.andThen]
 refine hK' _ _ (h v' w' ?_ r2 r3 ?_ ?_)
 ·unfold OwnsS
  rw [List.length_replicate, List.map_replicate, ← List.replicate_append_replicate]
  exact r1
 ·unfold OwnsS
  rw [List.length_replicate, List.map_replicate]
  exact r4.old
 ·intro b i e
  have hbl := block_lt e
  by_cases hb : v.ownBlock = some b
  ·rcases hown'.2 with ⟨rfl, _⟩ | ⟨g, cap, cur, rfl, hbg, hg, _⟩
   ·simp [Value.ownBlock] at hb
   ·obtain rfl : g = b := by simpa [Value.ownBlock] using hb
    obtain ⟨cur', hc', _, hcc⟩ := r4.cells g cur rfl hg
    rw [cell_of_block hc']
    rw [cell_of_block hg] at e
    rcases hcc i with h1 | ⟨h1, h2, h3⟩
    ·rw [h1]; exact e
    ·rw [h3, List.getElem?_replicate, if_pos (by simp at h2; omega)]
  ·have := r2.block b hbl (fun e2 => hb e2.symm)
   exact (World.cell?_of_block (w := w) (a := ⟨b, i, none⟩) this).trans e
def OwnsL (w : World) (base : Nat) (v : Value) (l : List Value) : Prop := w.ownsRow base 23 1 v l.length l
theorem info_sls : (Tryz.prog.info? 23).map (fun i => (i.zero, i.size, i.bytes)) = some (some (.slice none 0 0), 1, 24) := by kernel_rfl
theorem app_slice {w : World} {ops : Array Oper} {rest : List Oper} {o : Oper} {a : Act} {Q : Exit → Act → World → Prop} (hgd : o.guard = none) (s x : Operand)
  (ho : o.op = .call { callee := .builtin .append, args := #[s, x], argTypes := #[86, 86] }) (base : Nat) (v : Value) (l : List Value) (hs : a.eval s = v) (hown : OwnsL w base v l)
  (ad : Addr) (y : Value) (hx : a.eval x = .slice (some ad) 1 1) (hnews : w.cell? (ad.add 0) = some y) (h1 : y.oneCell' = true) (hlen : l.length ≤ 20000000) (hbase : base ≤ w.heap.size)
  (h : ∀ v' w', OwnsL w' base v' (l ++ [y]) → w.grownBy w' v.ownBlock → (v'.ownBlock = v.ownBlock ∨ v'.ownBlock = some w.heap.size) → wpList Tryz.prog ops Q rest (a.put o.dst v') w') : wpList Tryz.prog ops Q (o :: rest) a w := by
 obtain ⟨i0, hi, hz0, hz1, hz2⟩ := info_parts info_sls
 refine wp_app_at hgd s x 86 ho base 23 i0 _ 24 Tryz.underlying86 hi hz0 hz1 hz2 rfl v l.length l hs hown ad y hx hnews h1 (by unfold maxLen; omega) (by omega) hbase ?_
 intro v' w' h1 h2 h3
 refine h v' w' ?_ h2 h3
 unfold OwnsL
 rw [List.length_append]
 exact h1
def WorldAt (w : World) (wb : Nat) (came : Int) (kT wT kI wI kE wE ps tx tx3 it it3 en en3 : Value) : Prop := w.heap[wb]? = some (.cells #[.int .i64 came, .bool false, kT, wT, kI, wI, kE, wE, ps, tx, tx3, it, it3, en, en3] 90 (0, 0))
def FullS (w : World) (v : Value) (n : Nat) (m : List UInt8) : Prop := ∃ a c, v = .slice a n c ∧ TextsAt w a (List.replicate n m)
theorem FullS.stay {w w' : World} {v : Value} {n : Nat} {m : List UInt8} (h : FullS w v n m) (hs : MarksStay (strVal m) w w') : FullS w' v n m := by
 obtain ⟨a, c, e, h⟩ := h
 refine ⟨a, c, e, ?_⟩
 rcases h with h | ⟨b, o, e2, h⟩
 ·exact .inl h
 ·refine .inr ⟨b, o, e2, fun i hi => ?_⟩
  have := h i hi
  rw [List.getElem_replicate] at this ⊢
  exact hs b (o + i) this
theorem OwnsS.full {w : World} {base n : Nat} {v : Value} {m : List UInt8} (h : OwnsS w base v (List.replicate n m)) : FullS w v n m := by
 obtain ⟨a, c, e, t, -, -⟩ := OwnsS.texts h
 rw [List.length_replicate] at e
 exact ⟨a, c, e, t⟩
end Go.Proofs.YtjmacegibchplaaGreatDoor