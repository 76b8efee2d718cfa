import Derived.Test.YtjmacegibchplaaGreatDoorTreeF
import Derived.OwnWalk
import Derived.Test.YtjmacegibchplaaGreatDoorUplP
import Derived.Test.YtjmacegibchplaaGreatDoorPathP
import Derived.Test.YtjmacegibchplaaGreatDoorEntB
import Derived.Maps.OwnSet
namespace Go.Proofs.YtjmacegibchplaaGreatDoor
open Go.RowKit
set_option linter.unusedVariables false
theorem tree_of (l : List En) (h : wrongP l = 0) : Tree l := by
 rw [wrongP_eq] at h
 split at h
 ·simp at h
 ·rename_i h40
  split at h
  ·simp at h
  ·rename_i ha
   refine ⟨by omega, fun i hi => ?_⟩
   have : (List.range l.length).all (fineP l) = true := by simpa using ha
   exact List.all_eq_true.1 this i (by simpa using hi)
def BuildEnd (l : List En) (base : Nat) (e : Ending) (w' : World) : Prop :=
 (wrongP l ≠ 0 ∧ e = .returned (.tuple #[.string ⟨#[]⟩, .slice none 0 0, .int .i64 (wrongP l)])) ∨
 (wrongP l = 0 ∧ builtP l = none ∧ e = .returned (.tuple #[.string ⟨#[]⟩, .slice none 0 0, .int .i64 3])) ∨
 ∃ out v, wrongP l = 0 ∧ builtP l = some out ∧ e = .returned (.tuple #[.string (bs (P.digest (blobP l 6 []))), v, .int .i64 0]) ∧ OwnsS w' base v out
set_option maxHeartbeats 1000000 in
theorem refBuild_any (l : List En) (a : Option Addr) (c : Nat) (w : World) (hl : l.length ≤ maxLen) (hi : LiesE w a l) (hf : TFit l) :
  Calls Tryz.prog 17 #[.slice a l.length c] w fun e w' => Below w.heap.size w w' ∧ BuildEnd l w.heap.size e w' := by
 go_enter Tryz.func17, Tryz.ntmps17
 go_wp2_with fail
 refine (wrong_any l a c w hl hi hf).mono ?_
 rintro e w1 ⟨rfl, hb1⟩
 obtain ⟨W, hW⟩ : ∃ W, wrongP l = W := ⟨_, rfl⟩
 by_cases h0 : W = 0
 ·subst h0
  have ht := tree_of l hW
  have HW := hide hW
  rw [hW]
  clear hW
  go_wp2_with fail
  refine (built_any l ht (fun i h => (hf i h).2) a c w1 (hi.below hb1 (Nat.le_refl _))).mono ?_
  rintro e w2 ⟨hb2, h2⟩
  have hw2 := hb1.trans (hb2.mono hb1.size)
  rcases h2 with ⟨hn, rfl⟩ | ⟨out, v, hs, rfl, ho⟩
  ·have Hn := hide hn
   clear hn
   go_wp2_with fail
   go_ret3
   exact ⟨hw2, .inr (.inl ⟨unhide HW, unhide Hn, rfl⟩)⟩
  ·have Hs := hide hs
   clear hs
   go_wp2_with fail
   refine (blob_any l ht (fun i h => (hf i h).2) 6 [] a c w2 (hi.below hw2 (Nat.le_refl _)) (.inl rfl) (by simp) (by rw [dep_nil]; omega) (by rw [dep_nil]; omega)).mono ?_
   rintro e w3 ⟨rfl, hb3⟩
   have hw3 := hw2.trans (hb3.mono hw2.size)
   have ho3 := (ho.below hb3).weak hb1.size
   have hsm := blob_small l ht 6 [] (.inl rfl)
   clear ho hb3
   generalize hB : blobP l 6 [] = B at *
   have HB := hide hB
   clear hB
   go_wp2_with fail
   refine (refDigest_bs B _ (by omega)).mono ?_
   rintro e w4 ⟨rfl, n4, hw4⟩
   subst hw4
   go_wp2_with fail
   go_ret3
   exact ⟨below_drewN hw3 _, .inr (.inr ⟨out, v, unhide HW, unhide Hs, by rw [unhide HB]; rfl, ho3.below (below_drewN (Below.refl _ _) _)⟩)⟩
 ·have g : (W != 0) = true := by simpa using h0
  have HW := hide hW
  rw [hW]
  clear hW
  go_wp2_with fail
  go_ret3
  exact ⟨hb1, .inl ⟨by rw [unhide HW]; exact h0, by rw [unhide HW]; rfl⟩⟩
set_option maxHeartbeats 1000000 in
theorem sameTexts_same (l : List (List UInt8)) (a1 a2 : Option Addr) (c1 c2 : Nat) (w : World) (hl : l.length ≤ maxLen) (h1 : TextsAt w a1 l) (h2 : TextsAt w a2 l) :
  Calls Tryz.prog 41 #[.slice a1 l.length c1, .slice a2 l.length c2] w fun e w' => e = .returned (.bool true) ∧ ∃ n, w' = w.drewN n := by
 unfold maxLen at hl
 have hb : ((l.length : Int) != (l.length : Int)) = false := by simp
 go_enter Tryz.func41, Tryz.ntmps41
 go_wp2_with fail
 go_loopw [5] (fun i wr => ∃ k : Nat, k ≤ l.length ∧ i = .int .i64 k ∧ ∃ n, wr = w.drewN n) (fun i _ => l.length - (intOf i).toNat)
 case atStart => exact ⟨0, by omega, rfl, 0, rfl⟩
 case round =>
  obtain ⟨k, hk, rfl, n, hwr⟩ := hrel
  subst hwr
  by_cases hlt : k < l.length
  ·obtain ⟨b1, o1, rfl, i1⟩ : ∃ b o, a1 = some ⟨b, o, none⟩ ∧ ∀ i (h : i < l.length), w.cell? ⟨b, o + i, none⟩ = some (strVal l[i]) := by
    rcases h1 with h | h
    ·subst h; simp at hlt
    ·exact h
   obtain ⟨b2, o2, rfl, i2⟩ : ∃ b o, a2 = some ⟨b, o, none⟩ ∧ ∀ i (h : i < l.length), w.cell? ⟨b, o + i, none⟩ = some (strVal l[i]) := by
    rcases h2 with h | h
    ·subst h; simp at hlt
    ·exact h
   have p0 := i1 k hlt
   have r0 := i2 k hlt
   clear i1 i2
   generalize l[k] = x at *
   unfold strVal at p0 r0
   have hlt' : (k : Int) < (l.length : Int) := by omega
   have heq : ((bs x).toList == (bs x).toList) = true := by simp
   go_wp2_with fail
   go_quiet (fail)
   go_wp2
   go_roundw
   case rel => exact ⟨k + 1, by omega, by go_num, _, rfl⟩
   case measure => simp [intOf]; omega
  ·obtain rfl : k = l.length := by omega
   go_wp2_with fail
   go_ret
   exact ⟨rfl, n, rfl⟩
def idxP (st : List (List UInt8 × List UInt8)) (d : List UInt8) : Int := match st.findIdx? (fun p => p.1 == d) with
 | some i => (i : Int)
 | none => -1
theorem idx_hit (st : List (List UInt8 × List UInt8)) (d : List UInt8) (k : Nat) (hk : k < st.length) (he : st[k].1 = d) (hno : ∀ j (h : j < st.length), j < k → st[j].1 ≠ d) : idxP st d = (k : Int) := by
 have : st.findIdx? (fun p => p.1 == d) = some k := by
  rw [List.findIdx?_eq_some_iff_getElem]
  exact ⟨hk, by simpa using he, fun j hj => by simpa using hno j (by omega) hj⟩
 unfold idxP
 rw [this]
theorem idx_none (st : List (List UInt8 × List UInt8)) (d : List UInt8) (hno : ∀ j (h : j < st.length), st[j].1 ≠ d) : idxP st d = -1 := by
 have : st.findIdx? (fun p => p.1 == d) = none := by
  rw [List.findIdx?_eq_none_iff]
  intro x hx
  obtain ⟨j, hj, rfl⟩ := List.mem_iff_getElem.1 hx
  simpa using hno j hj
 unfold idxP
 rw [this]
theorem atP_idx : ∀ (st : List (List UInt8 × List UInt8)) (d : List UInt8), (idxP st d = -1 ∧ atP st d = none) ∨ ∃ k, ∃ h : k < st.length, idxP st d = (k : Int) ∧ atP st d = some st[k].2
 | [], d => .inl ⟨rfl, rfl⟩
 | (k, b) :: r, d => by
  by_cases e : k = d
  ·refine .inr ⟨0, by simp, ?_, by simp [atP, e]⟩
   exact idx_hit _ _ 0 (by simp) (by simpa using e) (fun j _ h => by omega)
  ·rcases atP_idx r d with ⟨h1, h2⟩ | ⟨i, hi, h1, h2⟩
   ·refine .inl ⟨idx_none _ _ (fun j hj => ?_), by simp [atP, e, h2]⟩
    cases j with
    | zero => simpa using e
    | succ j =>
     intro hc
     unfold idxP at h1
     split at h1
     ·omega
     ·rename_i hn
      rw [List.findIdx?_eq_none_iff] at hn
      have hj' : j < r.length := by simpa using hj
      have := hn r[j] (List.getElem_mem hj')
      simp at this hc
      exact this hc
   ·refine .inr ⟨i + 1, by simpa using hi, ?_, by simp [atP, e, h2]⟩
    unfold idxP at h1
    split at h1
    ·rename_i m hm
     obtain rfl : m = i := by omega
     rw [List.findIdx?_eq_some_iff_getElem] at hm
     obtain ⟨hml, hmp, hmn⟩ := hm
     refine idx_hit _ _ (m + 1) (by simpa using hml) (by simpa using hmp) (fun j hj hlt => ?_)
     cases j with
     | zero => simpa using e
     | succ j => simpa using hmn j (by omega)
    ·omega
def RStore (w : World) (pb : Nat) (room : Int) (st : List (List UInt8 × List UInt8)) : Prop := w.cell? ⟨pb, 0, none⟩ = some (.int .i64 room) ∧
 ∃ a1 c1 a2 c2, w.cell? ⟨pb, 1, none⟩ = some (.slice a1 st.length c1) ∧ w.cell? ⟨pb, 2, none⟩ = some (.slice a2 st.length c2) ∧ TextsAt w a1 (st.map (·.1)) ∧ TextsAt w a2 (st.map (·.2))
theorem textsGet {w : World} {a : Option Addr} {l : List (List UInt8)} (h : TextsAt w a l) {k : Nat} (hk : k < l.length) : ∃ b o, a = some ⟨b, o, none⟩ ∧ w.cell? ⟨b, o + k, none⟩ = some (strVal l[k]) := by
 rcases h with h | ⟨b, o, e, h⟩
 ·subst h; simp at hk
 ·exact ⟨b, o, e, h k hk⟩
set_option maxHeartbeats 1000000 in
theorem refAt_any (st : List (List UInt8 × List UInt8)) (pb : Nat) (room : Int) (d : List UInt8) (w : World) (hl : st.length ≤ maxLen) (h : RStore w pb room st) :
  Calls Tryz.prog 158 #[.pointer (some ⟨pb, 0, none⟩), .string (bs d)] w fun e w' => e = .returned (.int .i64 (idxP st d)) ∧ w' = w := by
 unfold maxLen at hl
 obtain ⟨-, a1, c1, a2, c2, f1, -, t1, -⟩ := h
 go_enter Tryz.func158, Tryz.ntmps158
 go_wp2_with fail
 go_loop [5] (fun i => ∃ k : Nat, k ≤ st.length ∧ i = .int .i64 k ∧ ∀ j (h : j < st.length), j < k → st[j].1 ≠ d) (fun i => st.length - (intOf i).toNat)
 case atStart => exact ⟨0, by omega, rfl, fun j _ h => by omega⟩
 case round =>
  obtain ⟨k, hk, rfl, hno⟩ := hrel
  have Hno := hide hno
  clear hno
  by_cases hlt : k < st.length
  ·obtain ⟨b, o, rfl, hc⟩ := textsGet t1 (k := k) (by simpa using hlt)
   rw [List.getElem_map] at hc
   have q1 : (k : Int) < (st.length : Int) := by omega
   have Hhit := hide (fun he => idx_hit st d k hlt he (unhide Hno))
   have Hnx := hide (show st[k].1 ≠ d → ∀ j (h : j < st.length), j < k + 1 → st[j].1 ≠ d from fun hne j h hj => by
    rcases Nat.lt_or_ge j k with h1 | h1
    ·exact unhide Hno j h h1
    ·obtain rfl : j = k := by omega
     exact hne)
   unfold strVal at hc
   generalize st[k].1 = x at *
   have hE := str_eq2 x d
   clear t1
   by_cases heq : x = d
   ·have hx : (x == d) = true := by simpa using heq
    rw [hx] at hE
    have Hr := hide (unhide Hhit heq)
    clear heq hx
    go_wp2_with fail
    go_ret
    exact ⟨ret_int (unhide Hr).symm, rfl⟩
   ·have hx : (x == d) = false := by simpa using heq
    rw [hx] at hE
    go_wp2_with fail
    go_round
    case rel => exact ⟨k + 1, by omega, by go_num, unhide Hnx heq⟩
    case measure => simp [intOf]; omega
  ·obtain rfl : k = st.length := by omega
   go_wp2_with fail
   go_ret
   exact ⟨ret_int (by rw [idx_none st d (fun j h => unhide Hno j h h)]), rfl⟩
def getB (st : List (List UInt8 × List UInt8)) (d : List UInt8) : List UInt8 := (atP st d).getD []
def getE (st : List (List UInt8 × List UInt8)) (d : List UInt8) : Int := if (atP st d).isSome then 0 else 7
set_option maxHeartbeats 1000000 in
theorem refGet_any (st : List (List UInt8 × List UInt8)) (pb : Nat) (room : Int) (d : List UInt8) (w : World) (hl : st.length ≤ maxLen) (h : RStore w pb room st) :
  Calls Tryz.prog 119 #[.pointer (some ⟨pb, 0, none⟩), .string (bs d)] w fun e w' => e = .returned (.tuple #[.string (bs (getB st d)), .int .i64 (getE st d)]) ∧ w' = w := by
 have hat := fun w' (hw : RStore w' pb room st) => refAt_any st pb room d w' hl hw
 unfold maxLen at hl
 have h0 := h
 have Hg := hide (show getB st d = (atP st d).getD [] ∧ getE st d = if (atP st d).isSome then 0 else 7 from ⟨rfl, rfl⟩)
 obtain ⟨-, a1, c1, a2, c2, f1, f2, t1, t2⟩ := h
 rcases atP_idx st d with ⟨i1, i2⟩ | ⟨k, hk, i1, i2⟩
 ·have Hr := hide (show getB st d = [] ∧ getE st d = 7 by rw [(unhide Hg).1, (unhide Hg).2, i2]; exact ⟨rfl, rfl⟩)
  go_enter Tryz.func119, Tryz.ntmps119
  go_wp2_with (go_at_call 158; refine (hat _ h0).mono ?_; rintro e w' ⟨rfl, rfl⟩; rw [i1])
  go_ret2
  exact ⟨by rw [(unhide Hr).1, (unhide Hr).2]; rfl, rfl⟩
 ·obtain ⟨b, o, rfl, hc⟩ := textsGet t2 (k := k) (by simpa using hk)
  rw [List.getElem_map] at hc
  unfold strVal at hc
  have Hr := hide (show getB st d = st[k].2 ∧ getE st d = 0 by rw [(unhide Hg).1, (unhide Hg).2, i2]; exact ⟨rfl, rfl⟩)
  have q1 : (k : Int) < (st.length : Int) := by omega
  generalize st[k].2 = x at *
  go_enter Tryz.func119, Tryz.ntmps119
  go_wp2_with (go_at_call 158; refine (hat _ h0).mono ?_; rintro e w' ⟨rfl, rfl⟩; rw [i1])
  go_ret2
  exact ⟨by rw [(unhide Hr).1, (unhide Hr).2]; rfl, rfl⟩
theorem RStore.below {B : Nat} {w w' : World} {pb : Nat} {room : Int} {st : List (List UInt8 × List UInt8)} (h : RStore w pb room st) (hb : Below B w w') (hB : w.heap.size ≤ B) : RStore w' pb room st := by
 obtain ⟨f0, a1, c1, a2, c2, f1, f2, t1, t2⟩ := h
 have hl : pb < B := Nat.lt_of_lt_of_le (block_lt f0) hB
 exact ⟨(hb.cell (p := ⟨pb, _, none⟩) hl).trans f0, a1, c1, a2, c2, (hb.cell (p := ⟨pb, _, none⟩) hl).trans f1, (hb.cell (p := ⟨pb, _, none⟩) hl).trans f2, t1.below hb hB, t2.below hb hB⟩
def thereP (st : List (List UInt8 × List UInt8)) (l : List (List UInt8)) (i : Nat) : Bool := (atP st (l.getD i [])).isSome || (l.take i).any (· == l.getD i [])
def missTo (st : List (List UInt8 × List UInt8)) (l : List (List UInt8)) (k : Nat) : List (List UInt8) := ((List.range k).filter (fun i => !thereP st l i)).map (fun i => l.getD i [])
theorem missTo_succ (st : List (List UInt8 × List UInt8)) (l : List (List UInt8)) (k : Nat) : missTo st l (k + 1) = missTo st l k ++ (if thereP st l k = true then [] else [l.getD k []]) := by
 unfold missTo
 rw [List.range_succ, List.filter_append, List.map_append]
 congr 1
 cases h : thereP st l k <;> simp [h]
theorem missTo_len (st : List (List UInt8 × List UInt8)) (l : List (List UInt8)) (k : Nat) : (missTo st l k).length ≤ k := by
 unfold missTo
 rw [List.length_map]
 have := List.length_filter_le (fun i => !thereP st l i) (List.range k)
 simpa using this
set_option maxRecDepth 100000 in
set_option maxHeartbeats 2000000 in
theorem refMissing_any (st : List (List UInt8 × List UInt8)) (pb : Nat) (room : Int) (l : List (List UInt8)) (a : Option Addr) (c : Nat) (w : World) (hst : st.length ≤ maxLen) (h : RStore w pb room st) (hl : l.length ≤ 1100000) (ht : TextsAt w a l) :
  Calls Tryz.prog 163 #[.pointer (some ⟨pb, 0, none⟩), .slice a l.length c] w fun e w' => ∃ v, e = .returned v ∧ OwnsS w' w.heap.size v (missTo st l l.length) ∧ Below w.heap.size w w' := by
 have Hh := hide h
 clear h
 go_enter Tryz.func163, Tryz.ntmps163
 go_wp2_with fail
 go_loopw [5, 6] (fun v i wr => ∃ k : Nat, k ≤ l.length ∧ i = .int .i64 k ∧ OwnsS wr w.heap.size v (missTo st l k) ∧ Below w.heap.size w wr) (fun _ i _ => l.length - (intOf i).toNat)
 case atStart => exact ⟨0, by omega, rfl, World.ownsRow_nil _ _ _ _, Below.refl _ _⟩
 case round =>
  obtain ⟨k, hk, rfl, hown, hbel⟩ := hrel
  by_cases hlt : k < l.length
  ·obtain ⟨b, o, rfl, hct⟩ : ∃ b o, a = some ⟨b, o, none⟩ ∧ ∀ i (h : i < l.length), w.cell? ⟨b, o + i, none⟩ = some (strVal l[i]) := by
    rcases ht with h | h
    ·subst h; simp at hlt
    ·exact h
   have hcw : ∀ i (h : i < l.length), wr.cell? ⟨b, o + i, none⟩ = some (strVal l[i]) := fun i h => (hbel.cell (p := ⟨b, _, none⟩) (block_lt (hct i h))).trans (hct i h)
   have Hcw := hide hcw
   have ck := hcw k hlt
   unfold strVal at ck
   have q1 : (k : Int) < (l.length : Int) := by omega
   have hrs : RStore wr pb room st := (unhide Hh).below hbel (Nat.le_refl _)
   have Hrs := hide hrs
   clear hcw hrs hct
   have hgk : l.getD k [] = l[k] := by rw [List.getD_eq_getElem?_getD, List.getElem?_eq_getElem hlt]; rfl
   have Hsu := hide (missTo_succ st l k)
   have Hth := hide (show thereP st l k = ((atP st (l.getD k [])).isSome || (l.take k).any (· == l.getD k [])) from rfl)
   rw [hgk] at Hsu Hth
   have hml := missTo_len st l k
   have Hgk := hide (show l[k] = l[k] from rfl)
   clear hgk Hgk
   generalize hxx : l[k] = x at *
   have Hxx := hide hxx
   clear hxx
   have hbs := hbel.size
   have hidx := atP_idx st x
   have hcase : ((atP st x).isSome = true ∧ 0 ≤ idxP st x) ∨ ((atP st x).isSome = false ∧ idxP st x = -1) := by
    rcases hidx with ⟨h1, h2⟩ | ⟨m, _, h1, h2⟩
    ·exact .inr ⟨by rw [h2]; rfl, h1⟩
    ·exact .inl ⟨by rw [h2]; rfl, by omega⟩
   clear hidx
   generalize hT : (atP st x).isSome = T at *
   have HT := hide hT
   clear hT
   go_wp2_with fail
   refine (refAt_any st pb room x _ hst (unhide Hrs)).mono ?_
   rintro e w1 ⟨rfl, hw1⟩
   subst hw1
   have hge : decide (0 ≤ idxP st x) = T := by
    rcases hcase with ⟨h1, h2⟩ | ⟨h1, h2⟩
    ·rw [h1]; simpa using h2
    ·rw [h1, h2]; rfl
   clear hcase
   generalize idxP st x = ix at *
   go_wp2_with fail
   have hownN : ∀ q, OwnsS (w1.drewN q) w.heap.size u5 (missTo st l k) := fun q => OwnsS.below hown (below_drewN (Below.refl _ _) q)
   have hbelN : ∀ q, Below w.heap.size w (w1.drewN q) := fun q => below_drewN hbel q
   have HownN := hide hownN
   have HbelN := hide hbelN
   clear hown hownN hbelN hbel
   go_loopw [7, 8] (fun tv jv wr => ∃ j : Nat, j ≤ k ∧ jv = .int .i64 j ∧ tv = .bool (T || (l.take j).any (· == x)) ∧ ∃ q, wr = w1.drewN q) (fun _ jv _ => k - (intOf jv).toNat)
   case atStart => exact ⟨0, by omega, rfl, by simp, 0, rfl⟩
   case round =>
    obtain ⟨j, hj, rfl, rfl, q, hwr⟩ := hrel
    subst hwr
    by_cases hjk : j < k
    ·have hjl : j < l.length := by omega
     have cj := unhide Hcw j hjl
     unfold strVal at cj
     have Hat := hide (any_take_succ (· == x) l j hjl)
     have hE := str_eq2 l[j] x
     generalize l[j] = y at *
     have cj' : (w1.drewN q).cell? ⟨b, o + j, none⟩ = some (.string (bs y)) := cj
     have ck' : (w1.drewN q).cell? ⟨b, o + k, none⟩ = some (.string (bs x)) := ck
     have z1 : (j : Int) < (k : Int) := by omega
     have z2 : (j : Int) < (l.length : Int) := by omega
     clear cj ck
     generalize hw8 : w1.drewN q = w8 at *
     have Hw8 := hide hw8
     clear hw8
     generalize hA : (l.take j).any (· == x) = A at *
     clear hA
     generalize hY : (y == x) = Y at *
     clear hY
     cases hB : (T || A) with
     | true =>
      have Hv := hide (show (T || (l.take (j + 1)).any (· == x)) = true by rw [unhide Hat, ← Bool.or_assoc, hB]; rfl)
      clear hB
      go_wp2_with fail
      go_quiet (fail)
      go_wp2
      go_roundw
      case rel => exact ⟨j + 1, by omega, by go_num, by rw [unhide Hv], q + nq, by rw [← unhide Hw8, World.drewN_drewN]⟩
      case measure => simp [intOf]; omega
     | false =>
      have Hv := hide (show (T || (l.take (j + 1)).any (· == x)) = Y by rw [unhide Hat, ← Bool.or_assoc, hB]; rfl)
      clear hB
      go_wp2_with fail
      go_quiet (fail)
      go_wp2
      go_roundw
      case rel => exact ⟨j + 1, by omega, by go_num, by rw [unhide Hv], q + nq, by rw [← unhide Hw8, World.drewN_drewN]⟩
      case measure => simp [intOf]; omega
    ·obtain rfl : j = k := by omega
     have hown2 := unhide HownN q
     have hbel2 := unhide HbelN q
     have ck' : (w1.drewN q).cell? ⟨b, o + j, none⟩ = some (.string (bs x)) := ck
     clear ck
     generalize w1.drewN q = w8 at *
     rw [← unhide Hth] at *
     generalize hV : thereP st l j = V at *
     clear hV
     cases V with
     | true =>
      have Hs2 := hide (show missTo st l (j + 1) = missTo st l j by rw [unhide Hsu]; simp)
      go_wp2_with fail
      go_roundw
      case rel => exact ⟨j + 1, by omega, by go_num, by rw [unhide Hs2]; exact hown2, hbel2⟩
      case measure => simp [intOf]; omega
     | false =>
      have Hs2 := hide (show missTo st l (j + 1) = missTo st l j ++ [x] by rw [unhide Hsu]; simp)
      have hb8 := hbel2.size
      generalize missTo st l j = done at *
      go_wp2_with (at_builtin; refine app_text rfl (.tmp 41) (.tmp 46) rfl w.heap.size _ done rfl (hown2.alloc _) ⟨w8.heap.size, 0, none⟩ x rfl ?qa ?qb ?qc ?_)
      case qa => first | rfl | (rw [add_off0]; simp [strVal])
      case qb => omega
      case qc => first | omega | (simp; omega)
      intro v4 w4 ho4 g4
      have hb4 : Below w.heap.size w w4 := (hbel2.alloc hbel2.size _).grown g4 (by simp; omega) (fun k hk => (World.ownsRow.lt hown2 k hk).1)
      clear g4
      go_wp2_with fail
      go_roundw
      case rel => exact ⟨j + 1, by omega, by go_num, by rw [unhide Hs2]; exact ho4, hb4⟩
      case measure => simp [intOf]; omega
  ·obtain rfl : k = l.length := by omega
   go_wp2_with fail
   go_ret
   exact ⟨_, rfl, hown, hbel⟩
theorem refNew_no (room : Int) (w : World) (h : room < 0 ∨ 100000 < room) :
  Calls Tryz.prog 112 #[.int .i64 room] w fun e w' => e = .returned (.tuple #[.pointer none, .int .i64 5]) ∧ w' = w := by
 by_cases hneg : room < 0
 ·go_enter Tryz.func112, Tryz.ntmps112
  go_wp2_with fail
  go_ret2
  exact ⟨rfl, rfl⟩
 ·have hg : 100000 < room := by omega
  go_enter Tryz.func112, Tryz.ntmps112
  go_wp2_with fail
  go_ret2
  exact ⟨rfl, rfl⟩
set_option maxHeartbeats 1000000 in
theorem refBlob_any (st : List (List UInt8 × List UInt8)) (pb : Nat) (room : Int) (d : List UInt8) (w : World) (hl : st.length ≤ maxLen) (h : RStore w pb room st) (hsz : ∀ b, atP st d = some b → b.length ≤ 1100000) :
  Calls Tryz.prog 192 #[.pointer (some ⟨pb, 0, none⟩), .string (bs d)] w fun e w' => e = .returned (.tuple #[.string (bs (blobS (atP st) d).2), .int .i64 (blobS (atP st) d).1]) ∧ ∃ n, w' = w.drewN n := by
 have hget := refGet_any st pb room d w hl h
 cases ha : atP st d with
 | none =>
  have h1 : getB st d = [] := by unfold getB; rw [ha]; rfl
  have h2 : getE st d = 7 := by unfold getE; rw [ha]; rfl
  have Hr := hide (show blobS (atP st) d = (7, []) by unfold blobS; rw [ha])
  rw [h1, h2] at hget
  clear ha h1 h2 hsz
  go_enter Tryz.func192, Tryz.ntmps192
  go_wp2_with (go_at_call 119; refine hget.mono ?_; rintro e w' ⟨rfl, rfl⟩)
  go_ret2
  exact ⟨by rw [unhide Hr]; rfl, 0, rfl⟩
 | some b =>
  have h1 : getB st d = b := by unfold getB; rw [ha]; rfl
  have h2 : getE st d = 0 := by unfold getE; rw [ha]; rfl
  have hb := hsz b ha
  have hbz := bs_size b
  have hdg := fun w => refDigest_any (bs b) w (by rw [hbz]; unfold maxLen; omega)
  rw [bs_data] at hdg
  rw [h1, h2] at hget
  have hx : (P.digest b == (bs d).toList) = (P.digest b == d) := by rw [ByteArray.toList_eq, bs_data]
  by_cases he : P.digest b = d
  ·have Hr := hide (show blobS (atP st) d = (0, b) by unfold blobS; rw [ha]; simp [he])
   have hE : (P.digest b == d) = true := by simpa using he
   rw [hE] at hx
   clear ha h1 h2 hsz he hE
   go_enter Tryz.func192, Tryz.ntmps192
   go_wp2_with (first | (go_at_call 119; refine hget.mono ?_; rintro e w' ⟨rfl, rfl⟩) | (go_at_call 20; refine (hdg _).mono ?_; rintro e w1 ⟨rfl, nq, rfl⟩))
   go_ret2
   exact ⟨by rw [unhide Hr]; rfl, _, rfl⟩
  ·have Hr := hide (show blobS (atP st) d = (8, []) by unfold blobS; rw [ha]; simp [he])
   have hE : (P.digest b == d) = false := by simpa using he
   rw [hE] at hx
   clear ha h1 h2 hsz he hE
   go_enter Tryz.func192, Tryz.ntmps192
   go_wp2_with (first | (go_at_call 119; refine hget.mono ?_; rintro e w' ⟨rfl, rfl⟩) | (go_at_call 20; refine (hdg _).mono ?_; rintro e w1 ⟨rfl, nq, rfl⟩))
   go_ret2
   exact ⟨by rw [unhide Hr]; rfl, _, rfl⟩
theorem out_step (e : Int) (x : List UInt8) (r : List (List UInt8)) : outGo e (x :: r) = if e + downP x < 0 then true else outGo (e + downP x) r := by
 by_cases h1 : x = [46, 46]
 ·subst h1
  rw [show downP [46, 46] = -1 from rfl]
  simp only [outGo, if_pos]; rfl
 ·by_cases h2 : x = [] ∨ x = [46]
  ·have hd : downP x = 0 := by unfold downP; rw [if_pos h2]
   rw [hd]; simp only [outGo]; rw [if_neg h1, if_pos h2, Int.add_zero]
  ·have hd : downP x = 1 := by unfold downP; rw [if_neg h2, if_neg h1]
   rw [hd]; simp only [outGo]; rw [if_neg h1, if_neg h2]
theorem downP_bd (x : List UInt8) : -1 ≤ downP x ∧ downP x ≤ 1 := by
 unfold downP
 split
 ·decide
 ·split <;> decide
set_option maxHeartbeats 1000000 in
theorem depth_any (p : List UInt8) (w : World) (hl : p.length ≤ 1100000) :
  Calls Tryz.prog 92 #[.string (bs p)] w fun e w' => e = .returned (.int .i64 ((sp p).length : Int)) ∧ w' = w := by
 have hcount := fun w' => Tryz.strings_Count_one (bs p) 47 w'
 have hpos : 1 ≤ (sp p).length := List.length_pos_iff.2 (sp_ne p)
 have hsl := sp_len p
 rw [bs_data, show Lib.countByte p 47 = (sp p).length - 1 by rw [sp_count]; rfl] at hcount
 have hn : (((sp p).length - 1 : Nat) : Int) = ((sp p).length : Int) - 1 := by omega
 simp only [hn] at hcount
 generalize (sp p).length = n at *
 go_enter Tryz.func92, Tryz.ntmps92
 go_wp2_with (go_at_call 141; refine (hcount _).mono ?_; rintro e w' ⟨rfl, hw'⟩; rw [hw']; clear hw' w')
 go_ret
 exact ⟨ret_int (by omega), rfl⟩
set_option maxHeartbeats 1000000 in
theorem leads_any (p t : List UInt8) (w : World) (hg : GlobOk w) (hp : p.length ≤ 1100000) (hd1 : (sp p).length ≤ 100) (hl : t.length ≤ 1100000) :
  Calls Tryz.prog 102 #[.string (bs p), .string (bs t)] w fun e w' => e = .returned (.bool (outP (((sp p).length : Int) - 1) t)) ∧ Below w.heap.size w w' := by
 have hpre := Tryz.strings_HasPrefix (bs t) ⟨#[47]⟩ w
 have hdep := fun w => depth_any p w hp
 have hpos : 1 ≤ (sp p).length := List.length_pos_iff.2 (sp_ne p)
 rw [bs_data, show (⟨#[47]⟩ : ByteArray).data.toList = [47] from rfl, prefix_slash] at hpre
 by_cases h47 : t.head? = some 47
 ·have ho : outP (((sp p).length : Int) - 1) t = true := by unfold outP; rw [if_pos h47]
  rw [decide_eq_true h47] at hpre
  rw [ho]
  go_enter Tryz.func102, Tryz.ntmps102
  go_wp2_with (go_at_call 151; refine hpre.mono ?_; rintro e w' ⟨rfl, hw'⟩; rw [hw']; clear hw' w')
  go_ret
  exact ⟨rfl, Below.refl _ _⟩
 ·have ho : outP (((sp p).length : Int) - 1) t = outGo (((sp p).length : Int) - 1) (sp t) := by unfold outP; rw [if_neg h47]
  rw [decide_eq_false h47] at hpre
  have Ho := hide ho
  clear ho h47
  generalize hpn : (sp p).length = np at *
  clear hpn
  go_enter Tryz.func102, Tryz.ntmps102
  go_wp2_with (first
   | (go_at_call 151; refine hpre.mono ?_; rintro e w' ⟨rfl, hw'⟩; rw [hw']; clear hw' w')
   | (go_at_call 92; refine (hdep _).mono ?_; rintro e w' ⟨rfl, hw'⟩; rw [hw']; clear hw' w'))
  refine (split_law t w hg hl).mono ?_
  rintro e w1 ⟨rfl, ht1, hb1⟩
  have hsl := sp_len t
  clear hpre hdep
  generalize hS : sp t = S at *
  clear hS
  have hsl2 : S.length ≤ 1200000 := by omega
  clear hsl
  have HB := hide hb1
  clear hb1
  generalize hH : w.heap.size = H at ht1 ⊢
  clear hH
  go_wp2_with fail
  go_loop [5, 16] (fun dv i => ∃ (k : Nat) (e : Int), k ≤ S.length ∧ i = .int .i64 k ∧ dv = .int .i64 e ∧ 0 ≤ e ∧ e ≤ 100 + k ∧ outGo ((np : Int) - 1) S = outGo e (S.drop k)) (fun _ i => S.length - (intOf i).toNat)
  case atStart => exact ⟨0, (np : Int) - 1, Nat.zero_le _, rfl, by go_num, by omega, by omega, by simp⟩
  case round =>
   obtain ⟨k, e, hk, rfl, rfl, he0, he1, hgo⟩ := hrel
   have Hg := hide hgo
   clear hgo
   by_cases hlt : k < S.length
   ·obtain ⟨b, o, hbo, hc⟩ : ∃ b o, some (⟨H, 0, none⟩ : Addr) = some ⟨b, o, none⟩ ∧ ∀ i (h : i < S.length), w1.cell? ⟨b, o + i, none⟩ = some (strVal S[i]) := by
     rcases ht1 with h | h
     ·subst h; simp at hlt
     ·exact h
    obtain ⟨rfl, rfl⟩ : b = H ∧ o = 0 := by simp at hbo; exact ⟨hbo.1.symm, hbo.2.symm⟩
    have ck := hc k hlt
    obtain ⟨x, hx⟩ : ∃ x, S[k] = x := ⟨_, rfl⟩
    rw [hx, Nat.zero_add] at ck
    unfold strVal at ck
    have hdr : S.drop k = x :: S.drop (k + 1) := by rw [List.drop_eq_getElem_cons hlt, hx]
    have Hdr := hide hdr
    have q2 : (k : Int) < (S.length : Int) := by omega
    have Hst := hide (out_step e x (S.drop (k + 1)))
    obtain ⟨bd0, bd1⟩ := downP_bd x
    have hdn := down_any x
    generalize downP x = dx at *
    clear hx hdr hc hbo ht1
    by_cases hneg : e + dx < 0
    ·go_wp2_with (go_at_call 153; refine (hdn _).mono ?_; rintro e w' ⟨rfl, hw'⟩; rw [hw']; clear hw' w')
     go_ret
     exact ⟨ret_bool (by rw [unhide Ho, unhide Hg, unhide Hdr, unhide Hst, if_pos (by omega)]), unhide HB⟩
    ·go_wp2_with (go_at_call 153; refine (hdn _).mono ?_; rintro e w' ⟨rfl, hw'⟩; rw [hw']; clear hw' w')
     go_round
     case rel => exact ⟨k + 1, e + dx, by omega, by go_num, by go_num, by omega, by omega, by rw [unhide Hg, unhide Hdr, unhide Hst, if_neg (by omega)]⟩
     case measure => simp [intOf]; omega
   ·obtain rfl : k = S.length := by omega
    go_wp2_with fail
    go_ret
    exact ⟨ret_bool (by rw [unhide Ho, unhide Hg, List.drop_length]; rfl), unhide HB⟩
def pathOk (p : List UInt8) : Bool := decide ((sp p).length ≤ 5) && (sp p).all P.isName
set_option maxHeartbeats 1000000 in
theorem isPath_any (p : List UInt8) (w : World) (hg : GlobOk w) (hl : p.length ≤ 1100000) :
  Calls Tryz.prog 145 #[.string (bs p)] w fun e w' => e = .returned (.bool (pathOk p)) ∧ Below w.heap.size w w' := by
 have hsl := sp_len p
 have hpos : 1 ≤ (sp p).length := List.length_pos_iff.2 (sp_ne p)
 go_enter Tryz.func145, Tryz.ntmps145
 go_wp2_with fail
 refine (splitN_law p w hg hl).mono ?_
 rintro e w1 ⟨L, cap, rfl, ht1, hb1, hlen, hL⟩
 have HL := hide hL
 have hw := within_any (L.length : Int) 1 5 w1 (by decide)
 have hwd : P.within (L.length : Int) 1 5 = decide ((sp p).length ≤ 5) := by
  unfold P.within; rw [hlen]; congr 1; apply propext; omega
 rw [hwd] at hw
 clear hL hwd
 have HB := hide hb1
 clear hb1
 generalize hH : w.heap.size = H at ht1 ⊢
 by_cases h5 : (sp p).length ≤ 5
 ·have hLs := unhide HL h5
  subst hLs
  have Hp := hide (show pathOk p = (sp p).all P.isName by unfold pathOk; rw [decide_eq_true h5, Bool.true_and])
  rw [decide_eq_true h5] at hw
  clear HL hlen hH
  have hpart := sp_part p
  generalize hS : sp p = S at *
  clear hS
  go_wp2_with (go_at_call 86; refine hw.mono ?_; rintro e w' ⟨rfl, hw'⟩; rw [hw']; clear hw' w')
  go_loop [14] (fun i => ∃ k : Nat, k ≤ S.length ∧ i = .int .i64 k ∧ S.all P.isName = (S.drop k).all P.isName) (fun i => S.length - (intOf i).toNat)
  case atStart => exact ⟨0, Nat.zero_le _, rfl, by simp⟩
  case round =>
   obtain ⟨k, hk, rfl, hall⟩ := hrel
   have Hg := hide hall
   clear hall
   by_cases hlt : k < S.length
   ·obtain ⟨b, o, hbo, hc⟩ : ∃ b o, some (⟨H, 0, none⟩ : Addr) = some ⟨b, o, none⟩ ∧ ∀ i (h : i < S.length), w1.cell? ⟨b, o + i, none⟩ = some (strVal S[i]) := by
     rcases ht1 with h | h
     ·subst h; simp at hlt
     ·exact h
    obtain ⟨rfl, rfl⟩ : b = H ∧ o = 0 := by simp at hbo; exact ⟨hbo.1.symm, hbo.2.symm⟩
    have ck := hc k hlt
    obtain ⟨x, hx⟩ : ∃ x, S[k] = x := ⟨_, rfl⟩
    rw [hx, Nat.zero_add] at ck
    unfold strVal at ck
    have Hdr := hide (show S.drop k = x :: S.drop (k + 1) by rw [List.drop_eq_getElem_cons hlt, hx])
    have q2 : (k : Int) < (S.length : Int) := by omega
    have hnm := isName_any (bs x) w1 (by rw [bs_size]; have := hpart x (by rw [← hx]; exact List.getElem_mem hlt); unfold maxLen; omega)
    rw [bs_data] at hnm
    generalize hnx : P.isName x = nx at *
    have Hnx := hide hnx
    clear hx hc hbo ht1 hnx hw
    cases nx with
    | false =>
     go_wp2_with (go_at_call 170; refine hnm.mono ?_; rintro e w' ⟨rfl, hw'⟩; rw [hw']; clear hw' w')
     go_ret
     exact ⟨ret_bool (by rw [unhide Hp, unhide Hg, unhide Hdr, List.all_cons, unhide Hnx]; rfl), unhide HB⟩
    | true =>
     go_wp2_with (go_at_call 170; refine hnm.mono ?_; rintro e w' ⟨rfl, hw'⟩; rw [hw']; clear hw' w')
     go_round
     case rel => exact ⟨k + 1, by omega, by go_num, by rw [unhide Hg, unhide Hdr, List.all_cons, unhide Hnx, Bool.true_and]⟩
     case measure => simp [intOf]; omega
   ·obtain rfl : k = S.length := by omega
    go_wp2_with fail
    go_ret
    exact ⟨ret_bool (by rw [unhide Hp, unhide Hg, List.drop_length]; rfl), unhide HB⟩
 ·have Hp := hide (show pathOk p = false by unfold pathOk; rw [decide_eq_false h5, Bool.false_and])
  rw [decide_eq_false h5] at hw
  clear HL hlen hH h5 hpos hsl
  go_wp2_with (go_at_call 86; refine hw.mono ?_; rintro e w' ⟨rfl, hw'⟩; rw [hw']; clear hw' w')
  go_ret
  exact ⟨ret_bool (unhide Hp).symm, unhide HB⟩
def dataOk (k : Int) (d : List UInt8) : Bool := if k = 0 then d.isEmpty else if k = 1 ∨ k = 2 then decide ((d.length : Int) ≤ 60) else if k = 3 then P.isTarget d else false
set_option maxHeartbeats 1000000 in
theorem isData_any (k : Int) (d : List UInt8) (w : World) (hl : d.length ≤ maxLen) :
  Calls Tryz.prog 146 #[.int .i64 k, .string (bs d)] w fun e w' => e = .returned (.bool (dataOk k d)) ∧ w' = w := by
 have hsz := bs_size d
 by_cases h0 : k = 0
 ·subst h0
  have s2 : (bs d).toList.isEmpty = d.isEmpty := by rw [ByteArray.toList_eq, bs_data]
  have hd : dataOk 0 d = d.isEmpty := rfl
  rw [hd]
  go_enter Tryz.func146, Tryz.ntmps146
  go_wp2
  go_ret
  exact ⟨rfl, rfl⟩
 ·have b0 : (k == 0) = false := by simpa using h0
  by_cases h12 : k = 1 ∨ k = 2
  ·have hd : dataOk k d = P.within (d.length : Int) 0 60 := by
    unfold dataOk P.within; rw [if_neg h0, if_pos h12]; congr 1; apply propext; omega
   rw [hd]
   have hw := within_any (d.length : Int) 0 60 w (by decide)
   generalize P.within (d.length : Int) 0 60 = B at *
   clear hd h0
   rcases h12 with rfl | rfl
   ·go_enter Tryz.func146, Tryz.ntmps146
    go_wp2_with (go_at_call 86; refine hw.mono ?_; rintro e w' ⟨rfl, hw'⟩; rw [hw']; clear hw' w')
    go_ret
    exact ⟨rfl, rfl⟩
   ·go_enter Tryz.func146, Tryz.ntmps146
    go_wp2_with (go_at_call 86; refine hw.mono ?_; rintro e w' ⟨rfl, hw'⟩; rw [hw']; clear hw' w')
    go_ret
    exact ⟨rfl, rfl⟩
  ·have b1 : (k == 1) = false := by simp; exact fun h => h12 (.inl h)
   have b2 : (k == 2) = false := by simp; exact fun h => h12 (.inr h)
   by_cases h3 : k = 3
   ·subst h3
    have hd : dataOk 3 d = P.isTarget d := rfl
    rw [hd]
    have ht := isTarget_any (bs d) w (by rw [hsz]; exact hl)
    rw [bs_data] at ht
    generalize P.isTarget d = B at *
    clear hd h0 h12
    go_enter Tryz.func146, Tryz.ntmps146
    go_wp2_with (go_at_call 172; refine ht.mono ?_; rintro e w' ⟨rfl, hw'⟩; rw [hw']; clear hw' w')
    go_ret
    exact ⟨rfl, rfl⟩
   ·have b3 : (k == 3) = false := by simpa using h3
    have hd : dataOk k d = false := by unfold dataOk; rw [if_neg h0, if_neg h12, if_neg h3]
    rw [hd]
    clear hd h0 h12 h3
    go_enter Tryz.func146, Tryz.ntmps146
    go_wp2
    go_ret
    exact ⟨rfl, rfl⟩
def entV (x : En) : Value := .agg #[.string x.path, .int .i64 x.kind, .string x.data]
def entOk (x : En) : Bool := pathOk x.path.data.toList && dataOk x.kind x.data.data.toList
set_option maxHeartbeats 1000000 in
theorem isEntry_any (x : En) (w : World) (hg : GlobOk w) (hl : x.path.size ≤ 1100000) (hd : x.data.size ≤ maxLen) :
  Calls Tryz.prog 98 #[entV x] w fun e w' => e = .returned (.bool (entOk x)) ∧ Below w.heap.size w w' := by
 obtain ⟨pa, kd, dt⟩ := x
 unfold entV entOk
 simp only at hl hd ⊢
 have ep := bs_of pa
 have ed := bs_of dt
 have hp := fun w' hg' => isPath_any pa.data.toList w' hg' hl
 have hk := fun w' => isData_any kd dt.data.toList w' hd
 rw [ep] at hp
 rw [ed] at hk
 generalize pathOk pa.data.toList = A at *
 generalize dataOk kd dt.data.toList = B at *
 clear ep ed
 have hg1 : GlobOk (w.alloc (.cells #[.string pa, .int .i64 kd, .string dt] 32)) := hg.below ((Below.refl _ _).alloc (Nat.le_refl _) _) (Nat.le_refl _)
 cases A with
 | false =>
  go_enter Tryz.func98, Tryz.ntmps98
  go_wp2_with fail
  refine (hp _ hg1).mono ?_
  rintro e w1 ⟨rfl, hb1⟩
  have hbb : Below w.heap.size w w1 := ((Below.refl _ _).alloc (Nat.le_refl _) _).trans (hb1.mono (by simp))
  clear hb1
  go_wp2_with fail
  go_ret
  exact ⟨rfl, hbb⟩
 | true =>
  go_enter Tryz.func98, Tryz.ntmps98
  go_wp2_with fail
  refine (hp _ hg1).mono ?_
  rintro e w1 ⟨rfl, hb1⟩
  have hbb : Below w.heap.size w w1 := ((Below.refl _ _).alloc (Nat.le_refl _) _).trans (hb1.mono (by simp))
  have hcc := (bcell hb1).1 w.heap.size
  have c0 := (hcc 0 (by simp)).trans (by simp : _ = some (.string pa))
  have c1 := (hcc 1 (by simp)).trans (by simp : _ = some (.int .i64 kd))
  have c2 := (hcc 2 (by simp)).trans (by simp : _ = some (.string dt))
  clear hb1 hcc
  go_wp2_with (go_at_call 146; refine (hk _).mono ?_; rintro e w' ⟨rfl, hw'⟩; rw [hw']; clear hw' w')
  go_ret
  exact ⟨rfl, hbb⟩
end Go.Proofs.YtjmacegibchplaaGreatDoor
namespace Go.Proofs.YtjmacegibchplaaGreatDoor
open Go.RowKit Go.Maps Go.WideMaps
set_option linter.unusedVariables false
def rawElem (v : Value) : Option (DataW Value × List MemPlace) := some (.held v, [])
theorem strKeyed : Keyed Tryz.prog 9 := string_keyed Tryz.underlying9
theorem key_bs (k : List UInt8) (h : k.length ≤ maxLen) : keyOf Tryz.prog 9 (.string (bs k)) = some (.string k) := by
 rw [keyOf_string_mk Tryz.underlying9 (by rw [bs_size]; exact h), bs_data]
def MapIs (w : World) (b n : Nat) (f : List UInt8 → Option Value) : Prop :=
 ∃ D, w.ownsMap Tryz.prog 9 rawElem b n D ∧ ∀ k, Maps.has D (.string k) = (f k).isSome ∧ ∀ v, f k = some v → ∀ z, D.atKey (.string k) z = .held v
theorem MapIs.lt {w : World} {b n : Nat} {f : List UInt8 → Option Value} (h : MapIs w b n f) : b < w.heap.size := by
 obtain ⟨D, h, _⟩ := h
 exact h.lt
theorem MapIs.made (w : World) : MapIs (w.alloc (.map #[] 0)) w.heap.size 0 (fun _ => none) :=
 ⟨_, World.ownsMap_made w _ _ _, fun k => ⟨rfl, fun v hv => by simp at hv⟩⟩
theorem MapIs.kept {w w' : World} {b n : Nat} {f : List UInt8 → Option Value} {row : Option Nat} (h : MapIs w b n f) (hg : w.grownBy w' row) (hne : some b ≠ row) : MapIs w' b n f := by
 obtain ⟨D, h, hf⟩ := h
 exact ⟨D, h.kept hg hne, hf⟩
theorem MapIs.same {w w' : World} {b n : Nat} {f : List UInt8 → Option Value} (h : MapIs w b n f) (hg : w'.heap[b]? = w.heap[b]?) : MapIs w' b n f := by
 obtain ⟨D, ⟨es, clock, hb, F, hs, hD⟩, hf⟩ := h
 exact ⟨D, ⟨es, clock, hg.trans hb, F, hs, hD⟩, hf⟩
theorem MapIs.alloc {w : World} {b n : Nat} {f : List UInt8 → Option Value} (h : MapIs w b n f) (o : Obj) : MapIs (w.alloc o) b n f := h.kept (World.grownBy_alloc w o none) (by simp)
theorem MapIs.drew {w : World} {b n : Nat} {f : List UInt8 → Option Value} (h : MapIs w b n f) : MapIs w.drew b n f := h
theorem MapIs.at {w : World} {b n : Nat} {f : List UInt8 → Option Value} {D : DataW Value} (hf : ∀ k, Maps.has D (.string k) = (f k).isSome ∧ ∀ v, f k = some v → ∀ z, D.atKey (.string k) z = .held v) (k : List UInt8) (z : Value) : D.atKey (.string k) (.held z) = .held ((f k).getD z) := by
 cases hk : f k with
 | none =>
  have h1 := (hf k).1
  rw [hk] at h1
  rw [atKey_of_not_has h1]; rfl
 | some v => rw [(hf k).2 v hk]; rfl
theorem MapIs.look {w : World} {b n : Nat} {f : List UInt8 → Option Value} (h : MapIs w b n f) (t e : TypeId) (ht : Tryz.prog.underlying t = some (.map 9 e)) (z : Value) (hz : (zeroValue e).run Tryz.prog w = .ok z w) (k : List UInt8) (hk : k.length ≤ maxLen) :
  (Instr.lookup t (.map (some b)) (.string (bs k)) false).run Tryz.prog w = .ok ((f k).getD z) w := by
 obtain ⟨D, h, hf⟩ := h
 obtain ⟨v, ps, hrun, hv⟩ := h.lookup strKeyed ht hz (zd := .held z) (zp := []) rfl (key_bs k hk)
 rw [MapIs.at (w := w) (b := b) (n := n) hf] at hv
 simp only [rawElem, Option.some.injEq, Prod.mk.injEq, DataW.held.injEq] at hv
 rw [hrun, hv.1]
theorem MapIs.look_ok {w : World} {b n : Nat} {f : List UInt8 → Option Value} (h : MapIs w b n f) (t e : TypeId) (ht : Tryz.prog.underlying t = some (.map 9 e)) (z : Value) (hz : (zeroValue e).run Tryz.prog w = .ok z w) (k : List UInt8) (hk : k.length ≤ maxLen) :
  (Instr.lookup t (.map (some b)) (.string (bs k)) true).run Tryz.prog w = .ok (.tuple #[(f k).getD z, .bool (f k).isSome]) w := by
 obtain ⟨D, h, hf⟩ := h
 obtain ⟨v, ps, hrun, hv⟩ := h.look_ok strKeyed ht hz (zd := .held z) (zp := []) rfl (key_bs k hk)
 rw [MapIs.at (w := w) (b := b) (n := n) hf] at hv
 simp only [rawElem, Option.some.injEq, Prod.mk.injEq, DataW.held.injEq] at hv
 rw [hrun, hv.1, (hf k).1]
def updF (f : List UInt8 → Option Value) (k : List UInt8) (v : Value) : List UInt8 → Option Value := fun x => if x = k then some v else f x
theorem MapIs.store {w : World} {b n : Nat} {f : List UInt8 → Option Value} (h : MapIs w b n f) (t e : TypeId) (ht : Tryz.prog.underlying t = some (.map 9 e)) (hn : n < maxLen) (k : List UInt8) (hk : k.length ≤ maxLen) (v : Value) :
  ∃ w', (Instr.mapUpdate t (.map (some b)) (.string (bs k)) v).run Tryz.prog w = .ok () w' ∧ MapIs w' b (n + 1) (updF f k v) ∧ w.grownBy w' (some b) := by
 obtain ⟨D, h, hf⟩ := h
 have hM := h.isMap
 obtain ⟨w', hrun, h', hg⟩ := h.update strKeyed ht hn (d := .held v) (ps := []) (key_bs k hk) rfl
 refine ⟨w', hrun, ⟨_, h', fun x => ?_⟩, hg⟩
 unfold updF
 by_cases hx : x = k
 ·subst hx
  rw [if_pos rfl]
  exact ⟨has_put_same (k := .string x) hM trivial _, fun u hu z => by simp at hu; subst hu; exact atKey_put_same (k := .string x) hM trivial _ _⟩
 ·rw [if_neg hx]
  have hne : (Lit.string x) ≠ (Lit.string k) := by simpa using hx
  exact ⟨by rw [has_put_other hne]; exact (hf x).1, fun u hu z => by rw [atKey_put_other hne]; exact (hf x).2 u hu z⟩
end Go.Proofs.YtjmacegibchplaaGreatDoor