import Derived.Test.YtjmacegibchplaaGreatDoorPathP
import Derived.Test.YtjmacegibchplaaGreatDoorTreeE
namespace Go.Proofs.YtjmacegibchplaaGreatDoor
open Go.RowKit
set_option linter.unusedVariables false
theorem OwnsS.weak {w : World} {base base' : Nat} {v : Value} {l : List (List UInt8)} (h : OwnsS w base v l) (hb : base' ≤ base) : OwnsS w base' v l := by
 refine ⟨h.1, ?_⟩
 rcases h.2 with hn | ⟨g, cap, cur, e, hg, rest⟩
 ·exact .inl hn
 ·exact .inr ⟨g, cap, cur, e, Nat.le_trans hb hg, rest⟩
theorem allTo_small (l : List En) (ht : Tree l) (k : Nat) (hk : k ≤ l.length) : ∀ x ∈ allTo l k, x.length ≤ 2000 := by
 intro x hx
 unfold allTo at hx
 rcases List.mem_cons.1 hx with rfl | hx
 ·have := blob_small l ht 6 [] (.inl rfl); omega
 ·rw [List.mem_flatMap] at hx
  obtain ⟨e, he, hx⟩ := hx
  obtain ⟨i, hi, rfl⟩ := List.getElem_of_mem (List.mem_of_mem_take he)
  unfold partP at hx
  split at hx
  ·simp at hx; subst hx
   have := blob_small l ht 6 _ (show DirPath (l[i].path.data.toList ++ [47]) from .inr ⟨_, rfl⟩); omega
  ·split at hx
   ·rename_i h12
    simp at hx; subst hx
    have hkb := fineP_kind l i hi (ht.fine i hi)
    simp only [kindBad, Bool.or_eq_false_iff] at hkb
    have k4 := hkb.1.2
    have : (l[i].kind == 1 || l[i].kind == 2) = true := by rcases h12 with h | h <;> simp [h]
    rw [this] at k4
    simp at k4
    simp; omega
   ·simp at hx
theorem dep_nil : dep [] = 0 := rfl
theorem dep_of (l : List En) (ht : Tree l) (i : Nat) (h : i < l.length) : dep (l[i].path.data.toList ++ [47]) ≤ 5 := by
 have h1 := sp_app l[i].path.data.toList []
 have h2 := fineP_deep l i h (ht.fine i h)
 have h3 : (sp []).length = 1 := rfl
 unfold dep
 rw [h1, List.length_append, h3]
 omega
theorem refDigest_bs (L : List UInt8) (w : World) (hs : L.length ≤ 100000) :
  Calls Tryz.prog 20 #[.string (bs L)] w fun e w' => e = .returned (.string (bs (P.digest L))) ∧ ∃ n, w' = w.drewN n := by
 refine (refDigest_any (bs L) w (by rw [bs_size]; unfold maxLen; omega)).mono ?_
 rintro e w' ⟨rfl, h⟩
 rw [bs_data]
 exact ⟨rfl, h⟩
theorem getD_txt (A : List (List UInt8)) (k : Nat) (h : k < A.length) : A.getD k [] = A[k] := by rw [List.getD_eq_getElem?_getD, List.getElem?_eq_getElem h]; rfl
theorem str_eq2 (x y : List UInt8) : ((bs x).toList == (bs y).toList) = (x == y) := by rw [ByteArray.toList_eq, ByteArray.toList_eq, bs_data, bs_data]
theorem str_less (x y : List UInt8) : Op.bytesLess (bs x).toList (bs y).toList = less x y := by rw [ByteArray.toList_eq, ByteArray.toList_eq, bs_data, bs_data]; rfl
set_option maxRecDepth 100000 in
set_option maxHeartbeats 400000 in
theorem built_any (l : List En) (ht : Tree l) (hdl : ∀ i (h : i < l.length), l[i].data.size ≤ maxLen) (a : Option Addr) (c : Nat) (w : World) (hi : LiesE w a l) :
  Calls Tryz.prog 46 #[.slice a l.length c] w fun e w' => Below w.heap.size w w' ∧
   ((builtP l = none ∧ e = .returned (.tuple #[.slice none 0 0, .bool false])) ∨ ∃ out v, builtP l = some out ∧ e = .returned (.tuple #[v, .bool true]) ∧ OwnsS w' w.heap.size v out) := by
 have hl := ht.len
 go_enter Tryz.func46, Tryz.ntmps46
 go_wp2_with fail
 have hb0 := (blob_any l ht hdl 6 [] a c w hi (.inl rfl) (by simp) (by rw [dep_nil]; omega) (by rw [dep_nil]; omega))
 refine hb0.mono ?_
 rintro e w1 ⟨rfl, hb1⟩
 clear hb0
 go_wp2_with (at_builtin; refine app_text rfl (.tmp 12) (.tmp 15) rfl w.heap.size _ [] rfl (World.ownsRow.alloc (World.ownsRow_nil _ _ _ _) _) ⟨w1.heap.size, 0, none⟩ (blobP l 6 []) rfl ?qa ?qb ?qc ?_)
 case qa => first | rfl | (rw [add_off0]; simp [strVal])
 case qb => simp
 case qc => have := hb1.size; first | omega | (simp; omega)
 intro v2 w2 ho2 g2
 have hb2 : Below w.heap.size w w2 := (hb1.alloc hb1.size _).grown g2 (by have := hb1.size; simp; omega) (fun k hk => by simp [Value.ownBlock] at hk)
 clear g2 hb1
 go_wp2_with fail
 go_loopw [4, 5] (fun v i wr => ∃ k : Nat, k ≤ l.length ∧ i = .int .i64 k ∧ OwnsS wr w.heap.size v (allTo l k) ∧ Below w.heap.size w wr) (fun _ i _ => l.length - (intOf i).toNat)
 case atStart => exact ⟨0, Nat.zero_le _, rfl, ho2, hb2⟩
 case round =>
  clear ho2 hb2
  obtain ⟨k, hk, rfl, hown, hbel⟩ := hrel
  have hbs := hbel.size
  by_cases hlt : k < l.length
  ·have hir := hi.below hbel (Nat.le_refl _)
   obtain ⟨b, o, rfl, hc⟩ := EntsAt.get hir hlt
   obtain ⟨e0, e1, e2⟩ := hc k hlt
   have q2 : (k : Int) < (l.length : Int) := by omega
   have Hs := hide (allTo_succ l k hlt)
   have hal := allTo_len l k hk
   have hp64 := tree_path l ht k hlt
   have hdp := dep_of l ht k hlt
   obtain ⟨p, kd, dt, hx⟩ : ∃ p kd dt, l[k] = ⟨bs p, kd, bs dt⟩ := ⟨l[k].path.data.toList, l[k].kind, l[k].data.data.toList, by rw [bs_of, bs_of]⟩
   rw [hx] at e0 e1 e2 Hs hp64 hdp
   simp only [bs_data] at e0 e1 e2 hp64 hdp
   have hpart : partP l ⟨bs p, kd, bs dt⟩ = if kd = 0 then [blobP l 6 (p ++ [47])] else if kd = 1 ∨ kd = 2 then [dt] else [] := by simp only [partP, bs_data]
   rw [hpart] at Hs
   clear hpart hx hc
   by_cases h0 : kd = 0
   ·subst h0
    have Hs2 := hide (show allTo l (k + 1) = allTo l k ++ [blobP l 6 (p ++ [47])] from unhide Hs)
    clear Hs
    have hadd : ∀ w, (Op.stringOp .add (bs p) ⟨#[47]⟩).run Tryz.prog w = .ok (.string (bs (p ++ [47]))) w := fun w => by
     have := add_ok (bs p) ⟨#[47]⟩ (by rw [bs_size]; omega) (by show 1 ≤ 100000; omega) w
     rw [this, show bs p ++ ⟨#[47]⟩ = bs (p ++ [47]) from cat_eq p ⟨#[47]⟩]
    go_wp2_with fail
    refine (blob_any l ht hdl 6 (p ++ [47]) _ _ wr hir (.inr ⟨p, rfl⟩) (by simp; omega) hdp (by omega)).mono ?_
    rintro e w5 ⟨rfl, hb5⟩
    have ho5 := hown.below hb5
    have hw5 := hbel.trans (hb5.mono hbel.size)
    have hs5 := hw5.size
    generalize blobP l 6 (p ++ [47]) = B at *
    go_wp2_with (at_builtin; refine app_text rfl (.tmp 30) (.tmp 39) rfl w.heap.size _ (allTo l k) rfl (ho5.alloc _) ⟨w5.heap.size, 0, none⟩ B rfl ?qd ?qe ?qf ?_)
    case qd => first | rfl | (rw [add_off0]; simp [strVal])
    case qe => omega
    case qf => first | omega | (simp; omega)
    intro v4 w4 ho4 g4
    have hb4 : Below w.heap.size w w4 := (hw5.alloc hw5.size _).grown g4 (by simp; omega) (fun k hk => (World.ownsRow.lt ho5 k hk).1)
    clear g4
    go_wp2_with fail
    go_roundw
    case rel => exact ⟨k + 1, by omega, by go_num, by rw [unhide Hs2]; exact ho4, hb4⟩
    case measure => simp [intOf]; omega
   ·have g0 : (kd == 0) = false := by simpa using h0
    by_cases h12 : kd = 1 ∨ kd = 2
    ·have Hs2 := hide (show allTo l (k + 1) = allTo l k ++ [dt] by rw [unhide Hs, if_neg h0, if_pos h12])
     clear Hs
     rcases h12 with rfl | rfl
     all_goals
      go_wp2_with (at_builtin; refine app_text rfl (.tmp 44) (.tmp 50) rfl w.heap.size _ (allTo l k) rfl (hown.alloc _) ⟨wr.heap.size, 0, none⟩ dt rfl ?qd ?qe ?qf ?_)
      case qd => first | rfl | (rw [add_off0]; simp [strVal])
      case qe => omega
      case qf => first | omega | (simp; omega)
      intro v4 w4 ho4 g4
      have hb4 : Below w.heap.size w w4 := (hbel.alloc hbel.size _).grown g4 (by simp; omega) (fun k hk => (World.ownsRow.lt hown k hk).1)
      clear g4
      go_wp2_with fail
      go_roundw
      case rel => exact ⟨k + 1, by omega, by go_num, by rw [unhide Hs2]; exact ho4, hb4⟩
      case measure => simp [intOf]; omega
    ·have Hs2 := hide (show allTo l (k + 1) = allTo l k by rw [unhide Hs, if_neg h0, if_neg h12, List.append_nil])
     have g1 : (kd == 1) = false := by simpa using fun h => h12 (.inl h)
     have g2 : (kd == 2) = false := by simpa using fun h => h12 (.inr h)
     clear Hs
     go_wp2_with fail
     go_roundw
     case rel => exact ⟨k + 1, by omega, by go_num, by rw [unhide Hs2]; exact hown, hbel⟩
     case measure => simp [intOf]; omega
  ·obtain rfl : k = l.length := by omega
   have Hb := hide (show builtP l = outsP (allTo l l.length) from rfl)
   have hA41 := allTo_len l l.length (Nat.le_refl _)
   have Hsm := hide (allTo_small l ht l.length (Nat.le_refl _))
   obtain ⟨aA, cA, rfl, htA, -, -⟩ := hown.texts
   clear hown
   generalize allTo l l.length = A at *
   obtain ⟨wA, hwA⟩ : ∃ x, x = wr := ⟨_, rfl⟩
   subst hwA
   go_wp2_with fail
   go_loopw [6, 7] (fun v la w2 => ∃ (done : List (List UInt8)) (last : List UInt8) (F : Nat), OwnsS w2 wA.heap.size v done ∧ Below wA.heap.size wA w2 ∧ la = .string (bs last) ∧ beyond A last < F ∧ done.length + F = A.length + 1 ∧ outsP A = (outG A F last).map (done ++ ·)) (fun v _ _ => A.length + 1 - lenV v)
   case atStart => exact ⟨[], [], A.length + 1, World.ownsRow_nil _ _ _ _, Below.refl _ _, rfl, by have := beyond_le A []; omega, by simp, by simp [outsP]⟩
   case round =>
    obtain ⟨done, last, F, hown2, hbel2, rfl, hby, hdf, hout⟩ := hrel
    have Hout := hide hout
    have Hby := hide hby
    have hbs2 := hbel2.size
    have htA2 := htA.below hbel2 (Nat.le_refl _)
    clear hout hby
    obtain ⟨w3, hw3⟩ : ∃ x, x = wr := ⟨_, rfl⟩
    subst hw3
    go_wp2_with fail
    go_loopw [8, 9] (fun bv i wx => ∃ k n : Nat, k ≤ A.length ∧ i = .int .i64 k ∧ bv = .int .i64 (nxtTo A last k) ∧ wx = w3.drewN n) (fun _ i _ => A.length - (intOf i).toNat)
    case atStart => exact ⟨0, 0, Nat.zero_le _, rfl, rfl, rfl⟩
    case round =>
     obtain ⟨k, n, hk, rfl, rfl, hwr⟩ := hrel
     subst hwr
     by_cases hlt : k < A.length
     ·obtain ⟨b, o, rfl, hct⟩ : ∃ b o, aA = some ⟨b, o, none⟩ ∧ ∀ i (h : i < A.length), w3.cell? ⟨b, o + i, none⟩ = some (strVal A[i]) := by
       rcases htA2 with h | h
       ·subst h; simp at hlt
       ·exact h
      have ck := hct k hlt
      unfold strVal at ck
      have hsz := unhide Hsm A[k] (List.getElem_mem hlt)
      have Hnx := hide (show nxtTo A last (k + 1) = stepD A last (nxtTo A last k) k from rfl)
      have Hg := hide (getD_txt A k hlt)
      have Hct := hide hct
      clear hct
      generalize A[k] = y at *
      have q2 : (k : Int) < (A.length : Int) := by omega
      have hbd := nxtTo_bd A last k
      generalize nxtTo A last k = bi at *
      go_wp2_with fail
      refine (refDigest_bs y _ (by omega)).mono ?_
      rintro e w5 ⟨rfl, m5, hw5⟩
      subst hw5
      rw [World.drewN_drewN]
      go_upto_region 19 with fail
      go_cut [78] (fun s78 wx => s78 = .bool (less last (P.digest y) && (decide (bi < 0) || less (P.digest y) (P.digest (A.getD bi.toNat [])))) ∧ ∃ n, wx = w3.drewN n)
      case first =>
       clear Hnx Hout Hby
       generalize hd : P.digest y = d at *
       clear hd ck
       obtain ⟨A1, hA1⟩ : ∃ x, Op.bytesLess (bs d).toList (bs last).toList = x := ⟨_, rfl⟩
       obtain ⟨B1, hB1⟩ : ∃ x, ((bs d).toList == (bs last).toList) = x := ⟨_, rfl⟩
       have HA := hide (show (!(A1 || B1)) = less last d by rw [← gt_eq, ← hA1, ← hB1, str_less, str_eq2])
       cases A1 with
       | true =>
        go_wp2_with fail
        go_meet
        exact ⟨congrArg Value.bool (by rw [← unhide HA]; rfl), _, rfl⟩
       | false =>
        cases B1 with
        | true =>
         go_wp2_with fail
         go_meet
         exact ⟨congrArg Value.bool (by rw [← unhide HA]; rfl), _, rfl⟩
        | false =>
         by_cases hneg : bi < 0
         ·have g : decide (bi < 0) = true := by simpa using hneg
          go_wp2_with fail
          go_meet
          exact ⟨congrArg Value.bool (by rw [← unhide HA, g]; rfl), _, rfl⟩
         ·have g : decide (bi < 0) = false := by simpa using hneg
          obtain ⟨m, rfl⟩ : ∃ m : Nat, bi = (m : Int) := ⟨bi.toNat, by omega⟩
          have hm : m < A.length := by omega
          have hm' : (m : Int) < (A.length : Int) := by omega
          have cm := unhide Hct m hm
          unfold strVal at cm
          have hszm := unhide Hsm A[m] (List.getElem_mem hm)
          have Hgm := hide (getD_txt A m hm)
          generalize A[m] = x at *
          go_wp2_with fail
          refine (refDigest_bs x _ (by omega)).mono ?_
          rintro e w6 ⟨rfl, m6, hw6⟩
          subst hw6
          rw [World.drewN_drewN]
          have hD := str_less d (P.digest x)
          have HD := hide (show less d (P.digest (A.getD (m : Int).toNat [])) = less d (P.digest x) by rw [Int.toNat_natCast, unhide Hgm])
          generalize less d (P.digest x) = D1 at *
          generalize P.digest x = dx at *
          cases D1
          all_goals
           go_wp2_with fail
           go_meet
           exact ⟨congrArg Value.bool (by rw [← unhide HA, g, unhide HD]; rfl), _, rfl⟩
      case rest =>
       obtain ⟨h78, n6, hwc⟩ := hcut
       subst hwc
       subst h78
       have Hst := hide (show nxtTo A last (k + 1) = if (less last (P.digest y) && (decide (bi < 0) || less (P.digest y) (P.digest (A.getD bi.toNat [])))) = true then (k : Int) else bi by
        rw [unhide Hnx]; unfold stepD; rw [unhide Hg])
       clear Hnx
       cases hcb : (less last (P.digest y) && (decide (bi < 0) || less (P.digest y) (P.digest (A.getD bi.toNat [])))) with
       | true =>
        rw [hcb] at Hst
        clear hcb
        go_wp2_with fail
        go_roundw
        case rel => exact ⟨k + 1, _, by omega, by go_num, by rw [unhide Hst]; rfl, rfl⟩
        case measure => simp [intOf]; omega
       | false =>
        rw [hcb] at Hst
        clear hcb
        go_wp2_with fail
        go_roundw
        case rel => exact ⟨k + 1, _, by omega, by go_num, by rw [unhide Hst]; rfl, rfl⟩
        case measure => simp [intOf]; omega
     ·obtain rfl : k = A.length := by omega
      obtain ⟨f, rfl⟩ : ∃ f, F = f + 1 := ⟨F - 1, by have := unhide Hby; omega⟩
      have Hsp := hide (nxtTo_spec A last A.length)
      have Hog := hide (show outG A (f + 1) last = if nxtTo A last A.length < 0 then some [] else
       if clashP A (A.getD (nxtTo A last A.length).toNat []) then none else (outG A f (P.digest (A.getD (nxtTo A last A.length).toNat []))).map (A.getD (nxtTo A last A.length).toNat [] :: ·) from rfl)
      generalize nxtTo A last A.length = bi at *
      have ho3 := hown2.below (below_drewN (Below.refl _ _) n)
      have hb3 := below_drewN hbel2 n
      by_cases hneg : bi < 0
      ·have g : decide (bi < 0) = true := by simpa using hneg
       have Hr := hide (show outsP A = some done by rw [unhide Hout, unhide Hog, if_pos hneg]; simp)
       go_wp2_with fail
       go_ret2
       exact ⟨hbel.trans (hb3.mono hbel.size), .inr ⟨done, _, by rw [unhide Hb, unhide Hr], rfl, ho3.weak hbel.size⟩⟩
      ·have g : decide (bi < 0) = false := by simpa using hneg
       obtain ⟨m, hm, rfl, hls, -⟩ : ∃ b : Nat, b < A.length ∧ bi = b ∧ less last (P.digest (A.getD b [])) = true ∧ True := by
        rcases unhide Hsp with ⟨h0, _⟩ | ⟨b, hb, h0, h1, _⟩
        ·omega
        ·exact ⟨b, hb, h0, h1, trivial⟩
       have hlt2 := beyond_lt A last m hm hls
       clear Hsp
       obtain ⟨b, o, rfl, hct⟩ : ∃ b o, aA = some ⟨b, o, none⟩ ∧ ∀ i (h : i < A.length), w3.cell? ⟨b, o + i, none⟩ = some (strVal A[i]) := by
        rcases htA2 with h | h
        ·subst h; simp at hm
        ·exact h
       have Hct := hide hct
       have cm := hct m hm
       clear hct
       unfold strVal at cm
       have hszx := unhide Hsm A[m] (List.getElem_mem hm)
       have hgm := getD_txt A m hm
       have hm' : (m : Int) < (A.length : Int) := by omega
       rw [Int.toNat_natCast] at Hog
       rw [hgm] at Hog hlt2
       clear hls hgm
       generalize A[m] = x at *
       have Hby2 := hide (show beyond A (P.digest x) < f by have := unhide Hby; omega)
       have Hog2 := hide (show outG A (f + 1) last = if clashP A x then none else (outG A f (P.digest x)).map (x :: ·) by rw [unhide Hog, if_neg hneg])
       clear Hby hlt2 Hog hneg ho3 hb3
       go_wp2_with fail
       refine (refDigest_bs x _ (by omega)).mono ?_
       rintro e w5 ⟨rfl, m5, hw5⟩
       subst hw5
       rw [World.drewN_drewN]
       go_wp2_with fail
       go_loopw [11] (fun i wx => ∃ k n : Nat, k ≤ A.length ∧ i = .int .i64 k ∧ wx = w3.drewN n ∧ (A.take k).any (fun y => P.digest y == P.digest x && !(y == x)) = false) (fun i _ => A.length - (intOf i).toNat)
       case atStart => exact ⟨0, _, Nat.zero_le _, rfl, rfl, rfl⟩
       case round =>
        obtain ⟨k, n7, hk7, rfl, hw7, hany⟩ := hrel
        subst hw7
        have Hany := hide hany
        clear hany
        by_cases hlt7 : k < A.length
        ·have ck := unhide Hct k hlt7
         unfold strVal at ck
         have hszy := unhide Hsm A[k] (List.getElem_mem hlt7)
         have Hs := hide (any_take_succ (fun y => P.digest y == P.digest x && !(y == x)) A k hlt7)
         have Ha := hide (any_at (fun y => P.digest y == P.digest x && !(y == x)) A k hlt7)
         generalize A[k] = y at *
         have q7 : (k : Int) < (A.length : Int) := by omega
         have hE := str_eq2 (P.digest y) (P.digest x)
         have hN := str_eq2 y x
         have Hw := hide (show clashP A x = A.any (fun y => P.digest y == P.digest x && !(y == x)) from rfl)
         generalize hEE : (P.digest y == P.digest x) = E at *
         generalize hNN : (y == x) = N at *
         have HE := hide hEE
         have HN := hide hNN
         clear hEE hNN
         have hyq : y.length ≤ 100000 := by omega
         have ck7 : (w3.drewN n7).cell? ⟨b, o + k, none⟩ = some (.string (bs y)) := ck
         have cm7 : (w3.drewN n7).cell? ⟨b, o + m, none⟩ = some (.string (bs x)) := cm
         generalize hw7 : w3.drewN n7 = w7 at *
         have Hw7 := hide hw7
         clear hw7 ck cm
         cases E with
         | false =>
          have Hr := hide (show (A.take (k + 1)).any (fun y => P.digest y == P.digest x && !(y == x)) = false by rw [unhide Hs, unhide Hany]; rfl)
          clear Hs Ha
          go_wp2_with fail
          go_quiet ((go_at_call 20; exact Calls.quiet_of (refDigest_bs y _ hyq)))
          go_wp2
          go_roundw
          case rel => exact ⟨k + 1, _, by omega, by go_num, by rw [← unhide Hw7, World.drewN_drewN], unhide Hr⟩
          case measure => simp [intOf]; omega
         | true =>
          cases N with
          | true =>
           have Hr := hide (show (A.take (k + 1)).any (fun y => P.digest y == P.digest x && !(y == x)) = false by rw [unhide Hs, unhide Hany]; rfl)
           clear Hs Ha
           go_wp2_with fail
           go_quiet ((go_at_call 20; exact Calls.quiet_of (refDigest_bs y _ hyq)))
           go_wp2
           go_roundw
           case rel => exact ⟨k + 1, _, by omega, by go_num, by rw [← unhide Hw7, World.drewN_drewN], unhide Hr⟩
           case measure => simp [intOf]; omega
          | false =>
           have Hr := hide (show clashP A x = true by rw [unhide Hw]; exact unhide Ha rfl)
           clear Hs Ha
           go_wp2_with fail
           go_quiet ((go_at_call 20; exact Calls.quiet_of (refDigest_bs y _ hyq)))
           go_wp2
           go_ret2
           exact ⟨by rw [← unhide Hw7, World.drewN_drewN]; exact hbel.trans ((below_drewN hbel2 _).mono hbel.size), .inl ⟨by rw [unhide Hb, unhide Hout, unhide Hog2, if_pos (unhide Hr)]; rfl, rfl⟩⟩
        ·obtain rfl : k = A.length := by omega
         have Hcl := hide (show clashP A x = false by have := unhide Hany; rwa [List.take_length] at this)
         have Hr := hide (show outsP A = (outG A f (P.digest x)).map ((done ++ [x]) ++ ·) by
          rw [unhide Hout, unhide Hog2, if_neg (by rw [unhide Hcl]; simp), Option.map_map]
          congr 1
          funext r
          simp)
         have ho7 := hown2.below (below_drewN (Below.refl _ _) n7)
         have hb7 := below_drewN hbel2 n7
         have cm7 : (w3.drewN n7).cell? ⟨b, o + m, none⟩ = some (.string (bs x)) := cm
         have hs7 := hb7.size
         generalize w3.drewN n7 = w7 at *
         clear Hog2 Hany Hout Hcl cm
         go_wp2_with (at_builtin; refine app_text rfl (.tmp 112) (.tmp 117) rfl wA.heap.size _ done rfl (ho7.alloc _) ⟨w7.heap.size, 0, none⟩ x rfl ?qd ?qe ?qf ?_)
         case qd => first | rfl | (rw [add_off0]; simp [strVal])
         case qe => omega
         case qf => first | omega | (simp; omega)
         intro v4 w4 ho4 g4
         have hb4 : Below wA.heap.size wA w4 := (hb7.alloc hb7.size _).grown g4 (by simp; omega) (fun k hk => (World.ownsRow.lt ho7 k hk).1)
         clear g4
         obtain ⟨a5, c5, e5, -, -, -⟩ := ho7.texts
         obtain ⟨a6, c6, e6, -, -, -⟩ := ho4.texts
         go_wp2_with fail
         go_roundw
         case rel => exact ⟨done ++ [x], P.digest x, f, ho4, hb4, rfl, unhide Hby2, by simp; omega, unhide Hr⟩
         case measure => simp only [lenV, e5, e6]; simp; omega
end Go.Proofs.YtjmacegibchplaaGreatDoor