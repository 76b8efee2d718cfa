import Derived.Test.YtjmacegibchplaaGreatDoorAlP
import Derived.Test.YtjmacegibchplaaGreatDoorKnB
import Derived.Test.YtjmacegibchplaaGreatDoorRows
import Derived.Test.YtjmacegibchplaaGreatDoorTreeD
import Derived.Test.YtjmacegibchplaaGreatDoorLnB
/-
  The statement on bytes and directories (Alone): its body.
-/
namespace Go.Proofs.YtjmacegibchplaaGreatDoor
open Go.RowKit Go.Maps Go.WideMaps
set_option linter.unusedVariables false

theorem pick_bd (c n : Int) (hn : 0 < n) : 0 ≤ pickP c n ∧ pickP c n < n := by
  unfold pickP
  exact ⟨Int.emod_nonneg _ (by omega), Int.emod_lt_of_pos _ hn⟩
theorem tdiv4_bd (r : Int) (h : -9223372036854775808 ≤ r ∧ r ≤ 9223372036854775807) : -9223372036854775808 ≤ r.tdiv 4 ∧ r.tdiv 4 ≤ 9223372036854775807 := by
  have h1 : (r.tdiv 4).natAbs = r.natAbs / 4 := Int.natAbs_tdiv r 4
  omega
theorem dec_uni (l : List UInt8) (w : World) (hl : l.length ≤ maxLen) :
    Calls Tryz.prog 25 #[.string (bs l)] w fun e w' => Below w.heap.size w w' ∧ ∃ v c, e = .returned (.tuple #[v, .int .i64 c]) ∧ ((decOk l = none ∧ c = 4 ∧ v = .slice none 0 0) ∨ ∃ items, decOk l = some items ∧ FitAll items ∧ c = 0 ∧ OwnsIt w' w.heap.size v items) := by
  refine (cellarDecode l w hl).mono ?_
  rintro e w' ⟨hb, ⟨hd, rfl⟩ | ⟨items, v, hd, hf, _, rfl, ho⟩⟩
  · exact ⟨hb, _, _, rfl, .inl ⟨hd, rfl, rfl⟩⟩
  · exact ⟨hb, _, _, rfl, .inr ⟨items, hd, hf, rfl, ho⟩⟩
theorem alone_fit (names : List (List UInt8)) (raw : List Int) (k : Nat) (hns : ∀ x ∈ names, x.length ≤ 1100000) : FitAll (aloneL names raw k) := by
  intro i hi
  have hx : (names.getD i []).length ≤ 1100000 := by
    rw [List.getD_eq_getElem?_getD]
    cases h : names[i]? with
    | none => simp
    | some x => exact hns x (List.mem_of_getElem? h)
  have e : (aloneL names raw k)[i] = aloneIt (names.getD i []) (raw.getD i 0) := by unfold aloneL; simp
  rw [e]
  unfold aloneIt Fits
  split
  · simp only [bs_size]
    refine ⟨by unfold maxLen; omega, by decide, ?_⟩
    have := List.length_take_le 30 (116 :: names.getD i [])
    unfold maxLen; omega
  · simp only [bs_size]
    exact ⟨by unfold maxLen; omega, by rw [digest_len]; decide, by decide⟩
theorem dirBytes_ok {l : List P.It} (h : dirOk l = true) : (dirBytes l).length ≤ 3000 := by
  have h1 := dir_len40 h
  have h2 := itemsBytes_len l (fun x hx => sane_of_ok x (dir_each l h x hx))
  unfold dirBytes
  simp only [List.length_cons]
  omega
set_option maxRecDepth 100000 in
set_option maxHeartbeats 4000000 in
theorem alone_law (blob : List UInt8) (names : List (List UInt8)) (raw : List Int) (an : Option Addr) (cn : Nat) (ar : Option Addr) (cr : Nat) (w : World) (hg : GlobOk w) (hbl : blob.length ≤ 1100000) (hnl : names.length ≤ 1100000) (hrl : raw.length ≤ 1100000)
    (htn : TextsAt w an names) (hir : IntsAt w ar raw) (hns : ∀ x ∈ names, x.length ≤ 1100000) (hrb : ∀ r ∈ raw, -9223372036854775808 ≤ r ∧ r ≤ 9223372036854775807) :
    Calls Tryz.prog 8 #[.string (bs blob), .slice an names.length cn, .slice ar raw.length cr] w fun e w' => e = .returned (.bool true) ∧ Below w.heap.size w w' := by
  have hN : ∃ N, N = min names.length (min raw.length 40) := ⟨_, rfl⟩
  obtain ⟨N, hN⟩ := hN
  go_enter Tryz.func8, Tryz.ntmps8
  go_wp2_with fail
  refine (awake_any w hg).mono ?_
  rintro e W1 ⟨rfl, hb1⟩
  go_wp2_with fail
  refine (dec_uni blob W1 (by unfold maxLen; omega)).mono ?_
  rintro e W2 ⟨hb2, v2, c2, rfl, hdec⟩
  have hbw2 := hb1.trans (hb2.mono hb1.size)
  have HN := hide hN
  have Hdec := hide hdec
  clear hb1 hN hdec
  go_upto_if 31 with fail
  go_cut [10, 11] (fun s10 s11 wx => Below w.heap.size w wx)
  case first =>
    rcases unhide Hdec with ⟨hd, rfl, rfl⟩ | ⟨items, hd, hf, rfl, ho⟩
    · go_wp2_with fail
      go_meet
      exact hbw2
    · have hdir := (decOk_iff _ _).1 hd
      obtain ⟨a3, c3, rfl, hli, -⟩ := ho.lies
      have hen := cellarEncode items a3 c3 W2 (by have := dir_len40 hdir.1; unfold maxLen; omega) hli hf
      have e1 : encS items = bs blob := by unfold encS; rw [if_pos hdir.1, hdir.2]; rfl
      have e2 : encE items = 0 := by unfold encE; rw [if_pos hdir.1]
      rw [e1, e2] at hen
      have hbb : ((bs blob).toList == (bs blob).toList) = true := by simp
      have Hen := hide hen
      clear hen hdir hd hf hli ho e1 e2 Hdec
      go_wp2_with fail
      refine (unhide Hen).mono ?_
      rintro e W3 ⟨rfl, hb3⟩
      have hbw3 := hbw2.trans (hb3.mono hbw2.size)
      clear Hen hb3
      go_wp2_with fail
      go_meet
      exact hbw3
  case rest =>
  have hbwc := hcut
  clear hbw2 hb2 Hdec
  go_wp2_with fail
  go_loopw [12, 13] (fun v i wr => ∃ k : Nat, k ≤ N ∧ i = .int .i64 k ∧ OwnsIt wr w.heap.size v (aloneL names raw k) ∧ Below w.heap.size w wr) (fun _ i _ => N - (intOf i).toNat)
  case atStart => exact ⟨0, by omega, rfl, World.ownsRow_nil _ _ _ _, hbwc⟩
  case round =>
    obtain ⟨k, hk, rfl, hown, hbel⟩ := hrel
    have hNn : N ≤ names.length ∧ N ≤ raw.length ∧ N ≤ 40 := by have := unhide HN; omega
    go_upto_region 11 with fail
    go_cut [57] (fun s57 wx => s57 = .bool (decide (k < N)) ∧ wr = wx)
    case first =>
      by_cases h1 : k < names.length
      · by_cases h2 : k < raw.length
        · have g1 : decide ((k : Int) < (names.length : Int)) = true := by simpa using h1
          have g2 : decide ((k : Int) < (raw.length : Int)) = true := by simpa using h2
          have g3 : decide ((k : Int) < 40) = decide (k < N) := by rw [unhide HN, decide_eq_decide]; omega
          go_wp2_with fail
          go_meet
          exact ⟨by first | rfl | exact congrArg Value.bool g3, rfl⟩
        · have g1 : decide ((k : Int) < (names.length : Int)) = true := by simpa using h1
          have g2 : decide ((k : Int) < (raw.length : Int)) = false := by simpa using h2
          have g3 : decide (k < N) = false := by rw [unhide HN, decide_eq_false_iff_not]; omega
          go_wp2_with fail
          go_meet
          exact ⟨congrArg Value.bool g3.symm, rfl⟩
      · have g1 : decide ((k : Int) < (names.length : Int)) = false := by simpa using h1
        have g3 : decide (k < N) = false := by rw [unhide HN, decide_eq_false_iff_not]; omega
        go_wp2_with fail
        go_meet
        exact ⟨congrArg Value.bool g3.symm, rfl⟩
    case rest =>
      obtain ⟨h57, hwr⟩ := hcut
      subst h57
      subst hwr
      by_cases hlt : k < N
      · rw [decide_eq_true hlt]
        obtain ⟨bn, on, rfl, hcn⟩ := textsGet (htn.below hbel (Nat.le_refl _)) (k := k) (by omega)
        obtain ⟨br, orr, rfl, hcr⟩ : ∃ b o, ar = some ⟨b, o, none⟩ ∧ wr.cell? ⟨b, o + k, none⟩ = some (.int .i64 raw[k]) := by
          rcases hir.below hbel (Nat.le_refl _) with h | ⟨b, o, e, h⟩
          · subst h; simp at hNn; omega
          · exact ⟨b, o, e, h k (by omega)⟩
        have hnm := hns _ (List.getElem_mem (show k < names.length by omega))
        have hr := hrb _ (List.getElem_mem (show k < raw.length by omega))
        have Hsu := hide (aloneL_succ names raw k)
        rw [show names.getD k [] = names[k] by rw [List.getD_eq_getElem?_getD, List.getElem?_eq_getElem (by omega)]; rfl, show raw.getD k 0 = raw[k] by rw [List.getD_eq_getElem?_getD, List.getElem?_eq_getElem (by omega)]; rfl] at Hsu
        unfold strVal at hcn
        generalize names[k] = nm at *
        generalize raw[k] = r at *
        have hp4 := pick_bd r 4 (by decide)
        have hpk := fun w' => keepPick r 4 w' hr.1 hr.2 (by decide) (by decide)
        have Hal := hide (aloneL_len names raw k)
        have q1 : (k : Int) < (names.length : Int) := by omega
        have q2 : (k : Int) < (raw.length : Int) := by omega
        have hbs := hbel.size
        have hnz := bs_size nm
        go_wp2_with fail
        go_region_held3 (fun w' => w'.cell? ⟨bn, on + k, none⟩ = some (.string (bs nm)) ∧ w'.cell? ⟨br, orr + k, none⟩ = some (.int .i64 r))
          ((first | exact ⟨by assumption, by assumption⟩ | go_keep))
          ((go_at_call 22; refine (hpk _).mono ?_; rintro e w' ⟨rfl, hw'⟩; rw [hw']; clear hw' w'))
        all_goals
          have hbn := block_lt hcn
          have hbr := block_lt hcr
          have hbkA := heap_alloc_new wr (.cells #[.string (bs nm), .int .i64 (pickP r 4), .string ⟨#[]⟩, .int .i64 0, .string ⟨#[]⟩] 47)
          have hbA : Below wr.heap.size wr (wr.alloc (.cells #[.string (bs nm), .int .i64 (pickP r 4), .string ⟨#[]⟩, .int .i64 0, .string ⟨#[]⟩] 47)) := (Below.refl _ _).alloc (Nat.le_refl _) _
          obtain ⟨WR, hWR⟩ : ∃ WR, (wr.alloc (.cells #[.string (bs nm), .int .i64 (pickP r 4), .string ⟨#[]⟩, .int .i64 0, .string ⟨#[]⟩] 47)).drew = WR := ⟨_, rfl⟩
          have hbk : WR.heap[wr.heap.size]? = some (.cells #[.string (bs nm), .int .i64 (pickP r 4), .string ⟨#[]⟩, .int .i64 0, .string ⟨#[]⟩] 47 (0, 0)) := by rw [← hWR]; exact hbkA
          have hbR : Below wr.heap.size wr WR := by rw [← hWR]; exact ⟨hbA.os, hbA.tape, hbA.output, hbA.size, hbA.block⟩
          have hzR : WR.heap.size = wr.heap.size + 1 := by rw [← hWR]; show (wr.alloc _).heap.size = _; simp
          rw [hWR]
          have hownR : OwnsIt WR w.heap.size u12 (aloneL names raw k) := ownsRow_same hown (fun g hg => hbR.block g (own_lt hown hg))
          have hbelR := hbel.trans (hbR.mono hbs)
          have hcn2 := (hbR.cell (p := ⟨bn, on + k, none⟩) hbn).trans hcn
          have hcr2 := (hbR.cell (p := ⟨br, orr + k, none⟩) hbr).trans hcr
          have c0 := cell_of_block (j := 0) hbk
          have c1 := cell_of_block (j := 1) hbk
          have c2 := cell_of_block (j := 2) hbk
          have c3 := cell_of_block (j := 3) hbk
          have c4 := cell_of_block (j := 4) hbk
          have f2 := free_block (j := 2) hbk
          have f3 := free_block (j := 3) hbk
          have f4 := free_block (j := 4) hbk
          simp only [List.getElem?_toArray, List.getElem?_cons_zero, List.getElem?_cons_succ] at c0 c1 c2 c3 c4
          have hnq : ∀ g, u12.ownBlock = some g → g ≠ wr.heap.size := fun g hg => by have := own_lt hown hg; omega
          have hzR2 : wr.heap.size < WR.heap.size := by omega
          have HzR := hide hzR
          have Hbk := hide hbk
          clear hWR hbkA hbA hcn hcr hown hbel hbk hzR
          by_cases h3 : pickP r 4 = 3
          · have Hit := hide (show aloneIt nm r = ⟨bs nm, 3, ⟨#[]⟩, 0, bs ((116 :: nm).take 30)⟩ by unfold aloneIt; rw [if_pos h3])
            have hadd : (⟨#[116]⟩ : ByteArray) ++ bs nm = bs (116 :: nm) := by apply ByteArray.ext; simp [bs, ByteArray.data_append]
            have hcut' := fun w' => keepCut (116 :: nm) 30 w' (by simp; omega) (by decide)
            rw [h3] at c1
            clear h3 hpk
            go_wp2_with fail
            refine (hcut' _).mono ?_
            rintro e w' ⟨rfl, hw'⟩
            rw [hw']
            clear hw' w' hcut' hadd
            generalize bs ((116 :: nm).take 30) = tb at *
            have hz4 : (WR.setCell ⟨wr.heap.size, 4, none⟩ (.string tb)).heap.size = WR.heap.size := by simp
            go_wp2_with (at_builtin; refine app_item rfl (.tmp 93) (.tmp 95) rfl w.heap.size _ (aloneL names raw k) rfl (World.ownsRow.alloc (OwnsIt.set hownR hnq) _) ⟨WR.heap.size, 0, none⟩ ⟨bs nm, 3, ⟨#[]⟩, 0, tb⟩ rfl ?qa ?qb ?qc ?_)
            case qa => exact fun j u hu => cell_new' _ ⟨bs nm, 3, ⟨#[]⟩, 0, tb⟩ WR.heap.size hz4 j u hu
            case qb => have := unhide Hal; omega
            case qc => simp; omega
            intro v4 w4 ho4 g4
            have hb4 : Below w.heap.size w w4 := ((hbelR.setCell (p := ⟨wr.heap.size, 4, none⟩) hbs _).alloc (by rw [hz4]; exact hbelR.size) _).grown g4 (by simp; omega) (fun q hq => (World.ownsRow.lt hownR q hq).1)
            clear g4
            go_wp2_with fail
            go_roundw
            case rel => exact ⟨k + 1, by omega, by go_num, by rw [unhide Hsu, unhide Hit]; exact ho4, hb4⟩
            case measure => simp [intOf]; omega
          · have Hit := hide (show aloneIt nm r = ⟨bs nm, pickP r 4, bs (P.digest nm), pickP (r.tdiv 4) 2001, ⟨#[]⟩⟩ by unfold aloneIt; rw [if_neg h3])
            have b3 : (pickP r 4 == 3) = false := by simpa using h3
            have hdg := cDigest nm WR (by unfold maxLen; omega)
            have hpk2 := fun w' => keepPick (r.tdiv 4) 2001 w' (tdiv4_bd r hr).1 (tdiv4_bd r hr).2 (by decide) (by decide)
            clear h3 hpk
            generalize pickP r 4 = kd at *
            generalize bs (P.digest nm) = dg at *
            go_wp2_with fail
            refine hdg.mono ?_
            rintro e W5 ⟨rfl, hb5⟩
            have hbk5 := (hb5.block wr.heap.size hzR2).trans (unhide Hbk)
            have hown5 : OwnsIt W5 w.heap.size u12 (aloneL names raw k) := ownsRow_same hownR (fun g hg => hb5.block g (own_lt hownR hg))
            have hbel5 := hbelR.trans (hb5.mono hbelR.size)
            have hcr5 := (hb5.cell (p := ⟨br, orr + k, none⟩) (by show br < WR.heap.size; omega)).trans hcr2
            have c0 := cell_of_block (j := 0) hbk5
            have c1 := cell_of_block (j := 1) hbk5
            have c2 := cell_of_block (j := 2) hbk5
            have c3 := cell_of_block (j := 3) hbk5
            have c4 := cell_of_block (j := 4) hbk5
            have f2 := free_block (j := 2) hbk5
            have f3 := free_block (j := 3) hbk5
            simp only [List.getElem?_toArray, List.getElem?_cons_zero, List.getElem?_cons_succ] at c0 c1 c2 c3 c4
            have hz5 := hb5.size
            have hne5 : br ≠ wr.heap.size := by omega
            clear hdg hb5 hbk5 hownR hbelR hcr2 hcn2 Hbk
            generalize pickP (r.tdiv 4) 2001 = sz at *
            have hz6 : ((W5.setCell ⟨wr.heap.size, 2, none⟩ (.string dg)).setCell ⟨wr.heap.size, 3, none⟩ (.int .i64 sz)).heap.size = W5.heap.size := by simp
            go_wp2_with (first | (go_at_call 22; refine (hpk2 _).mono ?_; rintro e w' ⟨rfl, hw'⟩; rw [hw']; clear hw' w') | (at_builtin; refine app_item rfl (.tmp 93) (.tmp 95) rfl w.heap.size _ (aloneL names raw k) rfl (World.ownsRow.alloc (OwnsIt.set (OwnsIt.set hown5 hnq) hnq) _) ⟨W5.heap.size, 0, none⟩ ⟨bs nm, kd, dg, sz, ⟨#[]⟩⟩ rfl ?qa ?qb ?qc ?_))
            case qa => exact fun j u hu => cell_new' _ ⟨bs nm, kd, dg, sz, ⟨#[]⟩⟩ W5.heap.size hz6 j u hu
            case qb => have := unhide Hal; omega
            case qc => simp; omega
            intro v4 w4 ho4 g4
            have hb4 : Below w.heap.size w w4 := (((hbel5.setCell (p := ⟨wr.heap.size, 2, none⟩) hbs _).setCell (p := ⟨wr.heap.size, 3, none⟩) hbs _).alloc (by rw [hz6]; exact hbel5.size) _).grown g4 (by simp; omega) (fun q hq => (World.ownsRow.lt hown5 q hq).1)
            clear g4
            go_wp2_with fail
            go_roundw
            case rel => exact ⟨k + 1, by omega, by go_num, by rw [unhide Hsu, unhide Hit]; exact ho4, hb4⟩
            case measure => simp [intOf]; omega
      · rw [decide_eq_false hlt]
        obtain rfl : k = N := by omega
        obtain ⟨ad, cd, rfl, hld, -⟩ := hown.lies
        have hlen := aloneL_len names raw k
        have hen := cellarEncode (aloneL names raw k) ad cd wr (by rw [hlen]; unfold maxLen; omega) hld (alone_fit names raw k hns)
        rw [hlen] at hen ⊢
        have Hen := hide hen
        clear hen
        go_wp2_with fail
        refine (unhide Hen).mono ?_
        rintro e W3 ⟨rfl, hb3⟩
        have hbw3 := hbel.trans (hb3.mono hbel.size)
        have hld3 := hld.below hb3 (Nat.le_refl _)
        clear Hen
        cases hok : dirOk (aloneL names raw k) with
        | false =>
          have e1 : encS (aloneL names raw k) = ⟨#[]⟩ := by unfold encS; rw [if_neg (by rw [hok]; simp)]
          have e2 : encE (aloneL names raw k) = 4 := by unfold encE; rw [if_neg (by rw [hok]; simp)]
          rw [e1, e2]
          go_wp2_with fail
          go_ret
          exact ⟨rfl, hbw3⟩
        | true =>
          have e1 : encS (aloneL names raw k) = bs (dirBytes (aloneL names raw k)) := by unfold encS; rw [if_pos hok]; rfl
          have e2 : encE (aloneL names raw k) = 0 := by unfold encE; rw [if_pos hok]
          rw [e1, e2]
          have hd1 : decOk (dirBytes (aloneL names raw k)) = some (aloneL names raw k) := (decOk_iff _ _).2 ⟨hok, rfl⟩
          have hd2 := more_none (aloneL names raw k) hok 120
          have hdl := dirBytes_ok hok
          have hadd : bs (dirBytes (aloneL names raw k)) ++ (⟨#[120]⟩ : ByteArray) = bs (dirBytes (aloneL names raw k) ++ [120]) := by apply ByteArray.ext; simp [bs, ByteArray.data_append]
          have Hd := hide (And.intro hd1 (And.intro hd2 (And.intro hld3 hlen)))
          clear e1 e2 hd1 hd2 hld3 hlen hld hown
          have hdz := bs_size (dirBytes (aloneL names raw k))
          generalize dirBytes (aloneL names raw k) = DB at *
          go_wp2_with fail
          refine (cellarDecode DB W3 (by unfold maxLen; omega)).mono ?_
          rintro e W4 ⟨hb4, ⟨hd, -⟩ | ⟨items, v4, hd, -, -, rfl, ho4⟩⟩
          · rw [(unhide Hd).1] at hd; simp at hd
          · rw [(unhide Hd).1] at hd
            obtain rfl := Option.some.inj hd
            obtain ⟨hd1, hd2, hld3, hlen⟩ := unhide Hd
            obtain ⟨a4, c4, rfl, hl4, -⟩ := ho4.lies
            rw [hlen]
            have hbw4 := hbw3.trans (hb4.mono hbw3.size)
            have hld4 := hld3.below hb4 (Nat.le_refl _)
            have HH := hide (And.intro hd2 hlen)
            clear hd hd1 hd2 hld3 hlen ho4 Hd
            go_wp2_with fail
            refine (cellarDecode (DB ++ [120]) W4 (by simp; unfold maxLen; omega)).mono ?_
            rintro e W5 ⟨hb5, ⟨-, rfl⟩ | ⟨items, v5, hd, -⟩⟩
            · have hbw5 := hbw4.trans (hb5.mono hbw4.size)
              have hld5 := hld4.below hb5 (Nat.le_refl _)
              have hl5 := hl4.below hb5 (Nat.le_refl _)
              have hlen := (unhide HH).2
              have Hlen := hide hlen
              have bkk : ((k : Int) != (k : Int)) = false := by simp
              clear hld4 hl4 hb5 hb4 hlen HH
              go_wp2_with fail
              go_loopw [21] (fun i wx => ∃ j : Nat, j ≤ k ∧ i = .int .i64 j ∧ ∃ n, wx = W5.drewN n) (fun i _ => k - (intOf i).toNat)
              case atStart => exact ⟨0, by omega, rfl, 0, rfl⟩
              case round =>
                obtain ⟨j, hj, rfl, n, hwx⟩ := hrel
                subst hwx
                by_cases hlt2 : j < k
                · have hjl : j < (aloneL names raw k).length := by rw [unhide Hlen]; exact hlt2
                  obtain ⟨b1, o1, rfl, i1⟩ : ∃ b o, a4 = some ⟨b, o, none⟩ ∧ ItemsAt W5 b o (aloneL names raw k) := by
                    rcases hl5 with h | h
                    · rw [h] at hjl; simp at hjl
                    · exact h
                  obtain ⟨b2, o2, rfl, i2⟩ : ∃ b o, ad = some ⟨b, o, none⟩ ∧ ItemsAt W5 b o (aloneL names raw k) := by
                    rcases hld5 with h | h
                    · rw [h] at hjl; simp at hjl
                    · exact h
                  obtain ⟨p0, p1, p2, p3, p4⟩ := i1 j hjl
                  obtain ⟨q0, q1, q2, q3, q4⟩ := i2 j hjl
                  generalize (aloneL names raw k)[j] = x at *
                  obtain ⟨xn, xk, xd, xs, xt⟩ := x
                  simp only at p0 p1 p2 p3 p4 q0 q1 q2 q3 q4
                  have hlt' : (j : Int) < (k : Int) := by omega
                  have heq : ∀ w, (Op.equalIn 10000 47 (.agg #[.string xn, .int .i64 xk, .string xd, .int .i64 xs, .string xt]) (.agg #[.string xn, .int .i64 xk, .string xd, .int .i64 xs, .string xt])).run Tryz.prog w = .ok true w := fun w => by
                    rw [eq_item]; simp
                  clear i1 i2
                  go_wp2_with fail
                  go_quiet (fail)
                  go_wp2_with fail
                  go_roundw
                  case rel => exact ⟨j + 1, by omega, by go_num, _, rfl⟩
                  case measure => simp [intOf]; omega
                · obtain rfl : j = k := by omega
                  go_wp2_with fail
                  go_ret
                  exact ⟨rfl, below_drewN hbw5 _⟩
            · rw [(unhide HH).1] at hd; simp at hd
end Go.Proofs.YtjmacegibchplaaGreatDoor

/-
  A list of entries that comes in and is of bounded bulk: its paths and data are.
-/
namespace Go.Proofs.YtjmacegibchplaaGreatDoor
open Go.RowKit
set_option linter.unusedVariables false

theorem bulk_pos {H : Type} (d : DataW H) : 0 < Rows.uptoBulk d := by
  unfold Rows.uptoBulk
  split <;> omega
theorem bulk_len {H : Type} : ∀ l : List (DataW H), l.length ≤ Rows.uptoBulkAll l
  | [] => Nat.zero_le _
  | d :: l => by
    have h1 := bulk_pos d
    have h2 := bulk_len l
    rw [Rows.uptoBulkAll, List.length_cons]
    omega
theorem bulk_part {H : Type} {d : DataW H} {l : List (DataW H)} (h : d ∈ l) : Rows.uptoBulk d ≤ Rows.uptoBulkAll l := by
  obtain ⟨r, t, rfl⟩ := List.append_of_mem h
  clear h
  induction r with
  | nil => rw [List.nil_append, Rows.uptoBulkAll]; omega
  | cons e r ih => rw [List.cons_append, Rows.uptoBulkAll]; omega
set_option maxRecDepth 100000 in
theorem open_entryB {H : Type} {enc : TypeId × Value → H} {W : World} {base : Nat} {sp : Nat → Bool} {held : Bool} {fuel : Nat} {cs : List Value} {x : DataW H × List MemPlace}
    (h : DataW.trod enc Tryz.prog W base sp held fuel 32 cs = some x) : ∃ y : En, cs = enCells y ∧ EFits y ∧ y.path.size + y.data.size ≤ Rows.uptoBulk x.1 := by
  obtain ⟨xs, n, _, rfl, hl, hlen, hf⟩ := DataW.trod_struct Tryz.underlying32 h
  rw [cells_ent] at hl
  match cs, hl with
  | [v0, v1, v2], _ =>
    have h0 : DataW.trod enc Tryz.prog W base sp held n 9 (([v0, v1, v2].drop 0).take (Tryz.prog.cellsOf 9)) = xs[0]? := hf 0 _ rfl
    have h1 : DataW.trod enc Tryz.prog W base sp held n 3 (([v0, v1, v2].drop 1).take (Tryz.prog.cellsOf 3)) = xs[1]? := hf 1 _ rfl
    have h2 : DataW.trod enc Tryz.prog W base sp held n 9 (([v0, v1, v2].drop 2).take (Tryz.prog.cellsOf 9)) = xs[2]? := hf 2 _ rfl
    rw [cells_str] at h0 h2
    rw [cells_int] at h1
    match xs, hlen with
    | [y0, y1, y2], _ =>
      obtain ⟨s0, e0, r0, z0⟩ := DataW.trod_string Tryz.underlying9 h0
      obtain ⟨s1, e1, r1, z1⟩ := DataW.trod_int Tryz.underlying3 h1
      obtain ⟨s2, e2, r2, z2⟩ := DataW.trod_string Tryz.underlying9 h2
      simp at e0 e1 e2
      subst e0 e1 e2
      subst r0 r2
      refine ⟨⟨s0, s1, s2⟩, rfl, ⟨z0, z2⟩, ?_⟩
      simp only [List.map_cons, List.map_nil, Rows.uptoBulk, Rows.uptoBulkAll, Array.length_toList]
      show s0.data.size + s2.data.size ≤ _
      omega
set_option maxRecDepth 100000 in
theorem open_entriesB {H : Type} {enc : TypeId × Value → H} {W : World} {base : Nat} {sp : Nat → Bool} {held : Bool} {fuel : Nat} {a : Option Addr} {len cap : Nat} {x : DataW H × List MemPlace}
    (h : DataW.trod enc Tryz.prog W base sp held fuel 22 [.slice a len cap] = some x) (hk : Rows.uptoBulk x.1 ≤ 1048576) :
    ∃ l : List En, l.length = len ∧ LiesE W a l ∧ TFit l ∧ len ≤ 1048576 ∧ (a = none → l = [] ∧ cap = 0) := by
  rcases Deep.open_slice Tryz.underlying22 h with ⟨hcs, rfl⟩ | ⟨ad, len', cap', m, n, D, Pl, hcs, _, hl, hm, hmm, rfl, hel⟩
  · simp at hcs
    obtain ⟨rfl, rfl, rfl⟩ := hcs
    exact ⟨[], rfl, .inl rfl, fun i hi => absurd hi (by simp), by decide, fun _ => ⟨rfl, rfl⟩⟩
  · simp at hcs
    obtain ⟨rfl, rfl, rfl⟩ := hcs
    have hlm : len ≤ m := by rw [hmm]; split <;> omega
    simp only [Rows.uptoBulk] at hk
    have hln := bulk_len ((List.range len).map D)
    rw [List.length_map, List.length_range] at hln
    have hex : ∀ i, i < len → ∃ y : En, (EFits y ∧ y.path.size + y.data.size ≤ 1048576) ∧ ∀ j v, (enCells y)[j]? = some v → W.cell? ((ad.add (i * 3)).add j) = some v := by
      intro i hi
      obtain ⟨cs', hc, ht⟩ := hel i (by omega)
      obtain ⟨y, rfl, hy, hb⟩ := open_entryB ht
      rw [cells_ent] at hc
      obtain ⟨_, hlen, hcc⟩ := World.cells?_some hc
      have hp := bulk_part (d := D i) (l := (List.range len).map D) (List.mem_map.2 ⟨i, by simpa using hi, rfl⟩)
      simp only at hb
      refine ⟨y, ⟨hy, by omega⟩, fun j v hv => ?_⟩
      have hj : j < 3 := (List.getElem?_eq_some_iff.1 hv).1
      rw [← hv]
      exact hcc j hj
    obtain ⟨l, hll, hp⟩ := list_choose hex
    refine ⟨l, hll, ?_, fun i hi => ⟨by have := (hp i hi).1.2; omega, (hp i hi).1.1.data⟩, by omega, fun h => by simp at h⟩
    rcases Nat.eq_zero_or_pos len with h0 | hpos
    · left; exact List.eq_nil_of_length_eq_zero (by omega)
    · right
      obtain ⟨b, o, spot⟩ := ad
      have hc := (hp 0 (by omega)).2 0 _ rfl
      have hspot : spot = none := by simpa [Addr.add] using World.cell?_spot hc
      subst hspot
      refine ⟨b, o, rfl, EntsAt.of_row ?_⟩
      intro i hi j v hv
      have := (hp i hi).2 j v hv
      rw [add_off, add_off] at this
      exact this
end Go.Proofs.YtjmacegibchplaaGreatDoor

/-
  Lists of texts and of numbers that come in and are of bounded bulk, opened.
-/
namespace Go.Proofs.YtjmacegibchplaaGreatDoor
open Go.RowKit
set_option linter.unusedVariables false

set_option maxRecDepth 100000 in
theorem open_textsB {H : Type} {enc : TypeId × Value → H} {W : World} {base : Nat} {sp : Nat → Bool} {held : Bool} {fuel : Nat} {a : Option Addr} {len cap : Nat} {x : DataW H × List MemPlace}
    (h : DataW.trod enc Tryz.prog W base sp held fuel 23 [.slice a len cap] = some x) (hk : Rows.uptoBulk x.1 ≤ 1048576) :
    ∃ l : List (List UInt8), l.length = len ∧ TextsAt W a l ∧ (∀ y ∈ l, y.length ≤ 1048576) ∧ len ≤ 1048576 ∧ (a = none → l = [] ∧ cap = 0) := by
  rcases Deep.open_slice Tryz.underlying23 h with ⟨hcs, rfl⟩ | ⟨ad, len', cap', m, n, D, Pl, hcs, _, hl, hm, hmm, rfl, hel⟩
  · simp at hcs
    obtain ⟨rfl, rfl, rfl⟩ := hcs
    exact ⟨[], rfl, .inl rfl, by simp, by decide, fun _ => ⟨rfl, rfl⟩⟩
  · simp at hcs
    obtain ⟨rfl, rfl, rfl⟩ := hcs
    have hlm : len ≤ m := by rw [hmm]; split <;> omega
    simp only [Rows.uptoBulk] at hk
    have hln := bulk_len ((List.range len).map D)
    rw [List.length_map, List.length_range] at hln
    have hex : ∀ i, i < len → ∃ y : List UInt8, y.length ≤ 1048576 ∧ W.cell? (ad.add i) = some (strVal y) := by
      intro i hi
      obtain ⟨cs', hc, ht⟩ := hel i (by omega)
      obtain ⟨s0, e0, r0, z0⟩ := DataW.trod_string Tryz.underlying9 ht
      rw [cells_str] at hc
      obtain ⟨_, hlen, hcc⟩ := World.cells?_some hc
      have hp := bulk_part (d := D i) (l := (List.range len).map D) (List.mem_map.2 ⟨i, by simpa using hi, rfl⟩)
      have hcs : cs' = [.string s0] := e0
      have hD : D i = .lit (.string s0.data.toList) := by simpa using congrArg Prod.fst r0
      rw [hD] at hp
      refine ⟨s0.data.toList, ?_, ?_⟩
      · simp only [Rows.uptoBulk] at hp
        omega
      · have := hcc 0 (by omega)
        rw [hcs] at this
        rw [show strVal s0.data.toList = .string s0 by unfold strVal; rw [bs_of]]
        have h2 : ((ad.add i).add 0) = ad.add i := by unfold Addr.add; split <;> simp_all
        simp only [Nat.mul_one] at this
        rw [h2] at this
        simpa using this
    obtain ⟨l, hll, hp⟩ := list_choose hex
    refine ⟨l, hll, ?_, fun y hy => ?_, by omega, fun h => by simp at h⟩
    · rcases Nat.eq_zero_or_pos len with h0 | hpos
      · left; exact List.eq_nil_of_length_eq_zero (by omega)
      · right
        obtain ⟨b, o, spot⟩ := ad
        have hc := (hp 0 (by omega)).2
        have hspot : spot = none := by simpa [Addr.add] using World.cell?_spot hc
        subst hspot
        refine ⟨b, o, rfl, fun i hi => ?_⟩
        have := (hp i hi).2
        rw [add_off] at this
        exact this
    · obtain ⟨i, hi, rfl⟩ := List.getElem_of_mem hy
      exact (hp i hi).1
set_option maxRecDepth 100000 in
theorem open_intsB {H : Type} {enc : TypeId × Value → H} {W : World} {base : Nat} {sp : Nat → Bool} {held : Bool} {fuel : Nat} {a : Option Addr} {len cap : Nat} {x : DataW H × List MemPlace}
    (h : DataW.trod enc Tryz.prog W base sp held fuel 55 [.slice a len cap] = some x) (hk : Rows.uptoBulk x.1 ≤ 1048576) :
    ∃ l : List Int, l.length = len ∧ IntsAt W a l ∧ (∀ r ∈ l, -9223372036854775808 ≤ r ∧ r ≤ 9223372036854775807) ∧ len ≤ 1048576 ∧ (a = none → l = [] ∧ cap = 0) := by
  rcases Deep.open_slice Tryz.underlying55 h with ⟨hcs, rfl⟩ | ⟨ad, len', cap', m, n, D, Pl, hcs, _, hl, hm, hmm, rfl, hel⟩
  · simp at hcs
    obtain ⟨rfl, rfl, rfl⟩ := hcs
    exact ⟨[], rfl, .inl rfl, by simp, by decide, fun _ => ⟨rfl, rfl⟩⟩
  · simp at hcs
    obtain ⟨rfl, rfl, rfl⟩ := hcs
    have hlm : len ≤ m := by rw [hmm]; split <;> omega
    simp only [Rows.uptoBulk] at hk
    have hln := bulk_len ((List.range len).map D)
    rw [List.length_map, List.length_range] at hln
    have hmin : IntKind.i64.min = -9223372036854775808 := by decide
    have hmax : IntKind.i64.max = 9223372036854775807 := by decide
    have hex : ∀ i, i < len → ∃ y : Int, (-9223372036854775808 ≤ y ∧ y ≤ 9223372036854775807) ∧ W.cell? (ad.add i) = some (.int .i64 y) := by
      intro i hi
      obtain ⟨cs', hc, ht⟩ := hel i (by omega)
      obtain ⟨s0, e0, r0, z0⟩ := DataW.trod_int Tryz.underlying3 ht
      rw [cells_int] at hc
      obtain ⟨_, hlen, hcc⟩ := World.cells?_some hc
      have hcs : cs' = [.int .i64 s0] := e0
      refine ⟨s0, ?_, ?_⟩
      · have h1 := z0
        simp [Lit.wf] at h1
        omega
      · have := hcc 0 (by omega)
        rw [hcs] at this
        have h2 : ((ad.add i).add 0) = ad.add i := by unfold Addr.add; split <;> simp_all
        simp only [Nat.mul_one] at this
        rw [h2] at this
        simpa using this
    obtain ⟨l, hll, hp⟩ := list_choose hex
    refine ⟨l, hll, ?_, fun y hy => ?_, by omega, fun h => by simp at h⟩
    · rcases Nat.eq_zero_or_pos len with h0 | hpos
      · left; exact List.eq_nil_of_length_eq_zero (by omega)
      · right
        obtain ⟨b, o, spot⟩ := ad
        have hc := (hp 0 (by omega)).2
        have hspot : spot = none := by simpa [Addr.add] using World.cell?_spot hc
        subst hspot
        refine ⟨b, o, rfl, fun i hi => ?_⟩
        have := (hp i hi).2
        rw [add_off] at this
        exact this
    · obtain ⟨i, hi, rfl⟩ := List.getElem_of_mem hy
      exact (hp i hi).1
end Go.Proofs.YtjmacegibchplaaGreatDoor
