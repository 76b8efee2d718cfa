import Derived.Test.YtjmacegibchplaaGreatDoorRtA
import Derived.Test.YtjmacegibchplaaGreatDoorKeepD
import Derived.Test.YtjmacegibchplaaGreatDoorUpA
import Derived.Test.YtjmacegibchplaaGreatDoorLnB
import Derived.Test.YtjmacegibchplaaGreatDoorTreeD
/-
  The statement on fetched trees (Rooted): its body, walked.
-/
namespace Go.Proofs.YtjmacegibchplaaGreatDoor
open Go.RowKit Go.Maps Go.WideMaps
set_option linter.unusedVariables false

set_option maxRecDepth 100000 in
set_option maxHeartbeats 8000000 in
theorem rooted_law (hT : KeepTree) (blobs digests : List (List UInt8)) (raw : List Int) (texts : List (List UInt8)) (ents dp : Int) (ab : Option Addr) (cb : Nat) (ad : Option Addr) (cd : Nat) (ar : Option Addr) (cr : Nat) (at' : Option Addr) (ct : Nat) (w : World) (hg : GlobOk w)
    (hbl : blobs.length ≤ 1100000) (hby : bytesP blobs ≤ 1100000) (hdl : digests.length ≤ 1100000) (hds : ∀ x ∈ digests, x.length ≤ 1100000) (hrl : raw.length ≤ 1100000) (htl : texts.length ≤ 1100000)
    (htb : TextsAt w ab blobs) (htd : TextsAt w ad digests) (hdn : ad = none → digests = [] ∧ cd = 0) (hir : IntsAt w ar raw) (hrb : ∀ r ∈ raw, -9223372036854775808 ≤ r ∧ r ≤ 9223372036854775807) (htx : TextsAt w at' texts) (hts : ∀ x ∈ texts, x.length ≤ 1100000) :
    Calls Tryz.prog 10 #[.slice ab blobs.length cb, .slice ad digests.length cd, .slice ar raw.length cr, .slice at' texts.length ct, .int .i64 ents, .int .i64 dp] w fun e w' => e = .returned (.bool true) ∧ Below w.heap.size w w' := by
  have Hir := hide (And.intro hir hrb)
  have Htx := hide (And.intro htx hts)
  have Htd := hide (And.intro htd (And.intro hds hdn))
  have Htb := hide htb
  have Hby := hide hby
  have HT := hide hT
  clear hT hir hrb htx hts htd hds hdn htb hby
  go_enter Tryz.func10, Tryz.ntmps10
  go_wp2_with fail
  refine (awake_any w hg).mono ?_
  rintro e W1 ⟨rfl, hb1⟩
  go_wp2_with fail
  refine (cNew_ok 100000 W1 (by decide) (by decide)).mono ?_
  rintro e W2 ⟨sb, pb, um, rfl, hc2, hge, hb2⟩
  have hbw2 := hb1.trans (hb2.mono hb1.size)
  have hs1 := hb1.size
  have hge2 : w.heap.size ≤ sb ∧ w.heap.size ≤ pb ∧ w.heap.size ≤ um := by omega
  have Hc2 := hide hc2
  clear hb1 hb2 hge hc2 hs1
  go_wp2_with fail
  refine (unhide HT raw texts ar cr at' ct W2 hrl htl ((unhide Hir).1.below hbw2 (Nat.le_refl _)) (unhide Hir).2 ((unhide Htx).1.below hbw2 (Nat.le_refl _)) (unhide Htx).2).mono ?_
  rintro e W3 ⟨v3, rfl, ho3, hb3⟩
  obtain ⟨a3, c3, rfl, hl3, hge3⟩ := OwnsE.lies ho3
  have htk := treeP_ok raw texts
  generalize treeP raw texts = t at *
  obtain ⟨htt, htw, ht30⟩ := htk
  have hbw3 := hbw2.trans (hb3.mono hbw2.size)
  have hc3 := (unhide Hc2).below hb3 (Nat.le_refl _)
  have hup := cUpload_any t a3 c3 1 5000 [] none 0 [] sb pb um 0 100000 W3 (hg.below hbw3 (Nat.le_refl _)) (by unfold maxLen; omega) hl3 (tree_fit t htt) hc3 (.inl rfl) (fun b o e => by simp at e) (by decide) (by decide) (by decide) (by decide) (by decide)
  unfold UpEnd planV at hup
  have hroom := up_room 100000 t 1 5000 [] [] (by decide)
  have hrlen := up_root_len 100000 t 1 5000 [] []
  generalize upP 100000 t 1 5000 [] [] = U at *
  obtain ⟨rt, sn, er, st0⟩ := U
  simp only at hup hroom hrlen
  unfold sentV at hup
  have Hup := hide hup
  have Hc3 := hide hc3
  clear hup hc3 Hc2 hl3 hge3 ho3 hbw2 hb3 htw htt
  go_wp2_with fail
  refine (unhide Hup).mono ?_
  rintro e W5 ⟨rfl, ⟨n5, hn5, hp5⟩, hs5, hf5⟩
  have hc5 := (unhide Hc3).next hf5 hp5
  have hbw5 := hbw3.trans (hf5.toBelow hbw3.size (fun x h => by omega))
  have hbC : ∀ X, Below W5.heap.size W5 (W5.alloc X) := fun X => (Below.refl _ _).alloc (Nat.le_refl _) _
  have Hc6 := hide (fun X => hc5.below (hbC X) (Nat.le_refl _))
  have hbw6 : ∀ X, Below w.heap.size w (W5.alloc X) := fun X => hbw5.trans ((hbC X).mono hbw5.size)
  have Hbw6 := hide hbw6
  clear Hup Hc3 hc5 hp5 hf5 hs5 hbw5 hbw3 hbC hbw6
  go_wp2_with fail
  go_loopw [20] (fun i wr => ∃ (k n : Nat) (st : List (List UInt8 × List UInt8)), k ≤ blobs.length ∧ i = .int .i64 k ∧ CS wr sb pb um n 100000 st ∧ n ≤ 200000 + k ∧ sumP st ≤ 100000 + bytesP (blobs.take k) ∧ Below w.heap.size w wr) (fun i _ => blobs.length - (intOf i).toNat)
  case atStart => exact ⟨0, n5, st0, by omega, rfl, unhide Hc6 _, by omega, by simp [bytesP]; omega, unhide Hbw6 _⟩
  case round =>
    obtain ⟨k, n, st, hk, rfl, hcs, hn, hsum, hbel⟩ := hrel
    clear Hc6 Hbw6
    have hbt := bytes_take_le blobs k
    have hby := unhide Hby
    have hsum2 : sumP st ≤ 1200000 := by omega
    by_cases hlt : k < blobs.length
    · have g1 : decide ((k : Int) < (blobs.length : Int)) = true := by simpa using hlt
      have q1 : (k : Int) < (blobs.length : Int) := by omega
      obtain ⟨bb, ob, rfl, hcb⟩ := textsGet ((unhide Htb).below hbel (Nat.le_refl _)) (k := k) hlt
      have hbk := bytes_take1 blobs k hlt
      have hbm := bytes_mem blobs _ (List.getElem_mem hlt)
      unfold strVal at hcb
      have Hxs := hide (And.intro hbk hbm)
      generalize blobs[k] = x at *
      have hxl := (unhide Hxs).2
      clear hbk hbm
      by_cases hlt2 : k < digests.length
      · have g2 : decide ((k : Int) < (digests.length : Int)) = true := by simpa using hlt2
        have q2 : (k : Int) < (digests.length : Int) := by omega
        obtain ⟨bd, od, rfl, hcd⟩ := textsGet ((unhide Htd).1.below hbel (Nat.le_refl _)) (k := k) hlt2
        have hdm := (unhide Htd).2.1 _ (List.getElem_mem hlt2)
        unfold strVal at hcd
        generalize digests[k] = d at *
        have hpl : ∀ W, CS W sb pb um n 100000 st → _ := fun W hW => cPlant_any st sb pb um n 100000 d x W hW (by omega) (by omega) (by unfold maxLen; omega) (by omega)
        have hle := sum_plant_le st d x
        generalize plantP st d x = st2 at *
        have Hpl := hide hpl
        have Hn := hide (And.intro hcs (And.intro hn (And.intro hle (And.intro hsum hbel))))
        clear hpl hcs hle hsum hbel hn hbt hby hsum2 hxl hdm
        go_wp2_with fail
        go_region_with ((go_at_call 36; refine (unhide Hpl _ ((unhide Hn).1.below (Below.refl _ _).drew (Nat.le_refl _))).mono ?_; rintro e W6 ⟨rfl, hc6, hf6⟩))
        all_goals
          have hb6 := (unhide Hn).2.2.2.2.drew.trans (hf6.toBelow (unhide Hn).2.2.2.2.size (fun x h => by omega))
          have Hend := hide (And.intro hc6 hb6)
          clear hc6 hb6 hf6
          go_wp2_with fail
          refine ⟨⟨k + 1, n + 1, st2, by omega, by go_num, (unhide Hend).1, by have := (unhide Hn).2.1; omega, by have := (unhide Hn).2.2.1; have := (unhide Hn).2.2.2.1; have := (unhide Hxs).1; omega, (unhide Hend).2⟩, ?_⟩
          simp [intOf]; omega
      · have g2 : decide ((k : Int) < (digests.length : Int)) = false := by simpa using hlt2
        have hpl := cPut_any st sb pb um n 100000 x wr hcs (by omega) (by unfold maxLen; omega) (by omega) (by decide) (by decide)
        have hle := sum_put_le 100000 st x
        generalize putP 100000 st x = q at *
        obtain ⟨qe, st2⟩ := q
        simp only at hpl hle
        have Hpl := hide hpl
        have Hn := hide (And.intro hcs (And.intro hn (And.intro hle (And.intro hsum hbel))))
        clear hpl hcs hle hsum hbel hn hbt hby hsum2 hxl
        go_wp2_with (go_at_call 37; refine (unhide Hpl).mono ?_; rintro e W6 ⟨rfl, hc6, hf6⟩)
        have hb6 := (unhide Hn).2.2.2.2.trans (hf6.toBelow (unhide Hn).2.2.2.2.size (fun x h => by omega))
        have Hend := hide (And.intro hc6 hb6)
        clear hc6 hb6 hf6
        go_wp2_with fail
        refine ⟨⟨k + 1, n + 1, st2, by omega, by go_num, (unhide Hend).1, by have := (unhide Hn).2.1; omega, by have := (unhide Hn).2.2.1; have := (unhide Hn).2.2.2.1; have := (unhide Hxs).1; omega, (unhide Hend).2⟩, ?_⟩
        simp [intOf]; omega
    · have g1 : decide ((k : Int) < (blobs.length : Int)) = false := by simpa using hlt
      obtain rfl : k = blobs.length := by omega
      clear hsum hbt
      go_upto_if 86 with fail
      go_cut [21] (fun v wx => ∃ R : List (List UInt8), OwnsS wx w.heap.size v R ∧ R.length ≤ 1 ∧ (∀ x ∈ R, x.length ≤ 3) ∧ CS wx sb pb um n 100000 st ∧ Below w.heap.size w wx)
      case first =>
        have hb7 : Below w.heap.size w (wr.alloc (.cells #[.string (bs rt)] 9)) := hbel.alloc hbel.size _
        have hc7 := hcs.below (show Below wr.heap.size wr (wr.alloc (.cells #[.string (bs rt)] 9)) from (Below.refl _ _).alloc (Nat.le_refl _) _) (Nat.le_refl _)
        have ho7 : OwnsS (wr.alloc (.cells #[.string (bs rt)] 9)) w.heap.size (.slice (some ⟨wr.heap.size, 0, none⟩) 1 1) [rt] := ⟨rfl, .inr ⟨wr.heap.size, 1, #[.string (bs rt)], rfl, hbel.size, heap_alloc_new wr _, Nat.le_refl _, by decide, rfl, rfl⟩⟩
        have Hx := hide (And.intro hb7 (And.intro hc7 ho7))
        clear hb7 hc7 ho7 hcs hbel
        by_cases he : er = 0
        · subst he
          go_wp2_with fail
          go_meet
          exact ⟨[rt], (unhide Hx).2.2, by simp, by simpa using hrlen, (unhide Hx).2.1, (unhide Hx).1⟩
        · have g3 : (er == 0) = false := by simpa using he
          have g4 : decide (er = 0) = false := by simpa using he
          go_wp2_with fail
          go_meet
          exact ⟨[], World.ownsRow_nil _ _ _ _, by simp, by simp, (unhide Hx).2.1, (unhide Hx).1⟩
      case rest =>
        obtain ⟨R, hoR, hRl, hRx, hcs2, hbel2⟩ := hcut
        clear hcs hbel
        obtain ⟨N, hN⟩ : ∃ N, N = min blobs.length 8 := ⟨_, rfl⟩
        have HN := hide hN
        have Hs := hide (And.intro hoR (And.intro hRl (And.intro hRx (And.intro hcs2 hbel2))))
        clear hN hoR hRl hRx hcs2 hbel2 g1
        go_wp2_with fail
        go_loopw [21, 22] (fun v i wr => ∃ (k : Nat) (R : List (List UInt8)), k ≤ N ∧ i = .int .i64 k ∧ OwnsS wr w.heap.size v R ∧ R.length ≤ 1 + k ∧ (∀ x ∈ R, x.length ≤ 3) ∧ CS wr sb pb um n 100000 st ∧ Below w.heap.size w wr) (fun _ i _ => N - (intOf i).toNat)
        case atStart => exact ⟨0, R, by omega, rfl, (unhide Hs).1, by have := (unhide Hs).2.1; omega, (unhide Hs).2.2.1, (unhide Hs).2.2.2.1, (unhide Hs).2.2.2.2⟩
        case round =>
          obtain ⟨k, R, hk, rfl, hoR, hRl, hRx, hcs, hbel⟩ := hrel
          clear Hs
          have hNn : N ≤ blobs.length ∧ N ≤ 8 := by have := unhide HN; omega
          have Hx := hide (And.intro hoR (And.intro hRl (And.intro hRx (And.intro hcs hbel))))
          clear hoR hRl hRx hcs hbel
          go_upto_region 17 with fail
          go_cut [94] (fun s wx => s = .bool (decide (k < N)) ∧ wr = wx)
          case first =>
            by_cases h1 : k < blobs.length
            · have g1 : decide ((k : Int) < (blobs.length : Int)) = true := by simpa using h1
              have g3 : decide ((k : Int) < 8) = decide (k < N) := by rw [unhide HN, decide_eq_decide]; omega
              go_wp2_with fail
              go_meet
              exact ⟨by first | rfl | exact congrArg Value.bool g3, rfl⟩
            · have g1 : decide ((k : Int) < (blobs.length : Int)) = false := by simpa using h1
              have g3 : decide (k < N) = false := by rw [unhide HN, decide_eq_false_iff_not]; omega
              go_wp2_with fail
              go_meet
              exact ⟨congrArg Value.bool g3.symm, rfl⟩
          case rest =>
            obtain ⟨h94, hwr⟩ := hcut
            subst h94
            subst hwr
            obtain ⟨hoR, hRl, hRx, hcs, hbel⟩ := unhide Hx
            clear Hx
            by_cases hlt : k < N
            · rw [decide_eq_true hlt]
              obtain ⟨bb, ob, rfl, hcb⟩ := textsGet ((unhide Htb).below hbel (Nat.le_refl _)) (k := k) (by omega)
              have hbm := bytes_mem blobs _ (List.getElem_mem (show k < blobs.length by omega))
              have q1 : (k : Int) < (blobs.length : Int) := by omega
              unfold strVal at hcb
              generalize blobs[k] = x at *
              have hdg := cDigest x wr (by unfold maxLen; omega)
              have hdl3 := digest_len x
              generalize P.digest x = dx at *
              have Hdg := hide hdg
              have Hx := hide (And.intro hoR (And.intro hRl (And.intro hRx (And.intro hcs hbel))))
              clear hdg hoR hRx hcs hbel hbm
              go_wp2_with fail
              refine (unhide Hdg).mono ?_
              rintro e W6 ⟨rfl, hb6⟩
              obtain ⟨hoR, hRl', hRx, hcs, hbel⟩ := unhide Hx
              have ho6 := OwnsS.below hoR hb6
              have hc6 := hcs.below hb6 (Nat.le_refl _)
              have hbw6 := hbel.trans (hb6.mono hbel.size)
              have hsz6 := hbw6.size
              have Hy := hide (And.intro hc6 hbw6)
              clear hoR hcs hbel hb6 hc6 hbw6 Hx Hdg
              go_wp2_with (at_builtin; refine app_text rfl (.tmp 102) (.tmp 104) rfl w.heap.size _ R rfl (OwnsS.alloc ho6 _) ⟨W6.heap.size, 0, none⟩ dx rfl ?qa ?qb ?qc ?_)
              case qa => exact cell_of_block (heap_alloc_new W6 (.cells #[.string (bs dx)] 9))
              case qb => omega
              case qc => simp; omega
              intro v7 W7 ho7 g7
              have hbA : Below W6.heap.size W6 (W6.alloc (.cells #[.string (bs dx)] 9)) := (Below.refl _ _).alloc (Nat.le_refl _) _
              have hc7 := CS.grown ((unhide Hy).1.below hbA (Nat.le_refl _)) (OwnsS.alloc ho6 _) g7
              have hb7 := ((unhide Hy).2.alloc (unhide Hy).2.size _).grown g7 (by simp; omega) (fun k hk => (World.ownsRow.lt ho6 k hk).1)
              have Hz := hide (And.intro ho7 (And.intro hc7 hb7))
              clear ho7 hc7 hb7 g7 hbA
              go_wp2_with fail
              refine ⟨⟨k + 1, R ++ [dx], by omega, by go_num, (unhide Hz).1, by simp; omega, fun y hy => ?_, (unhide Hz).2.1, (unhide Hz).2.2⟩, ?_⟩
              · rcases List.mem_append.1 hy with h | h
                · exact hRx y h
                · simp at h; subst h; omega
              · simp [intOf]; omega
            · rw [decide_eq_false hlt]
              have hbs := hbel.size
              go_wp2_with (at_builtin; refine app_texts rfl (.tmp 106) (.tmp 107) rfl w.heap.size _ R rfl hoR ad digests cd rfl (unhide Htd).2.2 ((unhide Htd).1.below hbel (Nat.le_refl _)) ?qb hbs ?_)
              case qb => omega
              intro v7 W7 ho7 g7
              have hc7 := CS.grown hcs hoR g7
              have hb7 := hbel.grown g7 hbs (fun k hk => (World.ownsRow.lt hoR k hk).1)
              obtain ⟨a7, c7, rfl, ht7, -, -⟩ := OwnsS.texts ho7
              have hR2 : ∀ x ∈ R ++ digests, x.length ≤ 1100000 := fun x hx => by
                rcases List.mem_append.1 hx with h | h
                · have := hRx x h; omega
                · exact (unhide Htd).2.1 x h
              have hR2l : (R ++ digests).length ≤ 1100020 := by simp; omega
              generalize R ++ digests = R2 at *
              obtain ⟨M, hM⟩ : ∃ M, M = min R2.length 20 := ⟨_, rfl⟩
              have HM := hide hM
              have HR2 := hide hR2
              have Hs := hide (And.intro ht7 (And.intro hc7 hb7))
              clear hM ht7 hc7 hb7 g7 ho7 hoR hcs hbel hRx hRl hR2 hbs
              go_wp2_with fail
              go_loopw [24] (fun i wr => ∃ k : Nat, k ≤ M ∧ i = .int .i64 k ∧ TextsAt wr a7 R2 ∧ CS wr sb pb um n 100000 st ∧ Below w.heap.size w wr) (fun i _ => M - (intOf i).toNat)
              case atStart => exact ⟨0, by omega, rfl, (unhide Hs).1, (unhide Hs).2.1, (unhide Hs).2.2⟩
              case round =>
                obtain ⟨k, hk, rfl, ht, hcs, hbel⟩ := hrel
                clear Hs
                have hMn : M ≤ R2.length ∧ M ≤ 20 := by have := unhide HM; omega
                have Hx := hide (And.intro ht (And.intro hcs hbel))
                clear ht hcs hbel
                go_upto_region 23 with fail
                go_cut [116] (fun s wx => s = .bool (decide (k < M)) ∧ wr = wx)
                case first =>
                  by_cases h1 : k < R2.length
                  · have g1 : decide ((k : Int) < (R2.length : Int)) = true := by simpa using h1
                    have g3 : decide ((k : Int) < 20) = decide (k < M) := by rw [unhide HM, decide_eq_decide]; omega
                    go_wp2_with fail
                    go_meet
                    exact ⟨by first | rfl | exact congrArg Value.bool g3, rfl⟩
                  · have g1 : decide ((k : Int) < (R2.length : Int)) = false := by simpa using h1
                    have g3 : decide (k < M) = false := by rw [unhide HM, decide_eq_false_iff_not]; omega
                    go_wp2_with fail
                    go_meet
                    exact ⟨congrArg Value.bool g3.symm, rfl⟩
                case rest =>
                  obtain ⟨h116, hwr⟩ := hcut
                  subst h116
                  subst hwr
                  obtain ⟨ht, hcs, hbel⟩ := unhide Hx
                  clear Hx
                  by_cases hlt : k < M
                  · rw [decide_eq_true hlt]
                    obtain ⟨b7, o7, rfl, hcx⟩ := textsGet ht (k := k) (by omega)
                    have hxl := unhide HR2 _ (List.getElem_mem (show k < R2.length by omega))
                    have q1 : (k : Int) < (R2.length : Int) := by omega
                    unfold strVal at hcx
                    generalize R2[k] = x at *
                    have hfe := cFetch_any st sb pb um n 100000 x ents dp wr hcs (hg.below hbel (Nat.le_refl _)) (by unfold maxLen; omega) (fun d b hb => by have := at_sum st d b hb; omega)
                    unfold FetEnd at hfe
                    obtain ⟨F, hF⟩ : ∃ F, fetchP (atP st) x ents dp = F := ⟨_, rfl⟩
                    rw [hF] at hfe
                    obtain ⟨c, L⟩ := F
                    simp only at hfe
                    have Hfe := hide hfe
                    have HF := hide hF
                    have hxb := block_lt hcx
                    clear hfe hF
                    go_wp2_with fail
                    refine (unhide Hfe).mono ?_
                    rintro e W8 ⟨hb8, v8, rfl, ho8⟩
                    have ht8 := ht.below hb8 (Nat.le_refl _)
                    have hcs8 := hcs.below hb8 (Nat.le_refl _)
                    have hbw8 := hbel.trans (hb8.mono hbel.size)
                    have hcx8 : W8.cell? ⟨b7, o7 + k, none⟩ = some (.string (bs x)) := ((bcell hb8).1 b7 _ hxb).trans hcx
                    have hxb8 : b7 < W8.heap.size := Nat.lt_of_lt_of_le hxb hb8.size
                    clear hb8 ht hcs hbel hcx hxb Hfe
                    by_cases hc0 : c = 0
                    · subst hc0
                      obtain ⟨htL, hwL, -, -⟩ := fetch_rooted _ _ _ _ _ (unhide HF)
                      obtain ⟨he0, hr0⟩ := fetched_built _ _ _ _ _ (unhide HF)
                      obtain ⟨a8, c8, rfl, hl8, -⟩ := OwnsE.lies ho8
                      have h40' := htL.len
                      have hbd := progBuild_uni L a8 c8 W8 (hg.below hbw8 (Nat.le_refl _)) (by unfold maxLen; omega) hl8 (tree_fit L htL)
                      rw [he0, hr0] at hbd
                      have Hbd := hide hbd
                      have HL := hide (And.intro htL hwL)
                      have Hy := hide (And.intro ht8 (And.intro hcs8 (And.intro hbw8 hl8)))
                      clear hbd htL hwL ht8 hcs8 hbw8 hl8 ho8 he0 hr0 HF
                      go_wp2_with fail
                      refine (unhide Hbd).mono ?_
                      rintro e W9 ⟨v9, rfl, ho9, hb9⟩
                      have hkl := keepLeads L a8 c8 W9 (by omega) ((unhide Hy).2.2.2.below hb9 (Nat.le_refl _)) (tree_lead L (unhide HL).1 (unhide HL).2)
                      have Hkl := hide hkl
                      have hcx9 : W9.cell? ⟨b7, o7 + k, none⟩ = some (.string (bs x)) := ((bcell hb9).1 b7 _ hxb8).trans hcx8
                      have hxb9 : b7 < W9.heap.size := Nat.lt_of_lt_of_le hxb8 hb9.size
                      have Hb9 := hide hb9
                      clear hkl hb9 ho9 Hbd hcx8 hxb8
                      go_wp2_with fail
                      refine (unhide Hkl).mono ?_
                      rintro e W10 ⟨rfl, nn, hW10⟩
                      have hb10 : Below W9.heap.size W9 W10 := by rw [hW10]; exact below_drewN (Below.refl _ _) nn
                      have hcx10 : W10.cell? ⟨b7, o7 + k, none⟩ = some (.string (bs x)) := ((bcell hb10).1 b7 _ hxb9).trans hcx9
                      have hb8 := (unhide Hb9).trans (hb10.mono (unhide Hb9).size)
                      have hbb : ((bs x).toList == (bs x).toList) = true := by simp
                      have h40 : decide ((40 : Int) < (L.length : Int)) = false := by simp; omega
                      have Hz := hide (And.intro ((unhide Hy).1.below hb8 (Nat.le_refl _)) (And.intro ((unhide Hy).2.1.below hb8 (Nat.le_refl _)) ((unhide Hy).2.2.1.trans (hb8.mono (unhide Hy).2.2.1.size))))
                      clear hW10 hb10 hb8 Hy Hkl Hb9 hcx9 hxb9
                      go_wp2_with fail
                      refine ⟨⟨k + 1, by omega, by go_num, (unhide Hz).1, (unhide Hz).2.1, (unhide Hz).2.2⟩, ?_⟩
                      simp [intOf]; omega
                    · have g3 : (c == 0) = false := by simpa using hc0
                      have g4 : decide (c = 0) = false := by simpa using hc0
                      have Hz := hide (And.intro ht8 (And.intro hcs8 hbw8))
                      clear ht8 hcs8 hbw8 ho8 HF
                      go_wp2_with fail
                      refine ⟨⟨k + 1, by omega, by go_num, (unhide Hz).1, (unhide Hz).2.1, (unhide Hz).2.2⟩, ?_⟩
                      simp [intOf]; omega
                  · rw [decide_eq_false hlt]
                    go_wp2_with fail
                    go_ret
                    exact ⟨rfl, hbel⟩
end Go.Proofs.YtjmacegibchplaaGreatDoor

/-
  Small functions of the statements without the document's answer: one, digits.
-/
namespace Go.Proofs.YtjmacegibchplaaGreatDoor
open Go.RowKit
set_option linter.unusedVariables false

set_option maxHeartbeats 1000000 in
theorem keepOne (s : List UInt8) (l : List (List UInt8)) (a : Option Addr) (c : Nat) (w : World) (hl : l.length ≤ maxLen) (h : TextsAt w a l) :
    Calls Tryz.prog 35 #[.string (bs s), .slice a l.length c] w fun e w' => e = .returned (.bool (l.any (· == s))) ∧ w' = w := by
  unfold maxLen at hl
  go_enter Tryz.func35, Tryz.ntmps35
  go_wp2_with fail
  go_loop [5] (fun i => ∃ k : Nat, k ≤ l.length ∧ i = .int .i64 k ∧ (l.take k).any (· == s) = false) (fun i => l.length - (intOf i).toNat)
  case atStart => exact ⟨0, by omega, rfl, rfl⟩
  case round =>
    obtain ⟨k, hk, rfl, hany⟩ := hrel
    have Hany := hide hany
    clear hany
    by_cases hlt : k < l.length
    · obtain ⟨b, o, rfl, hct⟩ : ∃ b o, a = some ⟨b, o, none⟩ ∧ ∀ i (h : i < l.length), w.cell? ⟨b, o + i, none⟩ = some (strVal l[i]) := by
        rcases h with h | h
        · subst h; simp at hlt
        · exact h
      have ck := hct k hlt
      unfold strVal at ck
      have Hs := hide (any_take_succ (· == s) l k hlt)
      have Ha := hide (any_at (· == s) l k hlt)
      clear hct h
      generalize l[k] = x at *
      have hE := str_eq2 x s
      generalize (x == s) = E at *
      have q1 : (k : Int) < (l.length : Int) := by omega
      cases E with
      | true =>
        have Hr := hide (unhide Ha rfl)
        clear Hs Ha
        go_wp2_with fail
        go_ret
        exact ⟨ret_bool (unhide Hr).symm, rfl⟩
      | false =>
        have Hr := hide (show (l.take (k + 1)).any (· == s) = false by rw [unhide Hs, unhide Hany]; rfl)
        clear Hs Ha
        go_wp2_with fail
        go_round
        case rel => exact ⟨k + 1, by omega, by go_num, unhide Hr⟩
        case measure => simp [intOf]; omega
    · obtain rfl : k = l.length := by omega
      have Hr := hide (show l.any (· == s) = false by have := unhide Hany; rwa [List.take_length] at this)
      go_wp2_with fail
      go_ret
      exact ⟨ret_bool (unhide Hr).symm, rfl⟩

def digM (a b : Value) : Nat := match a, b with
  | .int _ m, .string s => 2 * m.toNat + (if s.size = 0 then 1 else 0)
  | _, _ => 0
theorem dig_num : ∀ r : Fin 10, strOfNums [48 + (r.val : Int)] = bs [UInt8.ofNat (48 + r.val)] := by decide
theorem dig_small (n : Nat) (h : n < 10) : digP n = [UInt8.ofNat (48 + n % 10)] := by unfold digP; rw [if_pos h, Nat.mod_eq_of_lt h]
theorem dig_great (n : Nat) (h : ¬ n < 10) (h2 : n < 30) : digP n = UInt8.ofNat (48 + n / 10 % 10) :: [UInt8.ofNat (48 + n % 10)] := by unfold digP; rw [if_neg h, Nat.mod_eq_of_lt (show n / 10 < 10 by omega)]
theorem bs_add (a b : List UInt8) : bs a ++ bs b = bs (a ++ b) := by
  apply ByteArray.ext
  simp [bs]
def DigSt (n m : Nat) (s : List UInt8) : Prop := (s = [] ∧ m = n) ∨ (s ≠ [] ∧ m = 0 ∧ s = digP n) ∨ (s ≠ [] ∧ 10 ≤ n ∧ m = n / 10 ∧ s = [UInt8.ofNat (48 + n % 10)])
theorem dig_round (n m : Nat) (s : List UInt8) (hn : n < 30) (hm : m < 30) (h : DigSt n m s) (hend : ¬ (s ≠ [] ∧ m = 0)) :
    (∃ m1 s1, Value.int .i64 ((m : Int) / 10) = Value.int .i64 (m1 : Nat) ∧ Value.string (strOfNums [48 + (m : Int) % 10] ++ bs s) = Value.string (bs s1) ∧ m1 < 30 ∧ DigSt n m1 s1) ∧
    digM (Value.int .i64 ((m : Int) / 10)) (Value.string (strOfNums [48 + (m : Int) % 10] ++ bs s)) < digM (Value.int .i64 (m : Nat)) (Value.string (bs s)) := by
  have hd := dig_num ⟨m % 10, by omega⟩
  simp only at hd
  rw [show ((m % 10 : Nat) : Int) = (m : Int) % 10 by omega] at hd
  rw [hd, bs_add, show (m : Int) / 10 = ((m / 10 : Nat) : Int) by omega]
  refine ⟨⟨m / 10, [UInt8.ofNat (48 + m % 10)] ++ s, rfl, rfl, by omega, ?_⟩, ?_⟩
  · rcases h with ⟨rfl, rfl⟩ | ⟨h1, h2, _⟩ | ⟨h1, h2, rfl, rfl⟩
    · by_cases h10 : m < 10
      · exact .inr (.inl ⟨by simp, by omega, (dig_small m h10).symm⟩)
      · exact .inr (.inr ⟨by simp, by omega, rfl, rfl⟩)
    · exact absurd ⟨h1, h2⟩ hend
    · exact .inr (.inl ⟨by simp, by omega, (dig_great n (by omega) hn).symm⟩)
  · have e1 : (bs ([UInt8.ofNat (48 + m % 10)] ++ s)).size = s.length + 1 := by rw [bs_size]; rfl
    have e2 := bs_size s
    simp only [digM, e1, e2, Int.toNat_natCast]
    rw [if_neg (by omega)]
    by_cases hs : s = []
    · subst hs
      simp
      try omega
    · have : ¬ m = 0 := fun e => hend ⟨hs, e⟩
      have hl : ¬ s.length = 0 := fun e => hs (List.eq_nil_of_length_eq_zero e)
      rw [if_neg hl]
      omega
set_option maxHeartbeats 1000000 in
theorem keepDigits (n : Nat) (w : World) (hn : n < 30) :
    Calls Tryz.prog 58 #[.int .i64 n] w fun e w' => e = .returned (.string (bs (digP n))) ∧ Below w.heap.size w w' := by
  have hcv := conv_one
  go_enter Tryz.func58, Tryz.ntmps58
  go_wp2_with fail
  go_loopw [0, 3] (fun mv sv wr => Below w.heap.size w wr ∧ ∃ (m : Nat) (s : List UInt8), mv = .int .i64 m ∧ sv = .string (bs s) ∧ m < 30 ∧ DigSt n m s) (fun mv sv _ => digM mv sv)
  case atStart => exact ⟨Below.refl _ _, n, [], rfl, rfl, hn, .inl ⟨rfl, rfl⟩⟩
  case round =>
    obtain ⟨hbel, m, s, rfl, rfl, hm, hst⟩ := hrel
    have Hst := hide hst
    clear hst
    have hsz := bs_size s
    have hz1 : ((bs s).toList == ([] : List UInt8)) = (s == []) := by rw [ByteArray.toList_eq, bs_data]
    have hz2 : ((bs s).toList == (⟨#[]⟩ : ByteArray).toList) = (s == []) := by rw [ByteArray.toList_eq, ByteArray.toList_eq, bs_data]
    by_cases hend : s ≠ [] ∧ m = 0
    · obtain ⟨hs, rfl⟩ := hend
      have he : (s == []) = false := by simpa using hs
      rw [he] at hz1 hz2
      have Hs := hide (show s = digP n by
        rcases unhide Hst with h | h | h
        · exact absurd h.1 hs
        · exact h.2.2
        · omega)
      go_wp2_with fail
      go_ret
      exact ⟨by rw [unhide Hs]; rfl, hbel⟩
    · have Hr := hide (dig_round n m s hn hm (unhide Hst) hend)
      have hal : ∀ x, Below w.heap.size w (wr.alloc x) := fun x => hbel.alloc hbel.size x
      by_cases h0 : m = 0
      · subst h0
        obtain rfl : s = [] := by
          by_cases e : s = []
          · exact e
          · exact absurd ⟨e, rfl⟩ hend
        have e0 : (bs ([] : List UInt8)) = ⟨#[]⟩ := rfl
        obtain rfl : n = 0 := by
          rcases unhide Hst with h | h | h
          · exact h.2.symm
          · exact absurd rfl h.1
          · exact absurd rfl h.1
        clear hend hz1 hz2
        go_wp2_with fail
        exact ⟨⟨hal _, 0, [48], rfl, rfl, by omega, .inr (.inl ⟨by simp, rfl, rfl⟩)⟩, by decide⟩
      · have hp : (0 : Int) < (m : Int) := by omega
        have hsl : s.length ≤ 2 := by
          rcases unhide Hst with h | h | h
          · rw [h.1]; simp
          · have := (dig_name ⟨n, hn⟩).1
            rw [h.2.2]; exact this
          · rw [h.2.2.2]; simp
        have hq : (strOfNums [48 + (m : Int) % 10]).size = 1 := rfl
        clear hend hz1 hz2
        go_wp2_with fail
        exact ⟨⟨hal _, (unhide Hr).1⟩, (unhide Hr).2⟩
end Go.Proofs.YtjmacegibchplaaGreatDoor

/-
  Numbers owned: appended to, read.
-/
namespace Go.Proofs.YtjmacegibchplaaGreatDoor
open Go.RowKit
set_option linter.unusedVariables false

/-- numbers owned -/
def OwnsN (w : World) (base : Nat) (v : Value) (l : List Int) : Prop := w.ownsRow base 3 1 v l.length (l.map (Value.int .i64))
theorem app_num {w : World} {ops : Array Oper} {rest : List Oper} {o : Oper} {a : Act} {Q : Exit → Act → World → Prop} (hgd : o.guard = none) (s x : Operand)
    (ho : o.op = .call { callee := .builtin .append, args := #[s, x], argTypes := #[55, 55] }) (base : Nat) (v : Value) (l : List Int) (hs : a.eval s = v) (hown : OwnsN w base v l)
    (ad : Addr) (y : Int) (hx : a.eval x = .slice (some ad) 1 1) (hnews : w.cell? (ad.add 0) = some (.int .i64 y))
    (hlen : l.length ≤ 2000000) (hbase : base ≤ w.heap.size)
    (h : ∀ v' w', OwnsN w' base v' (l ++ [y]) → w.grownBy w' v.ownBlock → wpList Tryz.prog ops Q rest (a.put o.dst v') w') : wpList Tryz.prog ops Q (o :: rest) a w := by
  obtain ⟨i0, hi, hz0, hz1, hz2⟩ := info_parts info_int
  refine wpList_append_own w hgd s x 55 ho base 3 i0 _ 1 8 Tryz.underlying55 hi hz0 hz1 hz2 rfl (by decide) v l.length (l.map (Value.int .i64)) hs hown ad 1 1 [.int .i64 y] hx rfl ?_ ?_ (by unfold maxLen; omega) (by omega) hbase ?_
  · intro j u hj
    match j, hj with
    | 0, hj => simp at hj; subst hj; exact hnews
  · intro u hu; simp at hu; subst hu; rfl
  · intro v' w' h2 h3 _
    refine h v' w' ?_ h3
    unfold OwnsN
    rw [List.length_append, List.map_append]
    exact h2
theorem OwnsN.ints {w : World} {base : Nat} {v : Value} {l : List Int} (h : OwnsN w base v l) : ∃ a c, v = .slice a l.length c ∧ IntsAt w a l ∧ (∀ b o q, a = some ⟨b, o, q⟩ → base ≤ b) := by
  rcases h.2 with ⟨hv, hx⟩ | ⟨g, cap, cur, hv, hb, hgg, _⟩
  · have hl : l = [] := by simpa using hx
    subst hl
    exact ⟨none, 0, hv, .inl rfl, fun b o q e => by simp at e⟩
  · refine ⟨some ⟨g, 0, none⟩, cap, hv, ?_, fun b o q e => by simp at e; omega⟩
    rcases Nat.eq_zero_or_pos l.length with h0 | hp
    · exact .inl (List.eq_nil_of_length_eq_zero h0)
    · refine .inr ⟨g, 0, rfl, fun i hi => ?_⟩
      obtain ⟨g', cap', cur', hv', _, hb', hc'⟩ := row_at h i (by simpa using hi)
      have hgg' : g' = g := by rw [hv] at hv'; simp at hv'; exact hv'.1.symm
      subst hgg'
      have := cell_of_block (j := i) hb'
      rw [hc'] at this
      rw [Nat.zero_add]
      simpa using this
theorem bw0 {wr w9 : World} (h : Below wr.drew.heap.size wr.drew w9) : Below wr.heap.size wr w9 := ⟨h.os, h.tape, h.output, h.size, h.block⟩
theorem bw1 {wr w9 : World} {x : Obj} (h : Below ((wr.alloc x).drew).heap.size ((wr.alloc x).drew) w9) : Below wr.heap.size wr w9 := by
  have h1 : Below ((wr.alloc x)).heap.size (wr.alloc x) w9 := ⟨h.os, h.tape, h.output, h.size, h.block⟩
  have h0 : Below wr.heap.size wr (wr.alloc x) := (Below.refl _ _).alloc (Nat.le_refl _) _
  exact h0.trans (h1.mono h0.size)
theorem bw2 {wr w9 : World} {x y : Obj} (h : Below (((wr.alloc x).alloc y).drew).heap.size (((wr.alloc x).alloc y).drew) w9) : Below wr.heap.size wr w9 := by
  have h1 : Below (((wr.alloc x).alloc y)).heap.size ((wr.alloc x).alloc y) w9 := ⟨h.os, h.tape, h.output, h.size, h.block⟩
  have h0 : Below wr.heap.size wr ((wr.alloc x).alloc y) := ((Below.refl _ _).alloc (Nat.le_refl _) _).alloc (by simp) _
  exact h0.trans (h1.mono h0.size)
end Go.Proofs.YtjmacegibchplaaGreatDoor
