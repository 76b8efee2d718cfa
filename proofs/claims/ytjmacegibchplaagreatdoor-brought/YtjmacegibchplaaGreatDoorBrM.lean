/-
  A tree brought and fetched (Brought), for arguments of whatever size.
-/
import Derived.Test.YtjmacegibchplaaGreatDoorParM
namespace Go.Proofs.YtjmacegibchplaaGreatDoor
open Go.RowKit Go.Maps Go.WideMaps
set_option linter.unusedVariables false
set_option maxRecDepth 100000 in
set_option maxHeartbeats 8000000 in
theorem brought_lawM (hT : KeepTreeM) (raw : List Int) (texts : List (List UInt8)) (link : List Int) (batch : Int) (ar : Option Addr) (cr : Nat) (at' : Option Addr) (ct : Nat) (al : Option Addr) (cl : Nat) (w : World) (hg : GlobOk w)
    (hrl : raw.length ≤ 9223372036854775807) (htl : texts.length ≤ 9223372036854775807) (hll : link.length ≤ 9223372036854775807) (hbt : -9223372036854775808 ≤ batch ∧ batch ≤ 9223372036854775807)
    (hir : IntsAt w ar raw) (hrb : ∀ r ∈ raw, -9223372036854775808 ≤ r ∧ r ≤ 9223372036854775807) (htx : TextsAt w at' texts) (hts : ∀ x ∈ texts, x.length ≤ 9223372036854775807) (hil : IntsAt w al link) (hlb : ∀ r ∈ link, -9223372036854775808 ≤ r ∧ r ≤ 9223372036854775807) :
    Calls Tryz.prog 11 #[.slice ar raw.length cr, .slice at' texts.length ct, .slice al link.length cl, .int .i64 batch] w fun e w' => e = .returned (.bool true) ∧ Below w.heap.size w w' := by
  have Hir := hide (And.intro hir hrb)
  have Htx := hide (And.intro htx hts)
  have Hil := hide (And.intro hil hlb)
  have HT := hide hT
  clear hT hir hrb htx hts hil hlb
  go_enter Tryz.func11, Tryz.ntmps11
  go_wp2_with fail
  refine (awake_any w hg).mono ?_
  rintro e W1 ⟨rfl, hb1⟩
  go_wp2_with fail
  refine (unhide HT raw texts ar cr at' ct W1 hrl htl ((unhide Hir).1.below hb1 (Nat.le_refl _)) (unhide Hir).2 ((unhide Htx).1.below hb1 (Nat.le_refl _)) (unhide Htx).2).mono ?_
  rintro e W2 ⟨v2, rfl, ho2, hb2⟩
  obtain ⟨a2, c2, rfl, hl2, -⟩ := OwnsE.lies ho2
  have hlt2 := lies_lt hl2
  have htk := treeP_ok raw texts
  generalize treeP raw texts = t at *
  obtain ⟨htt, htw, ht30⟩ := htk
  have hbw2 := hb1.trans (hb2.mono hb1.size)
  have Hl2 := hide hl2
  clear hb1 hb2 ho2 hl2 Hir Htx HT
  go_wp2_with fail
  refine (cNew_ok 100000 W2 (by decide) (by decide)).mono ?_
  rintro e W3 ⟨sb, pb, um, rfl, hc3, hge, hb3⟩
  have hbw3 := hbw2.trans (hb3.mono hbw2.size)
  have hl3 := (unhide Hl2).below hb3 (Nat.le_refl _)
  have hs2 := hbw2.size
  have hne2 : ∀ b o, a2 = some ⟨b, o, none⟩ → t ≠ [] → b ≠ pb ∧ b ≠ um := fun b o e h => by have := hlt2 b o e h; omega
  have Hne2 := hide hne2
  have hlt3 := hc3.lt
  have hge3 : w.heap.size ≤ sb ∧ w.heap.size ≤ pb ∧ w.heap.size ≤ um := by omega
  have hbd := progBuild t a2 c2 W3 (hg.below hbw3 (Nat.le_refl _)) (by unfold maxLen; omega) hl3 (tree_fit t htt)
  have Hbd := hide hbd
  have Hx := hide (And.intro hc3 hl3)
  clear hbd hb3 hc3 hl3 Hl2 hge hbw2 hs2 hne2 hlt2
  go_wp2_with fail
  refine (unhide Hbd).mono ?_
  clear Hbd
  rintro e W4 ⟨hb4, ⟨hw4, _⟩ | ⟨-, hbu, rfl⟩ | ⟨blobs, v4, -, hbu, rfl, ho4⟩⟩
  · exact absurd htw hw4
  · have hbw4 := hbw3.trans (hb4.mono hbw3.size)
    go_wp2_with fail
    go_ret
    exact ⟨rfl, hbw4⟩
  obtain ⟨a4, c4, rfl, ht4, -, -⟩ := OwnsS.texts ho4
  have Hne4 := hide (fun b o q e => show b ≠ pb ∧ b ≠ um by have := texts_ge ho4 b o q e; omega)
  clear hlt3
  have hbw4 := hbw3.trans (hb4.mono hbw3.size)
  have hc4 := (unhide Hx).1.below hb4 (Nat.le_refl _)
  have hl4 := (unhide Hx).2.below hb4 (Nat.le_refl _)
  obtain ⟨root, hroot⟩ : ∃ root, root = P.digest (blobP t 6 []) := ⟨_, rfl⟩
  rw [← hroot]
  have hrlen : root.length = 3 := by rw [hroot]; exact digest_len _
  obtain ⟨f1, f2, f3, f4⟩ := built_facts htt hbu
  have hp5 : 0 ≤ pickP batch 5000 ∧ pickP batch 5000 < 5000 := by unfold pickP; exact ⟨Int.emod_nonneg _ (by decide), Int.emod_lt_of_pos _ (by decide)⟩
  have hpk := keepPick batch 5000 W4 hbt.1 hbt.2 (by decide) (by decide)
  generalize pickP batch 5000 = p at *
  have hB5 : 1 ≤ (1 + p) ∧ (1 + p) ≤ 5000 := by omega
  have hwB : IntKind.i64.wrap (1 + p) = (1 + p) := by rw [IntKind.wrap_i64]; omega
  have hplan := plan_link (1 + p) link hB5
  obtain ⟨N, hN⟩ : ∃ N, N = min link.length 60 := ⟨_, rfl⟩
  have hLl : ((link.take 60).map (fun r => pickP r 4)).length = N := by rw [List.length_map, List.length_take]; omega
  have hLk : ∀ k (h : k < N) (h2 : k < link.length), ((link.take 60).map (fun r => pickP r 4))[k]? = some (pickP link[k] 4) := fun k h h2 => by rw [List.getElem?_map, List.getElem?_take_of_lt (by omega), List.getElem?_eq_getElem h2]; rfl
  generalize (link.take 60).map (fun r => pickP r 4) = L at *
  have hP4 : PlanB W4.heap.size (W4.alloc (.cells #[.int .i64 9, .int .i64 (1 + p), .slice none 0 0] 57)) (1 + p) (.slice none 0 0) := heap_alloc_new W4 _
  have hb5 : Below W4.heap.size W4 (W4.alloc (.cells #[.int .i64 9, .int .i64 (1 + p), .slice none 0 0] 57)) := (Below.refl _ _).alloc (Nat.le_refl _) _
  have Hs := hide (And.intro hP4 hb5)
  have Hf := hide (And.intro hroot (And.intro hbu (And.intro f4 hplan)))
  have Hm := hide (And.intro hc4 (And.intro hl4 (And.intro ht4 hbw4)))
  have HN := hide hN
  have HL := hide (And.intro hLl hLk)
  clear hroot hbu f1 f2 f4 hplan hc4 hl4 ht4 hbw4 hN hLl hLk hP4 hb5 hb4 ho4 Hx hbw3
  go_wp2_with fail
  refine hpk.mono ?_
  rintro e w' ⟨rfl, hw'⟩
  rw [hw']
  clear hw' w' hpk
  go_wp2_with fail
  go_loopw [17, 18] (fun bad i wr => ∃ (k : Nat) (v : Value), k ≤ N ∧ i = .int .i64 k ∧ bad = .int .i64 (((L.take k).countP badK : Nat) : Int) ∧ PlanB W4.heap.size wr (1 + p) v ∧ OwnsN wr W4.heap.size v (L.take k) ∧ Below W4.heap.size W4 wr) (fun _ i _ => N - (intOf i).toNat)
  case atStart => exact ⟨0, .slice none 0 0, by omega, rfl, rfl, (unhide Hs).1, World.ownsRow_nil _ _ _ _, (unhide Hs).2⟩
  case round =>
    obtain ⟨k, v, hk, rfl, rfl, hpb, hoN, hbel⟩ := hrel
    clear Hs
    have hNn : N ≤ link.length ∧ N ≤ 60 := by have := unhide HN; omega
    have Hx := hide (And.intro hpb (And.intro hoN hbel))
    clear hpb hoN hbel
    generalize hbad : (L.take k).countP badK = bad
    have hbadk : bad ≤ 60 := by
      have h1 := List.countP_le_length (p := badK) (l := L.take k)
      have h2 := List.length_take_le k L
      omega
    go_upto_region 14 with fail
    go_cut [69] (fun s wx => s = .bool (decide (k < N)) ∧ wr = wx)
    case first =>
      by_cases h1 : k < link.length
      · have g1 : decide ((k : Int) < (link.length : Int)) = true := by simpa using h1
        have g3 : decide ((k : Int) < 60) = decide (k < N) := by rw [unhide HN, decide_eq_decide]; omega
        go_wp2_with fail
        go_meet
        exact ⟨by first | rfl | exact congrArg Value.bool g3, rfl⟩
      · have g1 : decide ((k : Int) < (link.length : Int)) = false := by simpa using h1
        have g3 : decide (k < N) = false := by rw [unhide HN, decide_eq_false_iff_not]; omega
        go_wp2_with fail
        go_meet
        exact ⟨congrArg Value.bool g3.symm, rfl⟩
    case rest =>
      obtain ⟨h69, hwr⟩ := hcut
      subst h69
      subst hwr
      obtain ⟨hpb, hoN, hbel⟩ := unhide Hx
      by_cases hlt : k < N
      · rw [decide_eq_true hlt]
        have hkl : k < link.length := by omega
        have hbw := (unhide Hm).2.2.2.trans (hbel.mono (unhide Hm).2.2.2.size)
        obtain ⟨bl, ol, rfl, hcl⟩ : ∃ b o, al = some ⟨b, o, none⟩ ∧ wr.cell? ⟨b, o + k, none⟩ = some (.int .i64 link[k]) := by
          rcases (unhide Hil).1.below hbw (Nat.le_refl _) with h | ⟨b, o, e, h⟩
          · rw [h] at hkl; simp at hkl
          · exact ⟨b, o, e, h k hkl⟩
        have hr := (unhide Hil).2 _ (List.getElem_mem hkl)
        have hpk := keepPick link[k] 4 wr hr.1 hr.2 (by decide) (by decide)
        have hLn := (unhide HL).1
        have hsn : L.take (k + 1) = L.take k ++ [pickP link[k] 4] := by rw [List.take_add_one, (unhide HL).2 k hlt hkl]; rfl
        have q1 : (k : Int) < (link.length : Int) := by omega
        have hp4 : 0 ≤ pickP link[k] 4 ∧ pickP link[k] 4 < 4 := by unfold pickP; exact ⟨Int.emod_nonneg _ (by decide), Int.emod_lt_of_pos _ (by decide)⟩
        generalize link[k] = r at *
        generalize pickP r 4 = y at *
        have hbs := bad_snoc (L.take k) y
        rw [← hsn, hbad] at hbs
        have cc2 := hpb.c2
        have hlen : (L.take k).length ≤ 60 := by have := List.length_take_le k L; omega
        have hbz := hbel.size
        have Hsn := hide (And.intro hsn hbs)
        clear hr hsn hbs hbw hLn Hx
        go_wp2_with fail
        refine hpk.mono ?_
        rintro e w' ⟨rfl, hw'⟩
        rw [hw']
        clear hw' w' hpk
        go_wp2_with (at_builtin; refine app_num rfl (.tmp 78) (.tmp 80) rfl W4.heap.size _ (L.take k) rfl (World.ownsRow.alloc hoN _) ⟨wr.heap.size, 0, none⟩ y rfl ?qa ?qb ?qc ?_)
        case qa => exact cell_of_block (heap_alloc_new wr (.cells #[.int .i64 y] 3))
        case qb => omega
        case qc => simp; omega
        intro v7 W7 ho7 g7
        obtain ⟨e1, e2, e3, e4⟩ := plan_step hpb rfl hoN hbel ho7 g7
        have hsh : ∃ a n c, v7 = .slice a n c := by
          obtain ⟨a, c, h⟩ := row_shape ho7
          exact ⟨a, _, c, h⟩
        have d2 := e1.c2
        have dl := e1.lt
        have df := free_block (j := 2) e1
        have hend : ∀ (z : Nat), bad + z = (L.take (k + 1)).countP badK → (∃ (k' : Nat) (v : Value), k' ≤ N ∧ Value.int .i64 ((k : Int) + 1) = .int .i64 k' ∧ Value.int .i64 ((bad : Int) + (z : Int)) = .int .i64 (((L.take k').countP badK : Nat) : Int) ∧ PlanB W4.heap.size (W7.setCell ⟨W4.heap.size, 2, none⟩ v7) (1 + p) v ∧ OwnsN (W7.setCell ⟨W4.heap.size, 2, none⟩ v7) W4.heap.size v (L.take k') ∧ Below W4.heap.size W4 (W7.setCell ⟨W4.heap.size, 2, none⟩ v7)) := fun z hz => ⟨k + 1, v7, by omega, by go_num, by rw [← hz]; simp, e2, by rw [(unhide Hsn).1]; exact e3, e4⟩
        have Hend := hide hend
        clear hend e1 e2 e3 e4 g7 ho7 hpb hoN hbel cc2
        obtain ⟨a7, n7, c7, rfl⟩ := hsh
        obtain rfl | rfl | rfl | rfl : y = 0 ∨ y = 1 ∨ y = 2 ∨ y = 3 := by omega
        · go_wp2_with fail
          refine ⟨by simpa using unhide Hend 0 (by rw [(unhide Hsn).2]; rfl), by simp [intOf]; omega⟩
        · go_wp2_with fail
          refine ⟨by simpa using unhide Hend 1 (by rw [(unhide Hsn).2]; rfl), by simp [intOf]; omega⟩
        · go_wp2_with fail
          refine ⟨by simpa using unhide Hend 1 (by rw [(unhide Hsn).2]; rfl), by simp [intOf]; omega⟩
        · go_wp2_with fail
          refine ⟨by simpa using unhide Hend 0 (by rw [(unhide Hsn).2]; rfl), by simp [intOf]; omega⟩
      · rw [decide_eq_false hlt]
        obtain rfl : k = N := by omega
        have hLn := (unhide HL).1
        have hL60 : L.length ≤ 60 := by omega
        rw [List.take_of_length_le (show L.length ≤ k by omega)] at hoN hbad
        obtain ⟨aL, cL, rfl, hiL, hgeL⟩ := OwnsN.ints hoN
        obtain ⟨hc4, hl4, ht4, hbw4⟩ := unhide Hm
        have hc5 := hc4.below hbel (Nat.le_refl _)
        have hl5 := hl4.below hbel (Nat.le_refl _)
        have ht5 := ht4.below hbel (Nat.le_refl _)
        have hbw5 := hbw4.trans (hbel.mono hbw4.size)
        have hlt4 := hc4.lt
        obtain ⟨hroot, hbu, f4, hplan⟩ := unhide Hf
        have hrev := tree_rev htt htw
        have hturn : ∀ W, Below wr.heap.size wr W → Calls Tryz.prog 34 #[.slice a2 t.length c2] W fun e w' => ∃ v, e = .returned v ∧ OwnsE w' W.heap.size v t.reverse ∧ Below W.heap.size W w' := fun W hW => turned_any t a2 c2 W (by omega) (hl5.below hW (Nat.le_refl _))
        have hup : ∀ W ae ce, Below wr.heap.size wr W → LiesE W ae t.reverse → Calls Tryz.prog 27 #[.pointer (some ⟨sb, 0, none⟩), .slice ae t.length ce, planV 9 (1 + p) aL L.length cL] W fun e w' => UpEnd 100000 t.reverse 9 (1 + p) L [] pb um 0 W e w' := fun W ae ce hW hl => by
          have h := cUpload_any t.reverse ae ce 9 (1 + p) L aL cL [] sb pb um 0 100000 W (hg.below (hbw5.trans (hW.mono hbw5.size)) (Nat.le_refl _)) (by rw [List.length_reverse]; unfold maxLen; omega) hl (tree_fit _ hrev.1) (hc5.below hW (Nat.le_refl _)) (hiL.below hW (Nat.le_refl _)) (fun b o e _ => by have := hgeL b o none e; omega) (by unfold maxLen; omega) (by decide) (by decide) (by decide) (by decide)
          rw [List.length_reverse] at h
          exact h
        unfold UpEnd planV sentV at hup
        obtain ⟨U, hU⟩ : ∃ U, upP 100000 t.reverse 9 (1 + p) L [] = U := ⟨_, rfl⟩
        rw [hU] at hup
        have hUU := up_first htt htw hbu hplan U hU
        have hroom := up_room 100000 t.reverse 9 (1 + p) L [] (by decide)
        rw [hU] at hroom
        rw [← hroot, hbad] at hUU
        obtain ⟨rt, sn, er, st⟩ := U
        simp only at hup hUU hroom
        have HU := hide hUU
        have Hag := hide (fun st' (h : ∀ b ∈ blobs, (atP st' (P.digest b)).isSome = true) => up_again 100000 htw hbu hplan h)
        have Hturn := hide hturn
        have Hup := hide hup
        have Hw := hide (And.intro hc5 (And.intro hl5 (And.intro ht5 (And.intro hbw5 hiL))))
        have hpl := hpb.lt
        have p0 := hpb.c0
        have p1 := hpb.c1
        have p2 := hpb.c2
        have hlw : sb < wr.heap.size ∧ pb < wr.heap.size ∧ um < wr.heap.size := hc5.lt
        clear hUU hturn hup hc5 hl5 ht5 hbw5 hiL hc4 hl4 ht4 hbw4 hroot hbu f4 hplan hU hoN hbel hrev Hx hLn HL HN Hm
        go_upto_region 20 with fail
        go_cut [20, 21, 22] (fun s20 s21 s22 wx => ∃ bS n', s20 = .string (bs rt) ∧ s21 = .pointer (some ⟨bS, 0, none⟩) ∧ s22 = .int .i64 er ∧ SentB bS wx sn ∧ wr.heap.size ≤ bS ∧ CS wx sb pb um n' 100000 st ∧ n' ≤ 100000 ∧ Fr (fun x => x = pb ∨ x = um) wr wx)
        case first =>
          go_region_with ((first
            | (go_at_call 34; refine (unhide Hturn _ (by first | exact (Below.refl _ _).drew | exact ((Below.refl _ _).alloc (Nat.le_refl _) _).drew)).mono ?_; rintro e w9 ⟨v9, rfl, ho9, hb9⟩; obtain ⟨a9, c9, rfl, hl9, -⟩ := OwnsE.lies ho9; have hB9 : Below wr.heap.size wr w9 := (by first | exact bw0 hb9 | exact bw1 hb9); have hp9 := hpb.below hB9 hpl; have q0 := hp9.c0; have q1 := hp9.c1; have q2 := hp9.c2; have hpl9 := hp9.lt; have hz9 := hB9.size; (try have hA9 : w9.heap[wr.heap.size]? = some (.cells #[.int .i64 0, .int .i64 0, .int .i64 0] 52 (0, 0)) := (hb9.block wr.heap.size (by simp)).trans (heap_alloc_new wr _)); (try have hA9l := (Array.getElem?_eq_some_iff.1 hA9).1); clear ho9 hb9 hp9)
            | (go_at_call 27; refine (unhide Hup _ _ _ (by first | exact hB9 | exact hB9.alloc hB9.size _) (by first | exact hl9 | exact hl9.below ((Below.refl _ _).alloc (Nat.le_refl _) _) (Nat.le_refl _))).mono ?_; rintro e w10 ⟨rfl, ⟨n', hn', hp'⟩, hs', hf'⟩; have hfw : Fr (fun x => x = pb ∨ x = um) wr w10 := Fr.widen (by first | exact hB9 | exact hB9.alloc hB9.size _) hf' (fun x _ h => h); have hcw := ((unhide Hw).1.below (by first | exact hB9 | exact hB9.alloc hB9.size _) (Nat.le_refl _)).next hf' hp'; (try have hA10 : w10.heap[wr.heap.size]? = some (.cells #[.int .i64 0, .int .i64 0, .int .i64 0] 52 (0, 0)) := (hf'.block wr.heap.size hA9l (by omega)).trans hA9); (try have hC10 : w10.heap[w9.heap.size]? = some (.cells #[.int .i64 0, .int .i64 0, .int .i64 0] 52 (0, 0)) := (hf'.block w9.heap.size (by simp) (by omega)).trans (heap_alloc_new w9 _)); (try have k0 := cell_of_block (j := 0) hA10); (try have k1 := cell_of_block (j := 1) hA10); (try have k2 := cell_of_block (j := 2) hA10); (try simp at k0 k1 k2); (try have kf := fun j => free_block (j := j) hA10); (try have kl := (Array.getElem?_eq_some_iff.1 hA10).1); (try have l0 := cell_of_block (j := 0) hC10); (try have l1 := cell_of_block (j := 1) hC10); (try have l2 := cell_of_block (j := 2) hC10); (try simp at l0 l1 l2); (try have lf := fun j => free_block (j := j) hC10); (try have ll := (Array.getElem?_eq_some_iff.1 hC10).1); clear hp' hs' hf')))
          all_goals
            go_wp2_with fail
            go_meet
            first
              | exact ⟨_, _, rfl, rfl, rfl, (up_done hfw hcw sn).1, (up_done hfw hcw sn).2.1, (up_done hfw hcw sn).2.2.1, by omega, (up_done hfw hcw sn).2.2.2⟩
              | exact ⟨_, _, rfl, rfl, rfl, (up_done2 hfw hcw hlw sn (Nat.le_refl _) hA10).1, (up_done2 hfw hcw hlw sn (Nat.le_refl _) hA10).2.1, (up_done2 hfw hcw hlw sn (Nat.le_refl _) hA10).2.2.1, by omega, (up_done2 hfw hcw hlw sn (Nat.le_refl _) hA10).2.2.2⟩
              | exact ⟨_, _, rfl, rfl, rfl, (up_done2 hfw hcw hlw sn hz9 hC10).1, (up_done2 hfw hcw hlw sn hz9 hC10).2.1, (up_done2 hfw hcw hlw sn hz9 hC10).2.2.1, by omega, (up_done2 hfw hcw hlw sn hz9 hC10).2.2.2⟩
              | trace_state
        case rest =>
          rename World => wx
          obtain ⟨bS, n', rfl, rfl, rfl, hSn, hbS, hcx, hn', hfx⟩ := hcut
          obtain ⟨-, hl5, ht5, hbw5, hiL⟩ := unhide Hw
          have hsz := hfx.size
          have hplx : W4.heap.size ≠ pb ∧ W4.heap.size ≠ um := by omega
          have hbwx := hbw5.trans (hfx.toBelow hbw5.size (fun x h => by omega))
          have hpx : PlanB W4.heap.size wx (1 + p) (.slice aL L.length cL) := (hfx.block W4.heap.size hpl (by omega)).trans hpb
          clear Hturn Hup hpb p0 p1 p2
          rcases unhide HU with ⟨u1, u2, u3, u4, u5', u6', u7', u8'⟩ | ⟨u1, u2⟩
          · subst u1
            subst u2
            obtain ⟨s1, sB, sY⟩ := sn
            simp only at u3 u4 u5' u6'
            have hs1 := hSn.c1
            have hs2 := hSn.c2
            simp only at hs1 hs2
            have htx := ht5.fr hfx (fun b o q e h => by have := unhide Hne4 b o q e; omega)
            have hlx := lies_fr hl5 hfx (fun b o e h1 h => by have := unhide Hne2 b o e h1; omega)
            have hix := hiL.fr hfx (fun b o e _ h => by have := hgeL b o none e; omega)
            have f4 := (unhide Hf).2.2.1
            have Hk := hide (And.intro htx (And.intro hlx (And.intro hix (And.intro hcx (And.intro hbwx hpx)))))
            clear htx hlx hix hcx hbwx hpx hl5 ht5 hiL hfx HU hbw5 hSn
            go_wp2_with fail
            go_loopw [23, 24] (fun y i wr' => ∃ k : Nat, k ≤ blobs.length ∧ i = .int .i64 k ∧ y = .int .i64 ((bytesP (blobs.take k) : Nat) : Int) ∧ wx = wr') (fun _ i _ => blobs.length - (intOf i).toNat)
            case atStart => exact ⟨0, by omega, rfl, rfl, rfl⟩
            case round =>
              obtain ⟨kk, hkk, rfl, rfl, rfl⟩ := hrel
              have hby := bytes_take_le blobs kk
              by_cases hlt : kk < blobs.length
              · have g1 : decide ((kk : Int) < (blobs.length : Int)) = true := by simpa using hlt
                have q1 : (kk : Int) < (blobs.length : Int) := by omega
                obtain ⟨b4, o4, rfl, hcb⟩ := textsGet (unhide Hk).1 (k := kk) hlt
                have hsx := bytes_take1 blobs kk hlt
                have hxm := bytes_mem blobs _ (List.getElem_mem hlt)
                unfold strVal at hcb
                generalize blobs[kk] = x at *
                have hzx := bs_size x
                have Hsx := hide hsx
                generalize bytesP (blobs.take kk) = yy at *
                clear hsx
                go_wp2_with fail
                refine ⟨⟨kk + 1, by omega, by go_num, ?_, by first | rfl | trivial⟩, ?_⟩
                · rw [unhide Hsx]
                  first | rfl | (rw [hzx]; go_num) | go_num
                · simp [intOf]; omega
              · have g1 : decide ((kk : Int) < (blobs.length : Int)) = false := by simpa using hlt
                obtain rfl : kk = blobs.length := by omega
                rw [List.take_length]
                have hrr : ((bs rt).toList == (bs rt).toList) = true := by simp
                have d1 : decide ((sB : Int) < (blobs.length : Int)) = false := by simp; omega
                have d2 : decide ((sY : Int) < ((bytesP blobs : Nat) : Int)) = false := by simp; omega
                have d3 : decide (9 * (blobs.length : Int) < (sB : Int)) = false := by simp; omega
                have m9 : IntKind.i64.wrap (9 * (blobs.length : Int)) = 9 * (blobs.length : Int) := by rw [IntKind.wrap_i64]; omega
                have Hu := hide (And.intro u7' u8')
                have Hbb := hide hby
                clear u7' u8' hby g1 hlt hkk
                go_upto_region 28 with fail
                go_cut [155] (fun s wz => s = .bool false ∧ wx = wz)
                case first =>
                  by_cases hb0 : bad = 0
                  · have e1 : sB = blobs.length := u6' hb0
                    clear u5' u6' hbad hbadk
                    subst hb0
                    subst e1
                    go_wp2_with fail
                    go_meet
                    exact ⟨congrArg Value.bool (by simp; omega), rfl⟩
                  · have z0 : ((bad : Int) == 0) = false := by simp; omega
                    have z1 : decide ((bad : Int) = 0) = false := by simp; omega
                    clear u5' u6'
                    go_wp2_with fail
                    go_meet
                    exact ⟨congrArg Value.bool (by simp; omega), rfl⟩
                case rest =>
                  obtain ⟨h155, hwz⟩ := hcut
                  subst h155
                  subst hwz
                  obtain ⟨htx, hlx, hix, hcx, hbwx, hpx⟩ := unhide Hk
                  have hfe := cFetch_any st sb pb um n' 100000 rt 40 5 wx hcx (hg.below hbwx (Nat.le_refl _)) (by unfold maxLen; omega) (fun d b hb => by have := at_sum st d b hb; omega)
                  unfold FetEnd at hfe
                  have hfh : fetchP (atP st) rt 40 5 = (0, orderP t) := by rw [(unhide Hf).1]; exact fetch_held htt htw (unhide Hu).1 40 5 (by omega) (by omega)
                  rw [hfh] at hfe
                  simp only at hfe
                  have Hfe := hide hfe
                  have hltx := hcx.lt
                  clear hfe hfh d1 d2 d3 m9 u3 u4 u5' u6' hs1 hs2 htx hlx hix hcx hbwx hpx
                  go_wp2_with fail
                  refine (unhide Hfe).mono ?_
                  rintro e W8 ⟨hb8, v8, rfl, ho8⟩
                  obtain ⟨htx, hlx, hix, hcx, hbwx, hpx⟩ := unhide Hk
                  obtain ⟨a8, c8, rfl, hl8, hge8⟩ := OwnsE.lies ho8
                  have hl28 := hlx.below hb8 (Nat.le_refl _)
                  have hi8 := hix.below hb8 (Nat.le_refl _)
                  have hc8 := hcx.below hb8 (Nat.le_refl _)
                  have hbw8 := hbwx.trans (hb8.mono hbwx.size)
                  have hp8 := hpx.below hb8 hpx.lt
                  have q0 := hp8.c0
                  have q1' := hp8.c1
                  have q2 := hp8.c2
                  have hup := cUpload_any t a2 c2 9 (1 + p) L aL cL st sb pb um n' 100000 W8 (hg.below hbw8 (Nat.le_refl _)) (by unfold maxLen; omega) hl28 (tree_fit t htt) hc8 hi8 (fun b o e _ => by have := hgeL b o none e; omega) (by unfold maxLen; omega) (by omega) (by omega) (by decide) (by decide)
                  unfold UpEnd planV sentV at hup
                  have hag := unhide Hag st (unhide Hu).2
                  generalize upP 100000 t 9 (1 + p) L st = U2 at *
                  obtain ⟨rt2, sn2, er2, st2⟩ := U2
                  obtain ⟨s1', s2', s3'⟩ := sn2
                  simp only at hup hag
                  obtain ⟨hag1, hag2⟩ := hag
                  obtain ⟨rfl, rfl⟩ : s2' = 0 ∧ s3' = 0 := by simpa using hag2
                  have hag1' : (er2 = 0 ∧ rt2 = rt) ∨ er2 = 10 := by rw [(unhide Hf).1]; exact hag1
                  have Hup := hide hup
                  have Hk8 := hide (And.intro hl28 (And.intro hl8 (And.intro hbw8 hge8)))
                  clear hup hag1 hag2 hl28 hi8 hc8 hbw8 hp8 hl8 hb8 ho8 htx hlx hix hcx hbwx hpx Hk Hfe hgeL
                  go_wp2_with fail
                  refine (unhide Hup).mono ?_
                  rintro e W9 ⟨rfl, -, -, hf9⟩
                  obtain ⟨hl28, hl8, hbw8, hge8⟩ := unhide Hk8
                  have hl29 := lies_fr hl28 hf9 (fun b o e h1 h => by have := unhide Hne2 b o e h1; omega)
                  have hl9 := lies_fr hl8 hf9 (fun b o e h1 h => by have := hge8 b o none e; omega)
                  have hbw9 := hbw8.trans (hf9.toBelow hbw8.size (fun x h => by omega))
                  have hbA : Below W9.heap.size W9 (W9.alloc (.cells #[.int .i64 (s1' : Int), .int .i64 ((0 : Nat) : Int), .int .i64 ((0 : Nat) : Int)] 52)) := (Below.refl _ _).alloc (Nat.le_refl _) _
                  have hSA : SentB W9.heap.size (W9.alloc (.cells #[.int .i64 (s1' : Int), .int .i64 ((0 : Nat) : Int), .int .i64 ((0 : Nat) : Int)] 52)) (s1', 0, 0) := heap_alloc_new W9 _
                  have hl210 := hl29.below hbA (Nat.le_refl _)
                  have hl10 := hl9.below hbA (Nat.le_refl _)
                  have hbw10 := hbw9.trans (hbA.mono hbw9.size)
                  have Hz := hide (And.intro hl210 (And.intro hl10 (And.intro hbw10 hSA)))
                  have Hsm := hide (fun W h1 h2 => keepSame_any (orderP t) t a8 a2 c8 c2 W (by have := order_len t htt; omega) (order_len t htt) h1 h2 (fun i h => order_same htt i h))
                  have Hor := hide (fun W h1 => keepOrder_any (orderP t) a8 c8 W (by have := order_len t htt; omega) h1 (fun i h => by have hm := (order_mem t htt _).1 (List.getElem_mem h); obtain ⟨j, hj, e⟩ := List.mem_iff_getElem.1 hm; rw [← e]; have := tree_path t htt j hj; unfold pth; omega) (order_chain t htt).1 (order_chain t htt).2)
                  clear hl28 hl8 hbw8 hge8 hl29 hl9 hbw9 hbA hl210 hl10 hbw10 hSA hf9 Hk8 Hup
                  rcases hag1' with ⟨rfl, rfl⟩ | rfl
                  all_goals
                    go_wp2_with fail
                    refine (unhide Hsm _ (unhide Hz).2.1 (unhide Hz).1).mono ?_
                    rintro e W11 ⟨rfl, n11, hW11⟩
                    have hb11 := below_drewN (Below.refl (W9.alloc (.cells #[.int .i64 (s1' : Int), .int .i64 ((0 : Nat) : Int), .int .i64 ((0 : Nat) : Int)] 52)).heap.size (W9.alloc (.cells #[.int .i64 (s1' : Int), .int .i64 ((0 : Nat) : Int), .int .i64 ((0 : Nat) : Int)] 52))) n11
                    rw [← hW11] at hb11
                    have hl11 := (unhide Hz).2.1.below hb11 (Nat.le_refl _)
                    have hbw11 := (unhide Hz).2.2.1.trans (hb11.mono (unhide Hz).2.2.1.size)
                    have hS11 : SentB W9.heap.size W11 (s1', 0, 0) := (hb11.block W9.heap.size (by simp)).trans (unhide Hz).2.2.2
                    have Hy := hide (And.intro hbw11 hS11)
                    have Ho := hide (unhide Hor W11 hl11)
                    clear hb11 hl11 hbw11 hS11 hW11 Hz Hsm
                    go_wp2_with fail
                    refine (unhide Ho).mono ?_
                    rintro e W12 ⟨rfl, n12, hW12⟩
                    have hb12 := below_drewN (Below.refl W11.heap.size W11) n12
                    rw [← hW12] at hb12
                    have hbw12 := (unhide Hy).1.trans (hb12.mono (unhide Hy).1.size)
                    have hS12 : SentB W9.heap.size W12 (s1', 0, 0) := (hb12.block W9.heap.size (unhide Hy).2.lt).trans (unhide Hy).2
                    have t1 := hS12.c1
                    have t2 := hS12.c2
                    simp only at t1 t2
                    clear hb12 hW12 hS12 Hy Ho Hor
                    go_wp2_with fail
                    go_ret
                    exact ⟨rfl, hbw12⟩
          · subst u1
            have d9 : decide ((9 : Int) ≤ (bad : Int)) = true := by simp; omega
            clear Hw hl5 ht5 hiL hcx hSn HU hfx
            go_wp2_with fail
            go_ret
            exact ⟨rfl, hbwx⟩
end Go.Proofs.YtjmacegibchplaaGreatDoor
