/-
  The program's Upload.
-/
import Derived.Test.YtjmacegibchplaaGreatDoorUpD
namespace Go.Proofs.YtjmacegibchplaaGreatDoor
open Go.RowKit Go.Maps Go.WideMaps
set_option linter.unusedVariables false
def upP (room : Int) (l : List En) (tries batch : Int) (L : List Int) (st : List (List UInt8 × List UInt8)) : List UInt8 × (Nat × Nat × Nat) × Int × List (List UInt8 × List UInt8) :=
  if wrongP l ≠ 0 then ([], (0, 0, 0), wrongP l, st)
  else match builtP l with
    | none => ([], (0, 0, 0), 3, st)
    | some blobs => if planOk tries batch L = false then ([], (0, 0, 0), 5, st)
      else ((if (bringP room batch tries.toNat L blobs st).1 = 0 then P.digest (blobP l 6 []) else []), (bringP room batch tries.toNat L blobs st).2.2, (bringP room batch tries.toNat L blobs st).1, (bringP room batch tries.toNat L blobs st).2.1)
theorem plan_eq (tries batch : Int) (L : List Int) : planOk tries batch L = ((P.within tries 1 9 && !(L.any noFate)) && P.within batch 1 5000) := by
  unfold planOk P.within
  have h : L.all (fun k => decide (0 ≤ k ∧ k ≤ 3)) = !(L.any noFate) := by
    induction L with
    | nil => rfl
    | cons x r ih => rw [List.all_cons, List.any_cons, ih]; unfold noFate P.within; cases decide (0 ≤ x ∧ x ≤ 3) <;> simp
  rw [h, Bool.eq_iff_iff]
  simp only [Bool.and_eq_true, decide_eq_true_eq]
  constructor
  · rintro ⟨⟨h1, h2, h3, h4⟩, h5⟩; exact ⟨⟨⟨h1, h2⟩, h5⟩, h3, h4⟩
  · rintro ⟨⟨⟨h1, h2⟩, h5⟩, h3, h4⟩; exact ⟨⟨h1, h2, h3, h4⟩, h5⟩
theorem Fr.widen {S T : Nat → Prop} {a b c : World} (h : Below a.heap.size a b) (k : Fr S b c) (hs : ∀ x, x < a.heap.size → S x → T x) : Fr T a c :=
  ⟨k.os.trans h.os, k.tape.trans h.tape, k.output.trans h.output, Nat.le_trans h.size k.size, fun x hx hn => (k.block x (Nat.lt_of_lt_of_le hx h.size) (fun hS => hn (hs x hx hS))).trans (h.block x hx)⟩
theorem Fr.setNew {T : Nat → Prop} {a c : World} (h : Fr T a c) (b j : Nat) (v : Value) (hb : a.heap.size ≤ b) : Fr T a (c.setCell ⟨b, j, none⟩ v) :=
  ⟨h.os, h.tape, h.output, by simpa using h.size, fun x hx hn => (Below.heap_setCell _ _ _ _ (fun e => by have e' : x = b := e; omega)).trans (h.block x hx hn)⟩
def sentV (s : Nat × Nat × Nat) : Value := .agg #[.int .i64 (s.1 : Int), .int .i64 (s.2.1 : Int), .int .i64 (s.2.2 : Int)]
def UpEnd (room : Int) (l : List En) (tries batch : Int) (L : List Int) (st : List (List UInt8 × List UInt8)) (pb um n : Nat) (w : World) (e : Ending) (w' : World) : Prop :=
  e = .returned (.tuple #[.string (bs (upP room l tries batch L st).1), sentV (upP room l tries batch L st).2.1, .int .i64 (upP room l tries batch L st).2.2.1]) ∧
    (∃ n', n' ≤ n + 100000 ∧ PStore w' pb um n' room (upP room l tries batch L st).2.2.2) ∧ sumP (upP room l tries batch L st).2.2.2 ≤ 1000000000000 ∧ Fr (fun x => x = pb ∨ x = um) w w'
theorem kept_facts (l : List En) (ht : Tree l) (hcl : clashR (keptAll l) = false) : (digsOf (keptAll l)).length ≤ 41 ∧ ∀ y ∈ keptAll l, y.length ≤ 2000 := by
  have hb := built_some l ht hcl
  obtain ⟨_, _, h3, _⟩ := built_facts ht hb
  refine ⟨?_, fun y hy => ?_⟩
  · unfold listOf at h3; simpa using h3
  · have := part_small l ht y ((kept_mem l ht y).1 hy); omega
theorem up_err {room : Int} {l : List En} {tries batch : Int} {L : List Int} {st : List (List UInt8 × List UInt8)} {pb um n : Nat} {w w' : World} {e : Ending} {E : Int} (he : e = .returned (.tuple #[.string ⟨#[]⟩, .agg #[.int .i64 0, .int .i64 0, .int .i64 0], .int .i64 E])) (hu : upP room l tries batch L st = ([], (0, 0, 0), E, st))
    (hp : PStore w' pb um n room st) (hs : sumP st ≤ 1000000000000) (hf : Fr (fun x => x = pb ∨ x = um) w w') : UpEnd room l tries batch L st pb um n w e w' := by
  unfold UpEnd
  rw [hu]
  exact ⟨he, ⟨n, by omega, hp⟩, hs, hf⟩
set_option maxRecDepth 100000 in
set_option maxHeartbeats 4000000 in
theorem upTree_any (l : List En) (ae : Option Addr) (ce : Nat) (tries batch : Int) (L : List Int) (a : Option Addr) (c : Nat) (st : List (List UInt8 × List UInt8)) (pb um n : Nat) (room : Int) (w : World) (hg : GlobOk w)
    (hl : l.length ≤ maxLen) (hle : LiesE w ae l) (hf : TFit l) (h : PStore w pb um n room st) (hi : IntsAt w a L) (hin : ∀ b o, a = some ⟨b, o, none⟩ → L ≠ [] → b ≠ pb ∧ b ≠ um) (hL : L.length ≤ maxLen)
    (hn : n ≤ 90000000000) (hsum : sumP st ≤ 1000000000000) (hr0 : 0 ≤ room) (hr : room ≤ 100000) :
    Calls Tryz.prog 55 #[.pointer (some ⟨pb, 0, none⟩), .slice ae l.length ce, planV tries batch a L.length c] w fun e w' => UpEnd room l tries batch L st pb um n w e w' := by
  have hlp := h.lt pb (.inl rfl)
  have hlu := h.lt um (.inr rfl)
  have hib : ∀ b o, a = some ⟨b, o, none⟩ → L ≠ [] → b < w.heap.size := by
    rintro b o rfl hne
    rcases hi with h1 | ⟨b', o', e, h1⟩
    · exact absurd h1 hne
    · obtain ⟨rfl, rfl⟩ : b = b' ∧ o = o' := by simpa using e
      exact block_lt (h1 0 (by cases L; exact absurd rfl hne; simp))
  have hbA : Below w.heap.size w ((w.alloc (.cells #[.int .i64 tries, .int .i64 batch, .slice a L.length c] 57)).alloc (.cells #[.int .i64 0, .int .i64 0, .int .i64 0] 52)) := ((Below.refl _ _).alloc (Nat.le_refl _) _).alloc (by simp) _
  have hs5 : ((w.alloc (.cells #[.int .i64 tries, .int .i64 batch, .slice a L.length c] 57)).alloc (.cells #[.int .i64 0, .int .i64 0, .int .i64 0] 52)).heap[w.heap.size]? = some (.cells #[.int .i64 tries, .int .i64 batch, .slice a L.length c] 57 (0, 0)) := (Below.heap_alloc _ _ _ (by simp)).trans (heap_alloc_new w _)
  have hs7 : ((w.alloc (.cells #[.int .i64 tries, .int .i64 batch, .slice a L.length c] 57)).alloc (.cells #[.int .i64 0, .int .i64 0, .int .i64 0] 52)).heap[w.heap.size + 1]? = some (.cells #[.int .i64 0, .int .i64 0, .int .i64 0] 52 (0, 0)) := by
    have := heap_alloc_new (w.alloc (.cells #[.int .i64 tries, .int .i64 batch, .slice a L.length c] 57)) (.cells #[.int .i64 0, .int .i64 0, .int .i64 0] 52)
    rw [show (w.alloc (.cells #[.int .i64 tries, .int .i64 batch, .slice a L.length c] 57)).heap.size = w.heap.size + 1 by simp] at this
    exact this
  have hof := of_any l ae ce _ hl (hle.below hbA (Nat.le_refl _)) hf (hg.below hbA (Nat.le_refl _))
  obtain ⟨W1, hW1⟩ : ∃ W1, (w.alloc (.cells #[.int .i64 tries, .int .i64 batch, .slice a L.length c] 57)).alloc (.cells #[.int .i64 0, .int .i64 0, .int .i64 0] 52) = W1 := ⟨_, rfl⟩
  rw [hW1] at hbA hs5 hs7 hof
  have hz1 : W1.heap.size = w.heap.size + 2 := by rw [← hW1]; simp
  have Hz1 := hide hz1
  have Hof := hide hof
  clear hof hz1
  unfold planV
  go_enter Tryz.func55, Tryz.ntmps55
  go_wp2_with fail
  refine (unhide Hof).mono ?_
  rintro e W2 ⟨hb2, h2⟩
  clear Hof hW1
  have hbw2 := hbA.trans (hb2.mono hbA.size)
  have hs52 := (hb2.block w.heap.size (Array.getElem?_eq_some_iff.1 hs5).1).trans hs5
  have hs72 := (hb2.block (w.heap.size + 1) (Array.getElem?_eq_some_iff.1 hs7).1).trans hs7
  clear hs5 hs7 hbA
  have h3 : (∃ E : Int, E ≠ 0 ∧ upP room l tries batch L st = ([], (0, 0, 0), E, st) ∧ e = .returned (.tuple #[.agg #[.string ⟨#[]⟩, .map none], .int .i64 E])) ∨
      (Tree l ∧ wrongP l = 0 ∧ builtP l = some (listOf (keptAll l)) ∧ clashR (keptAll l) = false ∧ ∃ bm nb, nb ≤ 5000000000 ∧ e = .returned (.tuple #[.agg #[.string (bs (P.digest (blobP l 6 []))), .map (some bm)], .int .i64 0]) ∧ MapIs W2 bm nb (blobsF (keptAll l))) := by
    rcases h2 with ⟨hnt, rfl⟩ | ⟨ht, hes, rfl⟩ | ⟨ht, hes, hcl, rfl⟩ | ⟨ht, hes, hcl, bm, nb, hnb, hbm, rfl, hm⟩
    · exact .inl ⟨1, by decide, by unfold upP; rw [if_pos (by rw [wrong_no l hnt]; decide), wrong_no l hnt], rfl⟩
    · have hw : wrongP l = 2 := by rw [wrong_yes l ht, hes]; rfl
      exact .inl ⟨2, by decide, by unfold upP; rw [if_pos (by rw [hw]; decide), hw], rfl⟩
    · have hw : wrongP l = 0 := by rw [wrong_yes l ht, hes]; rfl
      exact .inl ⟨3, by decide, by unfold upP; rw [if_neg (by rw [hw]; decide), built_none l ht hcl], rfl⟩
    · have hw : wrongP l = 0 := by rw [wrong_yes l ht, hes]; rfl
      exact .inr ⟨ht, hw, built_some l ht hcl, hcl, bm, nb, hnb, rfl, hm⟩
  clear h2
  have hlt5 := (Array.getElem?_eq_some_iff.1 hs52).1
  have hlt7 := (Array.getElem?_eq_some_iff.1 hs72).1
  rcases h3 with ⟨E, hE, hu, rfl⟩ | ⟨ht, hw, hbu, hcl, bm, nb, hnb, rfl, hm⟩
  · have Hu := hide hu
    have b0 : (E == 0) = false := by simpa using hE
    have c0 := cell_of_block (j := 0) hs72
    have c1 := cell_of_block (j := 1) hs72
    have c2 := cell_of_block (j := 2) hs72
    have f0 := free_block (j := 0) hs72
    have f1 := free_block (j := 1) hs72
    have f2 := free_block (j := 2) hs72
    simp only [List.getElem?_toArray, List.getElem?_cons_zero, List.getElem?_cons_succ] at c0 c1 c2
    have Hp := hide (And.intro h hbw2)
    clear hu h hbw2 hb2 hs72 hs52 hi hle hin
    go_wp2_with fail
    refine bodyPost_ret (v := .tuple #[.string ⟨#[]⟩, .agg #[.int .i64 0, .int .i64 0, .int .i64 0], .int .i64 E]) ?qr rfl ?_
    case qr => simp [results, Tryz.results55, go_sem, hlt7, c0, c1, c2]
    obtain ⟨hp, hbw2⟩ := unhide Hp
    have hF := (((Fr.below (S := fun x => x = pb ∨ x = um) hbw2).setNew (w.heap.size + 1) 0 (.int .i64 0) (by omega)).setNew (w.heap.size + 1) 1 (.int .i64 0) (by omega)).setNew (w.heap.size + 1) 2 (.int .i64 0) (by omega)
    have hF2 := hF.trans (Fr.below ((Below.refl _ _).alloc (Nat.le_refl _) (.cells #[.string ⟨#[]⟩, .map none] 77)))
    refine up_err rfl (unhide Hu) ?_ hsum hF2
    refine (hp.below hbw2 (Nat.le_refl _)).same (fun b hb => ?_)
    have hbl : b < w.heap.size := by rcases hb with rfl | rfl <;> assumption
    rw [Below.heap_alloc _ _ _ (by simp; omega), Below.heap_setCell _ _ _ _ (by simp; omega), Below.heap_setCell _ _ _ _ (by simp; omega), Below.heap_setCell _ _ _ _ (by simp; omega)]
  · obtain ⟨hkd, hks⟩ := kept_facts l ht hcl
    have hbS : Below W2.heap.size W2 (W2.alloc (.cells #[.string (bs (P.digest (blobP l 6 []))), .map (some bm)] 77)) := (Below.refl _ _).alloc (Nat.le_refl _) _
    have hs9 : (W2.alloc (.cells #[.string (bs (P.digest (blobP l 6 []))), .map (some bm)] 77)).heap[W2.heap.size]? = some (.cells #[.string (bs (P.digest (blobP l 6 []))), .map (some bm)] 77 (0, 0)) := heap_alloc_new W2 _
    have hup : upP room l tries batch L st = if planOk tries batch L = false then ([], (0, 0, 0), 5, st) else ((if (bringP room batch tries.toNat L (listOf (keptAll l)) st).1 = 0 then P.digest (blobP l 6 []) else []), (bringP room batch tries.toNat L (listOf (keptAll l)) st).2.2, (bringP room batch tries.toNat L (listOf (keptAll l)) st).1, (bringP room batch tries.toNat L (listOf (keptAll l)) st).2.1) := by
      unfold upP
      rw [if_neg (by rw [hw]; decide), hbu]
    rw [plan_eq] at hup
    generalize P.digest (blobP l 6 []) = RT at *
    have Hup := hide hup
    obtain ⟨W3, hW3⟩ : ∃ W3, W2.alloc (.cells #[.string (bs RT), .map (some bm)] 77) = W3 := ⟨_, rfl⟩
    rw [hW3] at hbS hs9
    have hs53 := (hbS.block _ hlt5).trans hs52
    have hs73 := (hbS.block _ hlt7).trans hs72
    have hbw3 := hbw2.trans (hbS.mono hbw2.size)
    have hm3 := hm.same (hbS.block bm hm.lt)
    have hz3 : W2.heap.size < W3.heap.size := (Array.getElem?_eq_some_iff.1 hs9).1
    have p0 := cell_of_block (j := 0) hs53
    have p1 := cell_of_block (j := 1) hs53
    have p2 := cell_of_block (j := 2) hs53
    have c0 := cell_of_block (j := 0) hs73
    have c1 := cell_of_block (j := 1) hs73
    have c2 := cell_of_block (j := 2) hs73
    have f0 := free_block (j := 0) hs73
    have f1 := free_block (j := 1) hs73
    have f2 := free_block (j := 2) hs73
    simp only [List.getElem?_toArray, List.getElem?_cons_zero, List.getElem?_cons_succ] at p0 p1 p2 c0 c1 c2
    have hi3 := hi.below hbw3 (Nat.le_refl _)
    have hno := linkNew_no tries batch L a c W3 hL hi3
    have hok := linkNew_ok tries batch L a c W3 hL hi3
    unfold planV at hno hok
    have Hno := hide hno
    have Hok := hide hok
    have H3 := hide (And.intro hs53 (And.intro hs73 (And.intro hs9 (And.intro hbw3 (And.intro hm3 (And.intro hi3 h))))))
    clear hup hno hok hs53 hs73 hs9 hbw3 hm3 hi3 h hbS hbw2 hb2 hs52 hs72 hm hi hle hbu hw
    cases hP1 : (P.within tries 1 9 && !(L.any noFate)) with
    | false =>
      have Hu := hide (show upP room l tries batch L st = ([], (0, 0, 0), 5, st) by rw [unhide Hup, hP1]; rfl)
      go_wp2_with fail
      refine (unhide Hno hP1).mono ?_
      rintro e W4 ⟨rfl, hb4⟩
      obtain ⟨hs53, hs73, hs9, hbw3, hm3, hi3, h⟩ := unhide H3
      have hbw4 := hbw3.trans (hb4.mono hbw3.size)
      have hs74 := (hb4.block _ (Array.getElem?_eq_some_iff.1 hs73).1).trans hs73
      have hz4 := hb4.size
      have c0 := cell_of_block (j := 0) hs74
      have c1 := cell_of_block (j := 1) hs74
      have c2 := cell_of_block (j := 2) hs74
      have f0 := free_block (j := 0) hs74
      have f1 := free_block (j := 1) hs74
      have f2 := free_block (j := 2) hs74
      simp only [List.getElem?_toArray, List.getElem?_cons_zero, List.getElem?_cons_succ] at c0 c1 c2
      have Hp := hide (And.intro h hbw4)
      clear Hno Hok hs53 hs73 hs9 hbw3 hm3 hi3 h H3 hb4 hbw4 hs74 hW3
      go_wp2_with fail
      refine bodyPost_ret (v := .tuple #[.string ⟨#[]⟩, .agg #[.int .i64 0, .int .i64 0, .int .i64 0], .int .i64 5]) ?qr rfl ?_
      case qr => simp [results, Tryz.results55, go_sem, c0, c1, c2]
      obtain ⟨hp, hbw4⟩ := unhide Hp
      have hF := (((Fr.below (S := fun x => x = pb ∨ x = um) hbw4).setNew (w.heap.size + 1) 0 (.int .i64 0) (by omega)).setNew (w.heap.size + 1) 1 (.int .i64 0) (by omega)).setNew (w.heap.size + 1) 2 (.int .i64 0) (by omega)
      refine up_err rfl (unhide Hu) ?_ hsum hF
      refine (hp.below hbw4 (Nat.le_refl _)).same (fun b hb => ?_)
      have hbl : b < w.heap.size := by rcases hb with rfl | rfl <;> assumption
      rw [Below.heap_setCell _ _ _ _ (by simp; omega), Below.heap_setCell _ _ _ _ (by simp; omega), Below.heap_setCell _ _ _ _ (by simp; omega)]
    | true =>
      have hwi := fun w' => within_any batch 1 5000 w' (by decide)
      have htr : 1 ≤ tries ∧ tries ≤ 9 := by
        rw [Bool.and_eq_true] at hP1
        have := hP1.1
        unfold P.within at this
        simpa using this
      obtain ⟨T, rfl⟩ : ∃ T : Nat, tries = (T : Int) := ⟨tries.toNat, by omega⟩
      rw [Int.toNat_natCast] at Hup
      go_wp2_with fail
      refine (unhide Hok hP1).mono ?_
      rintro e W4 ⟨rfl, hk4, hb4⟩
      obtain ⟨hs53, hs73, hs9, hbw3, hm3, hi3, h⟩ := unhide H3
      have hbw4 := hbw3.trans (hb4.mono hbw3.size)
      have hs54 := (hb4.block _ (Array.getElem?_eq_some_iff.1 hs53).1).trans hs53
      have hs74 := (hb4.block _ (Array.getElem?_eq_some_iff.1 hs73).1).trans hs73
      have hs94 := (hb4.block _ (Array.getElem?_eq_some_iff.1 hs9).1).trans hs9
      have hm4 := hm3.same (hb4.block bm hm3.lt)
      have hi4 := hi3.below hb4 (Nat.le_refl _)
      have hp4 := h.below hbw4 (Nat.le_refl _)
      have hz4 := hb4.size
      have p1 := cell_of_block (j := 1) hs54
      have d0 := cell_of_block (j := 0) hs94
      have d1 := cell_of_block (j := 1) hs94
      have c0 := cell_of_block (j := 0) hs74
      have c1 := cell_of_block (j := 1) hs74
      have c2 := cell_of_block (j := 2) hs74
      have f0 := free_block (j := 0) hs74
      have f1 := free_block (j := 1) hs74
      have f2 := free_block (j := 2) hs74
      simp only [List.getElem?_toArray, List.getElem?_cons_zero, List.getElem?_cons_succ] at p1 c0 c1 c2 d0 d1
      clear Hno Hok hs53 hs73 hs9 hbw3 hm3 hi3 h H3 hb4 hW3 p0 p2
      cases hP2 : P.within batch 1 5000 with
      | false =>
        rw [hP2] at hwi
        have Hu := hide (show upP room l (T : Int) batch L st = ([], (0, 0, 0), 5, st) by rw [unhide Hup, hP1, hP2]; rfl)
        have Hp := hide (And.intro hp4 hbw4)
        clear hp4 hbw4 hs54 hs74 hs94 hm4 hi4 hk4
        go_wp2_with (go_at_call 86; refine (hwi _).mono ?_; rintro e w' ⟨rfl, hw'⟩; rw [hw']; clear hw' w')
        refine bodyPost_ret (v := .tuple #[.string ⟨#[]⟩, .agg #[.int .i64 0, .int .i64 0, .int .i64 0], .int .i64 5]) ?qr rfl ?_
        case qr => simp [results, Tryz.results55, go_sem, c0, c1, c2]
        obtain ⟨hp, hbw4⟩ := unhide Hp
        have hF := (((Fr.below (S := fun x => x = pb ∨ x = um) hbw4).setNew (w.heap.size + 1) 0 (.int .i64 0) (by omega)).setNew (w.heap.size + 1) 1 (.int .i64 0) (by omega)).setNew (w.heap.size + 1) 2 (.int .i64 0) (by omega)
        refine up_err rfl (unhide Hu) ?_ hsum hF
        refine hp.same (fun b hb => ?_)
        have hbl : b < w.heap.size := by rcases hb with rfl | rfl <;> assumption
        rw [Below.heap_setCell _ _ _ _ (by simp; omega), Below.heap_setCell _ _ _ _ (by simp; omega), Below.heap_setCell _ _ _ _ (by simp; omega)]
      | true =>
        rw [hP2] at hwi
        have hbr : 1 ≤ batch ∧ batch ≤ 5000 := by unfold P.within at hP2; simpa using hP2
        have hbp := bring_prog (bs RT) bm nb (keptAll l) batch st pb um n (W3.heap.size + 1) room L a c T W4 hm4 hnb hkd hks hbr.1 hbr.2 hp4 hk4 hi4 (fun b o e hne => ⟨by have := hib b o e hne; omega, (hin b o e hne).1, (hin b o e hne).2⟩) hL (by omega) hn hsum hr0 hr
        unfold setV at hbp
        have Hup2 := hide (show upP room l (T : Int) batch L st = ((if (bringP room batch T L (listOf (keptAll l)) st).1 = 0 then RT else []), (bringP room batch T L (listOf (keptAll l)) st).2.2, (bringP room batch T L (listOf (keptAll l)) st).1, (bringP room batch T L (listOf (keptAll l)) st).2.1) by rw [unhide Hup, hP1, hP2]; rfl)
        have Hbp := hide hbp
        clear hbp hp4 hk4 hi4 hm4 Hup hkd hks
        generalize bringP room batch T L (listOf (keptAll l)) st = q at *
        obtain ⟨qe, qs, q1, q2, q3⟩ := q
        simp only at Hbp Hup2
        go_wp2_with (go_at_call 86; refine (hwi _).mono ?_; rintro e w' ⟨rfl, hw'⟩; rw [hw']; clear hw' w')
        refine (unhide Hbp).mono ?_
        rintro e W5 ⟨rfl, ⟨n5, hn5, hp5⟩, hs5, hk5, hf5⟩
        clear Hbp p1 d0 d1 c0 c1 c2 f0 f1 f2
        have hz2 : w.heap.size + 1 < W2.heap.size := hlt7
        have hs75 := (hf5.block (w.heap.size + 1) (Array.getElem?_eq_some_iff.1 hs74).1 (by omega)).trans hs74
        have hs95 := (hf5.block W2.heap.size (Array.getElem?_eq_some_iff.1 hs94).1 (by omega)).trans hs94
        have hfw5 : Fr (fun x => x = pb ∨ x = um) w W5 := Fr.widen hbw4 hf5 (fun x hx hS => by omega)
        have d0 := cell_of_block (j := 0) hs95
        have c0 := cell_of_block (j := 0) hs75
        have c1 := cell_of_block (j := 1) hs75
        have c2 := cell_of_block (j := 2) hs75
        have f0 := free_block (j := 0) hs75
        have f1 := free_block (j := 1) hs75
        have f2 := free_block (j := 2) hs75
        have k0 : W5.cell? ⟨W3.heap.size + 1, 0, none⟩ = some (.int .i64 (q1 : Int)) := cell_of_block (j := 0) hk5
        have k1 : W5.cell? ⟨W3.heap.size + 1, 1, none⟩ = some (.int .i64 (q2 : Int)) := cell_of_block (j := 1) hk5
        have k2 : W5.cell? ⟨W3.heap.size + 1, 2, none⟩ = some (.int .i64 (q3 : Int)) := cell_of_block (j := 2) hk5
        simp only [List.getElem?_toArray, List.getElem?_cons_zero, List.getElem?_cons_succ] at c0 c1 c2 d0
        have HP := hide (And.intro hp5 (And.intro hs5 hfw5))
        clear hp5 hs5 hfw5 hf5 hk5 hs75 hs95 hs74 hs94 hs54 hbw4
        by_cases hq : qe = 0
        · subst hq
          have Hu := hide (show upP room l (T : Int) batch L st = (RT, (q1, q2, q3), 0, qs) by rw [unhide Hup2]; rfl)
          go_wp2_with fail
          go_region
          go_wp2_with fail
          refine bodyPost_ret (v := .tuple #[.string (bs RT), .agg #[.int .i64 (q1 : Int), .int .i64 (q2 : Int), .int .i64 (q3 : Int)], .int .i64 0]) ?qr rfl ?_
          case qr => simp [results, Tryz.results55, go_sem, c0, c1, c2]
          obtain ⟨hp5, hs5, hfw5⟩ := unhide HP
          have hF := ((hfw5.setNew (w.heap.size + 1) 0 (.int .i64 (q1 : Int)) (by omega)).setNew (w.heap.size + 1) 1 (.int .i64 (q2 : Int)) (by omega)).setNew (w.heap.size + 1) 2 (.int .i64 (q3 : Int)) (by omega)
          show UpEnd room l (T : Int) batch L st pb um n w _ _
          unfold UpEnd
          rw [unhide Hu]
          refine ⟨rfl, ⟨n5, hn5, ?_⟩, hs5, ⟨hF.os, hF.tape, hF.output, hF.size, hF.block⟩⟩
          refine hp5.same (fun b hb => ?_)
          have hbl : b < w.heap.size := by rcases hb with rfl | rfl <;> assumption
          show (((W5.setCell ⟨w.heap.size + 1, 0, none⟩ (.int .i64 (q1 : Int))).setCell ⟨w.heap.size + 1, 1, none⟩ (.int .i64 (q2 : Int))).setCell ⟨w.heap.size + 1, 2, none⟩ (.int .i64 (q3 : Int))).heap[b]? = _
          rw [Below.heap_setCell _ _ _ _ (by simp; omega), Below.heap_setCell _ _ _ _ (by simp; omega), Below.heap_setCell _ _ _ _ (by simp; omega)]
        · have b0 : (qe == 0) = false := by simpa using hq
          have Hu := hide (show upP room l (T : Int) batch L st = ([], (q1, q2, q3), qe, qs) by rw [unhide Hup2, if_neg hq])
          go_wp2_with fail
          go_region
          go_wp2_with fail
          refine bodyPost_ret (v := .tuple #[.string ⟨#[]⟩, .agg #[.int .i64 (q1 : Int), .int .i64 (q2 : Int), .int .i64 (q3 : Int)], .int .i64 qe]) ?qr rfl ?_
          case qr => simp [results, Tryz.results55, go_sem, c0, c1, c2]
          obtain ⟨hp5, hs5, hfw5⟩ := unhide HP
          have hF := ((hfw5.setNew (w.heap.size + 1) 0 (.int .i64 (q1 : Int)) (by omega)).setNew (w.heap.size + 1) 1 (.int .i64 (q2 : Int)) (by omega)).setNew (w.heap.size + 1) 2 (.int .i64 (q3 : Int)) (by omega)
          show UpEnd room l (T : Int) batch L st pb um n w _ _
          unfold UpEnd
          rw [unhide Hu]
          refine ⟨rfl, ⟨n5, hn5, ?_⟩, hs5, ⟨hF.os, hF.tape, hF.output, hF.size, hF.block⟩⟩
          refine hp5.same (fun b hb => ?_)
          have hbl : b < w.heap.size := by rcases hb with rfl | rfl <;> assumption
          show (((W5.setCell ⟨w.heap.size + 1, 0, none⟩ (.int .i64 (q1 : Int))).setCell ⟨w.heap.size + 1, 1, none⟩ (.int .i64 (q2 : Int))).setCell ⟨w.heap.size + 1, 2, none⟩ (.int .i64 (q3 : Int))).heap[b]? = _
          rw [Below.heap_setCell _ _ _ _ (by simp; omega), Below.heap_setCell _ _ _ _ (by simp; omega), Below.heap_setCell _ _ _ _ (by simp; omega)]
end Go.Proofs.YtjmacegibchplaaGreatDoor
