import Derived.Test.YtjmacegibchplaaGreatDoorReadB
import Derived.Deep.DeepCutAuto
import Derived.Deep.RegionHeld3
import Derived.Deep.DrawnRows
namespace Go.Proofs.YtjmacegibchplaaGreatDoor
open Go.RowKit
set_option linter.unusedVariables false
def refPlain (kd : Int) (dg : ByteArray) (sz : Int) (tg : ByteArray) : Bool :=
  decide (0 ≤ kd) && decide (kd ≤ 2) && P.isDigest dg.data.toList && tg.toList.isEmpty && decide (0 ≤ sz) && decide (sz ≤ 2000)
def refLink (kd : Int) (dg : ByteArray) (sz : Int) (tg : ByteArray) : Bool :=
  (kd == 3) && P.isTarget tg.data.toList && dg.toList.isEmpty && (sz == 0)
theorem itemOk_ref (nm : ByteArray) (kd : Int) (dg : ByteArray) (sz : Int) (tg : ByteArray) :
    P.itemOk ⟨nm, kd, dg, sz, tg⟩ = (P.isName nm.data.toList && (refPlain kd dg sz tg || refLink kd dg sz tg)) := by
  unfold P.itemOk P.plainOk P.linkOk refPlain refLink P.within P.shape
  congr 1
  by_cases h0 : kd = 0
  · subst h0; simp [Bool.and_comm, Bool.and_left_comm, Bool.and_assoc, Bool.decide_and]
  by_cases h1 : kd = 1
  · subst h1; simp [Bool.and_comm, Bool.and_left_comm, Bool.and_assoc, Bool.decide_and]
  by_cases h2 : kd = 2
  · subst h2; simp [Bool.and_comm, Bool.and_left_comm, Bool.and_assoc, Bool.decide_and]
  by_cases h3 : kd = 3
  · subst h3; simp
  have : ¬ (0 ≤ kd ∧ kd ≤ 2) := by omega
  have e : (decide (0 ≤ kd) && decide (kd ≤ 2)) = false := by rw [← Bool.decide_and]; exact decide_eq_false this
  simp [h0, h1, h2, h3, e]
theorem refDirectory_nil (a : Option Addr) (c : Nat) (w : World) :
    Calls Tryz.prog 157 #[.slice a 0 c] w fun e w' => e = .returned (.bool true) ∧ w' = w := by
  go_enter Tryz.func157, Tryz.ntmps157
  go_wp2
  refine wp_loop_rounds 1 ?_
  rw [rounds_succ]
  go_wp2
  go_ret
  exact ⟨rfl, rfl⟩
set_option maxRecDepth 100000 in
set_option maxHeartbeats 2000000 in
theorem refDirectory_some (l : List P.It) (b o c : Nat) (w : World) (hl : l.length ≤ maxLen) (hi : ItemsAt w b o l) (hf : FitAll l) :
    Calls Tryz.prog 157 #[.slice (some ⟨b, o, none⟩) l.length c] w fun e w' => e = .returned (.bool (dirOk l)) ∧ Below w.heap.size w w' := by
  unfold maxLen at hl
  by_cases h40 : (40 : Int) < (l.length : Int)
  · go_enter Tryz.func157, Tryz.ntmps157
    go_wp2
    go_ret
    exact ⟨ret_bool (by simp [dirOk]; omega), Below.refl _ _⟩
  have g40 : decide ((40 : Int) < (l.length : Int)) = false := by simpa using h40
  go_enter Tryz.func157, Tryz.ntmps157
  go_wp2
  go_loopw [3] (fun i wr => ∃ k : Nat, k ≤ l.length ∧ i = .int .i64 k ∧ Below w.heap.size w wr ∧ okTo l k = true) (fun i _ => l.length - (intOf i).toNat)
  case atStart => exact ⟨0, Nat.zero_le _, rfl, Below.refl _ _, rfl⟩
  case round =>
    obtain ⟨k, hk, rfl, hbel, hok⟩ := hrel
    have Hok := hide hok
    clear hok
    by_cases hlt : k < l.length
    · obtain ⟨x, hx⟩ : ∃ x, l[k] = x := ⟨_, rfl⟩
      obtain ⟨nm, kd, dg, sz, tg⟩ := x
      obtain ⟨c0, c1, c2, c3, c4⟩ := (hi k hlt).below hbel (hi k hlt).lt
      obtain ⟨f0, f1, f2⟩ := hf k hlt
      rw [hx] at c0 c1 c2 c3 c4 f0 f1 f2
      have Hx := hide hx
      clear hx
      simp only at c0 c1 c2 c3 c4 f0 f1 f2
      go_wp2_with fail
      refine (refName nm _ f0).mono ?_
      rintro e w2 ⟨rfl, hw2⟩
      subst hw2
      generalize hnb : P.isName nm.data.toList = nb
      have Hnb := hide hnb
      clear hnb
      go_wp2_with fail
      refine (refDigestIs dg _ f1).mono ?_
      rintro e w2 ⟨rfl, hw2⟩
      subst hw2
      go_wp2_with fail
      refine (refTarget tg _ f2).mono ?_
      rintro e w2 ⟨rfl, hw2⟩
      subst hw2
      clear c0 c1 c2 c3 c4
      have hbW := hbel.alloc hbel.size (.cells #[.string nm, .int .i64 kd, .string dg, .int .i64 sz, .string tg] 47)
      obtain ⟨d0, d1, d2, d3, d4⟩ := (Box.new wr nm kd dg sz tg).cells
      generalize wr.alloc (.cells #[.string nm, .int .i64 kd, .string dg, .int .i64 sz, .string tg] 47) = W at *
      generalize wr.heap.size = q at *
      go_upto_region 10 with fail
      go_cut [6, 8] (fun s6 s8 wx => s6 = .bool (P.isDigest dg.data.toList) ∧ s8 = .bool (refPlain kd dg sz tg) ∧ W = wx)
      case first =>
        go_wp2_with fail
        all_goals go_meet
        all_goals (refine ⟨?_, ?_, rfl⟩)
        all_goals (clear d0 d1 d2 d3 d4)
        all_goals (try unfold refPlain)
        all_goals (first | (simp_all; done) | (simp_all; intros; omega))
      case rest =>
        obtain ⟨h6, h8, hwc⟩ := hcut
        subst hwc
        subst h6
        subst h8
        generalize hpb : refPlain kd dg sz tg = pb
        have Hpb := hide hpb
        clear hpb
        go_upto_region 11 with fail
        go_cut [7, 9] (fun s7 s9 wx => s7 = .bool (P.isTarget tg.data.toList) ∧ s9 = .bool (refLink kd dg sz tg) ∧ W = wx)
        case first =>
          go_wp2_with fail
          all_goals go_meet
          all_goals (refine ⟨?_, ?_, rfl⟩)
          all_goals (clear d0 d1 d2 d3 d4)
          all_goals (try unfold refLink)
          all_goals (first | (simp_all; done) | (simp_all; intros; omega))
        case rest =>
          obtain ⟨h7, h9, hwc⟩ := hcut
          subst hwc
          subst h7
          subst h9
          generalize hlb : refLink kd dg sz tg = lb
          have Hlb := hide hlb
          clear hlb
          clear d1 d2 d3 d4
          have Hit := hide (itemOk_ref nm kd dg sz tg)
          rw [unhide Hpb, unhide Hlb, unhide Hnb] at Hit
          rcases Nat.eq_zero_or_pos k with h0 | hp
          · subst h0
            have Hz := hide (fun hy => okAt_zero l hlt (by rw [unhide Hx]; exact hy))
            have Hn := hide (fun hy => okAt_no l 0 hlt (by rw [unhide Hx]; exact hy))
            rw [unhide Hit] at Hz Hn
            clear Hit
            rcases (show nb = false ∨ (nb = true ∧ pb = true) ∨ (nb = true ∧ pb = false ∧ lb = true) ∨ (nb = true ∧ pb = false ∧ lb = false) by cases nb <;> cases pb <;> cases lb <;> simp) with rfl | ⟨rfl, rfl⟩ | ⟨rfl, rfl, rfl⟩ | ⟨rfl, rfl, rfl⟩
            all_goals
              go_wp2_with fail
              go_quiet (fail)
              go_wp2
            all_goals first
              | (go_ret; exact ⟨ret_bool (dirOk_at l 0 hlt (unhide Hn rfl)).symm, below_drewN hbW _⟩)
              | (go_roundw
                 case rel => exact ⟨1, by omega, rfl, below_drewN hbW _, by rw [okTo_succ, unhide Hok, unhide Hz rfl]; rfl⟩
                 case measure => simp [intOf]; omega)
          · obtain ⟨j, rfl⟩ : ∃ j, k = j + 1 := ⟨k - 1, by omega⟩
            have hj : j < l.length := by omega
            have hj' : (j : Int) < (l.length : Int) := by omega
            have gj : decide ((0 : Int) < (j : Int) + 1) = true := by simp
            obtain ⟨p0, -⟩ := (hi j hj).below hbW (hi j hj).lt
            have Hz := hide (fun hy => okAt_succ l j hlt hj (by rw [unhide Hx]; exact hy))
            have Hn := hide (fun hy => okAt_no l (j + 1) hlt (by rw [unhide Hx]; exact hy))
            rw [unhide Hit] at Hz Hn
            rw [unhide Hx] at Hz
            clear Hit
            generalize l[j].name = pn at *
            rcases (show nb = false ∨ (nb = true ∧ pb = true) ∨ (nb = true ∧ pb = false ∧ lb = true) ∨ (nb = true ∧ pb = false ∧ lb = false) by cases nb <;> cases pb <;> cases lb <;> simp) with rfl | ⟨rfl, rfl⟩ | ⟨rfl, rfl, rfl⟩ | ⟨rfl, rfl, rfl⟩
            all_goals
              go_wp2_with fail
              go_quiet (fail)
              go_wp2
            all_goals first
              | (go_ret; exact ⟨ret_bool (dirOk_at l (j + 1) hlt (unhide Hn rfl)).symm, below_drewN hbW _⟩)
              | (have hn : (!Op.bytesLess pn.toList nm.toList) = true := by assumption
                 go_ret
                 refine ⟨ret_bool (dirOk_at l (j + 1) hlt ?_).symm, below_drewN hbW _⟩
                 rw [unhide Hz rfl]; simpa using hn)
              | (have hn : (!Op.bytesLess pn.toList nm.toList) = false := by assumption
                 go_roundw
                 case rel =>
                   refine ⟨j + 1 + 1, by omega, by go_num, below_drewN hbW _, ?_⟩
                   rw [okTo_succ, unhide Hok, unhide Hz rfl]; simpa using hn
                 case measure => simp [intOf]; omega)
    · obtain rfl : k = l.length := by omega
      go_wp2
      go_ret
      exact ⟨ret_bool (by unfold dirOk; rw [unhide Hok, decide_eq_true (by omega)]; rfl), hbel⟩
theorem refDirectory_any (l : List P.It) (a : Option Addr) (c : Nat) (w : World) (hl : l.length ≤ maxLen) (hi : Lies w a l) (hf : FitAll l) :
    Calls Tryz.prog 157 #[.slice a l.length c] w fun e w' => e = .returned (.bool (dirOk l)) ∧ Below w.heap.size w w' := by
  rcases hi with rfl | ⟨b, o, rfl, h⟩
  · refine (refDirectory_nil a c w).mono ?_
    rintro e w' ⟨rfl, rfl⟩
    exact ⟨rfl, Below.refl _ _⟩
  · exact refDirectory_some l b o c w hl h hf
attribute [local go_sem ↓] Go.wp_at_zero Go.wp_at_succ
theorem refOne_at (n : Int) (h0 : 0 ≤ n) (hn : n < 256) (w : World) :
  Calls Tryz.prog 111 #[.int .i64 n] w fun e w' => e = .returned (.string ⟨#[UInt8.ofNat n.toNat]⟩) ∧ w' = w.alloc (.cells #[.int .u8 n] 5) := by
 have hcv := conv_one w
 go_enter Tryz.func111, Tryz.ntmps111
 go_wp2
 go_ret
 exact ⟨ret_string (by simp [strOfNums]), rfl⟩
theorem cat_eq (l : List UInt8) (b : ByteArray) : ((⟨l.toArray⟩ : ByteArray) ++ b) = ⟨(l ++ b.data.toList).toArray⟩ := by
 apply ByteArray.ext
 apply Array.ext'
 simp
theorem size_byte (c : UInt8) : (⟨#[c]⟩ : ByteArray).size ≤ 100000 := by show 1 ≤ 100000; omega
theorem size_snoc (s : ByteArray) (c : UInt8) : (s ++ ⟨#[c]⟩).size = s.size + 1 := by rw [ByteArray.size_append]; rfl
theorem add_ok (a b : ByteArray) (ha : a.size ≤ 100000) (hb : b.size ≤ 100000) : ∀ w, (Op.stringOp .add a b).run Tryz.prog w = .ok (.string (a ++ b)) w := fun w => run_string_add_sum w a b (by omega)
set_option maxRecDepth 100000 in
set_option maxHeartbeats 2000000 in
theorem refEncode_any (l : List P.It) (a : Option Addr) (c : Nat) (w : World) (hi : Lies w a l) (hd : dirOk l = true) :
  Calls Tryz.prog 73 #[.slice a l.length c] w fun e w' => e = .returned (.string ⟨(dirBytes l).toArray⟩) ∧ Below w.heap.size w w' := by
 have h40 := len_of_dirOk l hd
 have hsane : ∀ x ∈ l, Sane x := fun x hx => by
  obtain ⟨k, hk, rfl⟩ := List.getElem_of_mem hx
  exact sane_of_ok _ (ok_of_dirOk l hd k hk)
 have hlen : ∀ k, (itemsBytes (l.take k)).length ≤ 2400 := fun k => by
  have h1 := itemsBytes_len (l.take k) (fun x hx => hsane x (List.mem_of_mem_take hx))
  have h2 : (l.take k).length ≤ l.length := by simp; omega
  omega
 clear hd
 go_enter Tryz.func73, Tryz.ntmps73
 go_wp2_with fail
 refine (refOne_at _ (by omega) (by omega) _).mono ?_
 rintro e w1 ⟨rfl, hw1⟩
 subst hw1
 rw [Int.toNat_natCast]
 go_wp2_with fail
 go_loopw [3, 4] (fun s i wr => ∃ k : Nat, k ≤ l.length ∧ i = .int .i64 k ∧ s = .string ⟨(84 :: UInt8.ofNat l.length :: itemsBytes (l.take k)).toArray⟩ ∧ Below w.heap.size w wr) (fun _ i _ => l.length - (intOf i).toNat)
 case atStart => exact ⟨0, Nat.zero_le _, rfl, by congr 1, (Below.refl _ _).alloc (Nat.le_refl _) _⟩
 case round =>
  obtain ⟨k, hk, rfl, rfl, hbel⟩ := hrel
  by_cases hlt : k < l.length
  ·obtain ⟨b, o, rfl, hit⟩ : ∃ b o, a = some ⟨b, o, none⟩ ∧ ItemsAt w b o l := by
    rcases hi with h | h
    ·subst h; simp at hlt
    ·exact h
   obtain ⟨x, hx⟩ : ∃ x, l[k] = x := ⟨_, rfl⟩
   have hsx := hsane x (by rw [← hx]; exact List.getElem_mem hlt)
   obtain ⟨c0, c1, c2, c3, c4⟩ := (hit k hlt).below hbel (hit k hlt).lt
   rw [hx] at c0 c1 c2 c3 c4
   have Hx := hide hx
   clear hx
   obtain ⟨nm, kd, dg, sz, tg⟩ := x
   obtain ⟨k0, k3, h1, h2, h3, s0, s1⟩ := hsx
   simp only at c0 c1 c2 c3 c4 k0 k3 h1 h2 h3 s0 s1
   have hl' := hlen k
   have hsz := hbel.size
   have Hstep := hide (show (⟨(84 :: UInt8.ofNat l.length :: itemsBytes (l.take (k + 1))).toArray⟩ : ByteArray) = ⟨((84 :: UInt8.ofNat l.length :: itemsBytes (l.take k)) ++ itemBytes ⟨nm, kd, dg, sz, tg⟩).toArray⟩ by
    rw [take_snoc_it l k hlt, itemsBytes_snoc, unhide Hx]; rfl)
   have hss : (⟨(84 :: UInt8.ofNat l.length :: itemsBytes (l.take k)).toArray⟩ : ByteArray).size ≤ 3000 := by
    simp [ByteArray.size]; omega
   generalize hS : (⟨(84 :: UInt8.ofNat l.length :: itemsBytes (l.take k)).toArray⟩ : ByteArray) = S at *
   have HS := hide hS
   clear hS hl'
   go_upto_region 6 with fail
   have hbW := hbel.alloc hbel.size (.cells #[.string nm, .int .i64 kd, .string dg, .int .i64 sz, .string tg] 47)
   have hq : wr.heap.size < (wr.alloc (.cells #[.string nm, .int .i64 kd, .string dg, .int .i64 sz, .string tg] 47)).heap.size := by simp
   obtain ⟨d0, d1, d2, d3, d4⟩ := (Box.new wr nm kd dg sz tg).cells
   clear c0 c1 c2 c3 c4
   generalize wr.alloc (.cells #[.string nm, .int .i64 kd, .string dg, .int .i64 sz, .string tg] 47) = W at *
   generalize wr.heap.size = q at *
   have n0 : ¬ q = W.heap.size := by omega
   have n1 : ¬ q = W.heap.size + 1 := by omega
   have z1 := size_snoc S (UInt8.ofNat kd.toNat)
   have z2 := size_snoc (S ++ ⟨#[UInt8.ofNat kd.toNat]⟩) (UInt8.ofNat nm.size)
   have a1 := add_ok S ⟨#[UInt8.ofNat kd.toNat]⟩ (by omega) (size_byte _)
   have a2 := add_ok (S ++ ⟨#[UInt8.ofNat kd.toNat]⟩) ⟨#[UInt8.ofNat nm.size]⟩ (by omega) (size_byte _)
   have a3 := add_ok (S ++ ⟨#[UInt8.ofNat kd.toNat]⟩ ++ ⟨#[UInt8.ofNat nm.size]⟩) nm (by omega) (by omega)
   clear z1 z2
   go_cut [3] (fun s wx => s = .string (S ++ ⟨#[UInt8.ofNat kd.toNat]⟩ ++ ⟨#[UInt8.ofNat nm.size]⟩ ++ nm) ∧ Below W.heap.size W wx)
   case first =>
    go_region_held3 (fun w' => w'.cell? ⟨q, 0, none⟩ = some (.string nm) ∧ w'.cell? ⟨q, 1, none⟩ = some (.int .i64 kd)) (go_keep) ((go_at_call 111; refine (refOne_at _ (by omega) (by omega) _).mono ?_; rintro e w' ⟨rfl, rfl⟩))
    go_wp2_with fail
    go_meet
    exact ⟨rfl, (((Below.refl _ _).alloc (Nat.le_refl _) _).alloc (by simp) _).drew⟩
   case rest =>
    obtain ⟨hs3, hbx⟩ := hcut
    subst hs3
    have e3 := hbx.cell (p := ⟨q, 3, none⟩) hq
    have e4 := hbx.cell (p := ⟨q, 4, none⟩) hq
    have e2 := hbx.cell (p := ⟨q, 2, none⟩) hq
    have e1 := hbx.cell (p := ⟨q, 1, none⟩) hq
    rw [d1] at e1
    rw [d2] at e2
    rw [d3] at e3
    rw [d4] at e4
    have hbw := hbW.trans (hbx.mono hbW.size)
    have hqc := Nat.lt_of_lt_of_le hq hbx.size
    clear a1 a2 a3 d0 d1 d2 d3 d4 n0 n1
    have hts : (S ++ ⟨#[UInt8.ofNat kd.toNat]⟩ ++ ⟨#[UInt8.ofNat nm.size]⟩ ++ nm).size ≤ 4000 := by
     rw [ByteArray.size_append, size_snoc, size_snoc]; omega
    have HT := hide (show S ++ ⟨#[UInt8.ofNat kd.toNat]⟩ ++ ⟨#[UInt8.ofNat nm.size]⟩ ++ nm = ⟨((84 :: UInt8.ofNat l.length :: itemsBytes (l.take k)) ++ (UInt8.ofNat kd.toNat :: UInt8.ofNat nm.size :: nm.data.toList)).toArray⟩ by
     rw [← unhide HS, cat_eq, cat_eq, cat_eq]; simp)
    generalize S ++ ⟨#[UInt8.ofNat kd.toNat]⟩ ++ ⟨#[UInt8.ofNat nm.size]⟩ ++ nm = T at *
    have n0 : ¬ q = wc.heap.size := by omega
    have n1 : ¬ q = wc.heap.size + 1 := by omega
    by_cases h3k : kd = 3
    ·subst h3k
     have z1 := size_snoc T (UInt8.ofNat tg.size)
     have a1 := add_ok T ⟨#[UInt8.ofNat tg.size]⟩ (by omega) (size_byte _)
     have a2 := add_ok (T ++ ⟨#[UInt8.ofNat tg.size]⟩) tg (by omega) (by omega)
     clear z1
     go_upto_region 8 with fail
     go_region_held3 (fun w' => w'.cell? ⟨q, 4, none⟩ = some (.string tg)) (go_keep) ((go_at_call 111; refine (refOne_at _ (by omega) (by omega) _).mono ?_; rintro e w' ⟨rfl, rfl⟩))
     go_wp2_with fail
     go_roundw
     case rel =>
      refine ⟨k + 1, by omega, by go_num, ?_, (hbw.alloc hbw.size _).drew⟩
      congr 1
      rw [unhide Hstep, unhide HT, cat_eq, cat_eq]
      simp [itemBytes]
     case measure => simp [intOf]; omega
    ·have b3 : (kd == 3) = false := by simp [h3k]
     have z0 : (T ++ dg).size = T.size + dg.size := ByteArray.size_append
     have z1 := size_snoc (T ++ dg) (UInt8.ofNat (sz % 256).toNat)
     have a1 := add_ok T dg (by omega) (by omega)
     have a2 := add_ok (T ++ dg) ⟨#[UInt8.ofNat (sz % 256).toNat]⟩ (by omega) (size_byte _)
     have a3 := add_ok (T ++ dg ++ ⟨#[UInt8.ofNat (sz % 256).toNat]⟩) ⟨#[UInt8.ofNat (sz / 256).toNat]⟩ (by omega) (size_byte _)
     have H3 := hide h3k
     have m1 : sz.tmod 256 = sz % 256 := Int.tmod_eq_emod_of_nonneg s0
     have m2 : sz.tdiv 256 = sz / 256 := Int.tdiv_eq_ediv_of_nonneg s0
     have m3 : IntKind.i64.wrap (sz / 256) = sz / 256 := by rw [IntKind.wrap_i64]; omega
     clear z0 z1 h3k
     go_upto_region 9 with fail
     go_region_held3 (fun w' => w'.cell? ⟨q, 2, none⟩ = some (.string dg) ∧ w'.cell? ⟨q, 3, none⟩ = some (.int .i64 sz)) (go_keep) ((go_at_call 111; refine (refOne_at _ (by omega) (by omega) _).mono ?_; rintro e w' ⟨rfl, rfl⟩))
     go_wp2_with fail
     go_roundw
     case rel =>
      refine ⟨k + 1, by omega, by go_num, ?_, ((hbw.alloc hbw.size _).alloc (by simp; exact Nat.le_trans hbw.size (Nat.le_succ _)) _).drew⟩
      congr 1
      rw [unhide Hstep, unhide HT, cat_eq, cat_eq, cat_eq]
      simp [itemBytes, unhide H3]
     case measure => simp [intOf]; omega
  ·obtain rfl : k = l.length := by omega
   go_wp2_with fail
   go_ret
   exact ⟨ret_string (by rw [List.take_length]; rfl), hbel⟩
end Go.Proofs.YtjmacegibchplaaGreatDoor