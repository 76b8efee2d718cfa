/-
  The document's test of a directory (the statements' own): its contract.
-/
import Derived.Test.YtjmacegibchplaaGreatDoorEncB
import Derived.Deep.DeepCutAuto
namespace Go.Proofs.YtjmacegibchplaaGreatDoor
open Go.RowKit
set_option linter.unusedVariables false

def refPlain (kd : Int) (dg : ByteArray) (sz : Int) (tg : ByteArray) : Bool :=
  decide (0 ≤ kd) && decide (kd ≤ 2) && P.isDigest dg.data.toList && tg.toList.isEmpty && decide (0 ≤ sz) && decide (sz ≤ 2000)
def refLink (kd : Int) (dg : ByteArray) (sz : Int) (tg : ByteArray) : Bool :=
  (kd == 3) && P.isTarget tg.data.toList && dg.toList.isEmpty && (sz == 0)
theorem itemOk_ref (nm : ByteArray) (kd : Int) (dg : ByteArray) (sz : Int) (tg : ByteArray) :
    P.itemOk ⟨nm, kd, dg, sz, tg⟩ = (P.isName nm.data.toList && (refPlain kd dg sz tg || refLink kd dg sz tg)) := by
  unfold P.itemOk P.plainOk P.linkOk refPlain refLink P.within P.shape
  congr 1
  by_cases h0 : kd = 0
  · subst h0; simp [Bool.and_comm, Bool.and_left_comm, Bool.and_assoc, Bool.decide_and]
  by_cases h1 : kd = 1
  · subst h1; simp [Bool.and_comm, Bool.and_left_comm, Bool.and_assoc, Bool.decide_and]
  by_cases h2 : kd = 2
  · subst h2; simp [Bool.and_comm, Bool.and_left_comm, Bool.and_assoc, Bool.decide_and]
  by_cases h3 : kd = 3
  · subst h3; simp
  have : ¬ (0 ≤ kd ∧ kd ≤ 2) := by omega
  have e : (decide (0 ≤ kd) && decide (kd ≤ 2)) = false := by rw [← Bool.decide_and]; exact decide_eq_false this
  simp [h0, h1, h2, h3, e]

theorem refDirectory_nil (a : Option Addr) (c : Nat) (w : World) :
    Calls Tryz.prog 157 #[.slice a 0 c] w fun e w' => e = .returned (.bool true) ∧ w' = w := by
  go_enter Tryz.func157, Tryz.ntmps157
  go_wp2
  refine wp_loop_rounds 1 ?_
  rw [rounds_succ]
  go_wp2
  go_ret
  exact ⟨rfl, rfl⟩
set_option maxRecDepth 100000 in
set_option maxHeartbeats 2000000 in
theorem refDirectory_some (l : List P.It) (b o c : Nat) (w : World) (hl : l.length ≤ maxLen) (hi : ItemsAt w b o l) (hf : FitAll l) :
    Calls Tryz.prog 157 #[.slice (some ⟨b, o, none⟩) l.length c] w fun e w' => e = .returned (.bool (dirOk l)) ∧ Below w.heap.size w w' := by
  unfold maxLen at hl
  by_cases h40 : (40 : Int) < (l.length : Int)
  · go_enter Tryz.func157, Tryz.ntmps157
    go_wp2
    go_ret
    exact ⟨ret_bool (by simp [dirOk]; omega), Below.refl _ _⟩
  have g40 : decide ((40 : Int) < (l.length : Int)) = false := by simpa using h40
  go_enter Tryz.func157, Tryz.ntmps157
  go_wp2
  go_loopw [3] (fun i wr => ∃ k : Nat, k ≤ l.length ∧ i = .int .i64 k ∧ Below w.heap.size w wr ∧ okTo l k = true) (fun i _ => l.length - (intOf i).toNat)
  case atStart => exact ⟨0, Nat.zero_le _, rfl, Below.refl _ _, rfl⟩
  case round =>
    obtain ⟨k, hk, rfl, hbel, hok⟩ := hrel
    have Hok := hide hok
    clear hok
    by_cases hlt : k < l.length
    · obtain ⟨x, hx⟩ : ∃ x, l[k] = x := ⟨_, rfl⟩
      obtain ⟨nm, kd, dg, sz, tg⟩ := x
      obtain ⟨c0, c1, c2, c3, c4⟩ := (hi k hlt).below hbel (hi k hlt).lt
      obtain ⟨f0, f1, f2⟩ := hf k hlt
      rw [hx] at c0 c1 c2 c3 c4 f0 f1 f2
      have Hx := hide hx
      clear hx
      simp only at c0 c1 c2 c3 c4 f0 f1 f2
      go_wp2_with fail
      refine (refName nm _ f0).mono ?_
      rintro e w2 ⟨rfl, hw2⟩
      subst hw2
      generalize hnb : P.isName nm.data.toList = nb
      have Hnb := hide hnb
      clear hnb
      go_wp2_with fail
      refine (refDigestIs dg _ f1).mono ?_
      rintro e w2 ⟨rfl, hw2⟩
      subst hw2
      go_wp2_with fail
      refine (refTarget tg _ f2).mono ?_
      rintro e w2 ⟨rfl, hw2⟩
      subst hw2
      clear c0 c1 c2 c3 c4
      have hbW := hbel.alloc hbel.size (.cells #[.string nm, .int .i64 kd, .string dg, .int .i64 sz, .string tg] 47)
      obtain ⟨d0, d1, d2, d3, d4⟩ := (Box.new wr nm kd dg sz tg).cells
      generalize wr.alloc (.cells #[.string nm, .int .i64 kd, .string dg, .int .i64 sz, .string tg] 47) = W at *
      generalize wr.heap.size = q at *
      go_upto_region 10 with fail
      go_cut [6, 8] (fun s6 s8 wx => s6 = .bool (P.isDigest dg.data.toList) ∧ s8 = .bool (refPlain kd dg sz tg) ∧ W = wx)
      case first =>
        go_wp2_with fail
        all_goals go_meet
        all_goals (refine ⟨?_, ?_, rfl⟩)
        all_goals (clear d0 d1 d2 d3 d4)
        all_goals (try unfold refPlain)
        all_goals (first | (simp_all; done) | (simp_all; intros; omega))
      case rest =>
        obtain ⟨h6, h8, hwc⟩ := hcut
        subst hwc
        subst h6
        subst h8
        generalize hpb : refPlain kd dg sz tg = pb
        have Hpb := hide hpb
        clear hpb
        go_upto_region 11 with fail
        go_cut [7, 9] (fun s7 s9 wx => s7 = .bool (P.isTarget tg.data.toList) ∧ s9 = .bool (refLink kd dg sz tg) ∧ W = wx)
        case first =>
          go_wp2_with fail
          all_goals go_meet
          all_goals (refine ⟨?_, ?_, rfl⟩)
          all_goals (clear d0 d1 d2 d3 d4)
          all_goals (try unfold refLink)
          all_goals (first | (simp_all; done) | (simp_all; intros; omega))
        case rest =>
          obtain ⟨h7, h9, hwc⟩ := hcut
          subst hwc
          subst h7
          subst h9
          generalize hlb : refLink kd dg sz tg = lb
          have Hlb := hide hlb
          clear hlb
          clear d1 d2 d3 d4
          have Hit := hide (itemOk_ref nm kd dg sz tg)
          rw [unhide Hpb, unhide Hlb, unhide Hnb] at Hit
          rcases Nat.eq_zero_or_pos k with h0 | hp
          · subst h0
            have Hz := hide (fun hy => okAt_zero l hlt (by rw [unhide Hx]; exact hy))
            have Hn := hide (fun hy => okAt_no l 0 hlt (by rw [unhide Hx]; exact hy))
            rw [unhide Hit] at Hz Hn
            clear Hit
            rcases (show nb = false ∨ (nb = true ∧ pb = true) ∨ (nb = true ∧ pb = false ∧ lb = true) ∨ (nb = true ∧ pb = false ∧ lb = false) by cases nb <;> cases pb <;> cases lb <;> simp) with rfl | ⟨rfl, rfl⟩ | ⟨rfl, rfl, rfl⟩ | ⟨rfl, rfl, rfl⟩
            all_goals
              go_wp2_with fail
              go_quiet (fail)
              go_wp2
            all_goals first
              | (go_ret; exact ⟨ret_bool (dirOk_at l 0 hlt (unhide Hn rfl)).symm, below_drewN hbW _⟩)
              | (go_roundw
                 case rel => exact ⟨1, by omega, rfl, below_drewN hbW _, by rw [okTo_succ, unhide Hok, unhide Hz rfl]; rfl⟩
                 case measure => simp [intOf]; omega)
          · obtain ⟨j, rfl⟩ : ∃ j, k = j + 1 := ⟨k - 1, by omega⟩
            have hj : j < l.length := by omega
            have hj' : (j : Int) < (l.length : Int) := by omega
            have gj : decide ((0 : Int) < (j : Int) + 1) = true := by simp
            obtain ⟨p0, -⟩ := (hi j hj).below hbW (hi j hj).lt
            have Hz := hide (fun hy => okAt_succ l j hlt hj (by rw [unhide Hx]; exact hy))
            have Hn := hide (fun hy => okAt_no l (j + 1) hlt (by rw [unhide Hx]; exact hy))
            rw [unhide Hit] at Hz Hn
            rw [unhide Hx] at Hz
            clear Hit
            generalize l[j].name = pn at *
            rcases (show nb = false ∨ (nb = true ∧ pb = true) ∨ (nb = true ∧ pb = false ∧ lb = true) ∨ (nb = true ∧ pb = false ∧ lb = false) by cases nb <;> cases pb <;> cases lb <;> simp) with rfl | ⟨rfl, rfl⟩ | ⟨rfl, rfl, rfl⟩ | ⟨rfl, rfl, rfl⟩
            all_goals
              go_wp2_with fail
              go_quiet (fail)
              go_wp2
            all_goals first
              | (go_ret; exact ⟨ret_bool (dirOk_at l (j + 1) hlt (unhide Hn rfl)).symm, below_drewN hbW _⟩)
              | (have hn : (!Op.bytesLess pn.toList nm.toList) = true := by assumption
                 go_ret
                 refine ⟨ret_bool (dirOk_at l (j + 1) hlt ?_).symm, below_drewN hbW _⟩
                 rw [unhide Hz rfl]; simpa using hn)
              | (have hn : (!Op.bytesLess pn.toList nm.toList) = false := by assumption
                 go_roundw
                 case rel =>
                   refine ⟨j + 1 + 1, by omega, by go_num, below_drewN hbW _, ?_⟩
                   rw [okTo_succ, unhide Hok, unhide Hz rfl]; simpa using hn
                 case measure => simp [intOf]; omega)
    · obtain rfl : k = l.length := by omega
      go_wp2
      go_ret
      exact ⟨ret_bool (by unfold dirOk; rw [unhide Hok, decide_eq_true (by omega)]; rfl), hbel⟩
theorem refDirectory_any (l : List P.It) (a : Option Addr) (c : Nat) (w : World) (hl : l.length ≤ maxLen) (hi : Lies w a l) (hf : FitAll l) :
    Calls Tryz.prog 157 #[.slice a l.length c] w fun e w' => e = .returned (.bool (dirOk l)) ∧ Below w.heap.size w w' := by
  rcases hi with rfl | ⟨b, o, rfl, h⟩
  · refine (refDirectory_nil a c w).mono ?_
    rintro e w' ⟨rfl, rfl⟩
    exact ⟨rfl, Below.refl _ _⟩
  · exact refDirectory_some l b o c w hl h hf
end Go.Proofs.YtjmacegibchplaaGreatDoor
