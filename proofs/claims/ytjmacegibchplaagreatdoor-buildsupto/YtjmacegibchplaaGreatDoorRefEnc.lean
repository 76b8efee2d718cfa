/-
  The document's bytes of a directory (the statements' own): its contract.
-/
import Derived.Test.YtjmacegibchplaaGreatDoorRefDir
import Derived.Deep.RegionHeld3
import Derived.Deep.DrawnRows
namespace Go.Proofs.YtjmacegibchplaaGreatDoor
open Go.RowKit
set_option linter.unusedVariables false
attribute [local go_sem ↓] Go.wp_at_zero Go.wp_at_succ

theorem refOne_at (n : Int) (h0 : 0 ≤ n) (hn : n < 256) (w : World) :
    Calls Tryz.prog 111 #[.int .i64 n] w fun e w' => e = .returned (.string ⟨#[UInt8.ofNat n.toNat]⟩) ∧ w' = w.alloc (.cells #[.int .u8 n] 5) := by
  have hcv := conv_one w
  go_enter Tryz.func111, Tryz.ntmps111
  go_wp2
  go_ret
  exact ⟨ret_string (by simp [strOfNums]), rfl⟩
theorem cat_eq (l : List UInt8) (b : ByteArray) : ((⟨l.toArray⟩ : ByteArray) ++ b) = ⟨(l ++ b.data.toList).toArray⟩ := by
  apply ByteArray.ext
  apply Array.ext'
  simp
theorem size_byte (c : UInt8) : (⟨#[c]⟩ : ByteArray).size ≤ 100000 := by show 1 ≤ 100000; omega
theorem size_snoc (s : ByteArray) (c : UInt8) : (s ++ ⟨#[c]⟩).size = s.size + 1 := by rw [ByteArray.size_append]; rfl
theorem add_ok (a b : ByteArray) (ha : a.size ≤ 100000) (hb : b.size ≤ 100000) : ∀ w, (Op.stringOp .add a b).run Tryz.prog w = .ok (.string (a ++ b)) w := fun w => run_string_add_sum w a b (by omega)
set_option maxRecDepth 100000 in
set_option maxHeartbeats 2000000 in
theorem refEncode_any (l : List P.It) (a : Option Addr) (c : Nat) (w : World) (hi : Lies w a l) (hd : dirOk l = true) :
    Calls Tryz.prog 73 #[.slice a l.length c] w fun e w' => e = .returned (.string ⟨(dirBytes l).toArray⟩) ∧ Below w.heap.size w w' := by
  have h40 := len_of_dirOk l hd
  have hsane : ∀ x ∈ l, Sane x := fun x hx => by
    obtain ⟨k, hk, rfl⟩ := List.getElem_of_mem hx
    exact sane_of_ok _ (ok_of_dirOk l hd k hk)
  have hlen : ∀ k, (itemsBytes (l.take k)).length ≤ 2400 := fun k => by
    have h1 := itemsBytes_len (l.take k) (fun x hx => hsane x (List.mem_of_mem_take hx))
    have h2 : (l.take k).length ≤ l.length := by simp; omega
    omega
  clear hd
  go_enter Tryz.func73, Tryz.ntmps73
  go_wp2_with fail
  refine (refOne_at _ (by omega) (by omega) _).mono ?_
  rintro e w1 ⟨rfl, hw1⟩
  subst hw1
  rw [Int.toNat_natCast]
  go_wp2_with fail
  go_loopw [3, 4] (fun s i wr => ∃ k : Nat, k ≤ l.length ∧ i = .int .i64 k ∧ s = .string ⟨(84 :: UInt8.ofNat l.length :: itemsBytes (l.take k)).toArray⟩ ∧ Below w.heap.size w wr) (fun _ i _ => l.length - (intOf i).toNat)
  case atStart => exact ⟨0, Nat.zero_le _, rfl, by congr 1, (Below.refl _ _).alloc (Nat.le_refl _) _⟩
  case round =>
    obtain ⟨k, hk, rfl, rfl, hbel⟩ := hrel
    by_cases hlt : k < l.length
    · obtain ⟨b, o, rfl, hit⟩ : ∃ b o, a = some ⟨b, o, none⟩ ∧ ItemsAt w b o l := by
        rcases hi with h | h
        · subst h; simp at hlt
        · exact h
      obtain ⟨x, hx⟩ : ∃ x, l[k] = x := ⟨_, rfl⟩
      have hsx := hsane x (by rw [← hx]; exact List.getElem_mem hlt)
      obtain ⟨c0, c1, c2, c3, c4⟩ := (hit k hlt).below hbel (hit k hlt).lt
      rw [hx] at c0 c1 c2 c3 c4
      have Hx := hide hx
      clear hx
      obtain ⟨nm, kd, dg, sz, tg⟩ := x
      obtain ⟨k0, k3, h1, h2, h3, s0, s1⟩ := hsx
      simp only at c0 c1 c2 c3 c4 k0 k3 h1 h2 h3 s0 s1
      have hl' := hlen k
      have hsz := hbel.size
      have Hstep := hide (show (⟨(84 :: UInt8.ofNat l.length :: itemsBytes (l.take (k + 1))).toArray⟩ : ByteArray) = ⟨((84 :: UInt8.ofNat l.length :: itemsBytes (l.take k)) ++ itemBytes ⟨nm, kd, dg, sz, tg⟩).toArray⟩ by
        rw [take_snoc_it l k hlt, itemsBytes_snoc, unhide Hx]; rfl)
      have hss : (⟨(84 :: UInt8.ofNat l.length :: itemsBytes (l.take k)).toArray⟩ : ByteArray).size ≤ 3000 := by
        simp [ByteArray.size]; omega
      generalize hS : (⟨(84 :: UInt8.ofNat l.length :: itemsBytes (l.take k)).toArray⟩ : ByteArray) = S at *
      have HS := hide hS
      clear hS hl'
      go_upto_region 6 with fail
      have hbW := hbel.alloc hbel.size (.cells #[.string nm, .int .i64 kd, .string dg, .int .i64 sz, .string tg] 47)
      have hq : wr.heap.size < (wr.alloc (.cells #[.string nm, .int .i64 kd, .string dg, .int .i64 sz, .string tg] 47)).heap.size := by simp
      obtain ⟨d0, d1, d2, d3, d4⟩ := (Box.new wr nm kd dg sz tg).cells
      clear c0 c1 c2 c3 c4
      generalize wr.alloc (.cells #[.string nm, .int .i64 kd, .string dg, .int .i64 sz, .string tg] 47) = W at *
      generalize wr.heap.size = q at *
      have n0 : ¬ q = W.heap.size := by omega
      have n1 : ¬ q = W.heap.size + 1 := by omega
      have z1 := size_snoc S (UInt8.ofNat kd.toNat)
      have z2 := size_snoc (S ++ ⟨#[UInt8.ofNat kd.toNat]⟩) (UInt8.ofNat nm.size)
      have a1 := add_ok S ⟨#[UInt8.ofNat kd.toNat]⟩ (by omega) (size_byte _)
      have a2 := add_ok (S ++ ⟨#[UInt8.ofNat kd.toNat]⟩) ⟨#[UInt8.ofNat nm.size]⟩ (by omega) (size_byte _)
      have a3 := add_ok (S ++ ⟨#[UInt8.ofNat kd.toNat]⟩ ++ ⟨#[UInt8.ofNat nm.size]⟩) nm (by omega) (by omega)
      clear z1 z2
      go_cut [3] (fun s wx => s = .string (S ++ ⟨#[UInt8.ofNat kd.toNat]⟩ ++ ⟨#[UInt8.ofNat nm.size]⟩ ++ nm) ∧ Below W.heap.size W wx)
      case first =>
        go_region_held3 (fun w' => w'.cell? ⟨q, 0, none⟩ = some (.string nm) ∧ w'.cell? ⟨q, 1, none⟩ = some (.int .i64 kd)) (go_keep) ((go_at_call 111; refine (refOne_at _ (by omega) (by omega) _).mono ?_; rintro e w' ⟨rfl, rfl⟩))
        go_wp2_with fail
        go_meet
        exact ⟨rfl, (((Below.refl _ _).alloc (Nat.le_refl _) _).alloc (by simp) _).drew⟩
      case rest =>
        obtain ⟨hs3, hbx⟩ := hcut
        subst hs3
        have e3 := hbx.cell (p := ⟨q, 3, none⟩) hq
        have e4 := hbx.cell (p := ⟨q, 4, none⟩) hq
        have e2 := hbx.cell (p := ⟨q, 2, none⟩) hq
        have e1 := hbx.cell (p := ⟨q, 1, none⟩) hq
        rw [d1] at e1
        rw [d2] at e2
        rw [d3] at e3
        rw [d4] at e4
        have hbw := hbW.trans (hbx.mono hbW.size)
        have hqc := Nat.lt_of_lt_of_le hq hbx.size
        clear a1 a2 a3 d0 d1 d2 d3 d4 n0 n1
        have hts : (S ++ ⟨#[UInt8.ofNat kd.toNat]⟩ ++ ⟨#[UInt8.ofNat nm.size]⟩ ++ nm).size ≤ 4000 := by
          rw [ByteArray.size_append, size_snoc, size_snoc]; omega
        have HT := hide (show S ++ ⟨#[UInt8.ofNat kd.toNat]⟩ ++ ⟨#[UInt8.ofNat nm.size]⟩ ++ nm = ⟨((84 :: UInt8.ofNat l.length :: itemsBytes (l.take k)) ++ (UInt8.ofNat kd.toNat :: UInt8.ofNat nm.size :: nm.data.toList)).toArray⟩ by
          rw [← unhide HS, cat_eq, cat_eq, cat_eq]; simp)
        generalize S ++ ⟨#[UInt8.ofNat kd.toNat]⟩ ++ ⟨#[UInt8.ofNat nm.size]⟩ ++ nm = T at *
        have n0 : ¬ q = wc.heap.size := by omega
        have n1 : ¬ q = wc.heap.size + 1 := by omega
        by_cases h3k : kd = 3
        · subst h3k
          have z1 := size_snoc T (UInt8.ofNat tg.size)
          have a1 := add_ok T ⟨#[UInt8.ofNat tg.size]⟩ (by omega) (size_byte _)
          have a2 := add_ok (T ++ ⟨#[UInt8.ofNat tg.size]⟩) tg (by omega) (by omega)
          clear z1
          go_upto_region 8 with fail
          go_region_held3 (fun w' => w'.cell? ⟨q, 4, none⟩ = some (.string tg)) (go_keep) ((go_at_call 111; refine (refOne_at _ (by omega) (by omega) _).mono ?_; rintro e w' ⟨rfl, rfl⟩))
          go_wp2_with fail
          go_roundw
          case rel =>
            refine ⟨k + 1, by omega, by go_num, ?_, (hbw.alloc hbw.size _).drew⟩
            congr 1
            rw [unhide Hstep, unhide HT, cat_eq, cat_eq]
            simp [itemBytes]
          case measure => simp [intOf]; omega
        · have b3 : (kd == 3) = false := by simp [h3k]
          have z0 : (T ++ dg).size = T.size + dg.size := ByteArray.size_append
          have z1 := size_snoc (T ++ dg) (UInt8.ofNat (sz % 256).toNat)
          have a1 := add_ok T dg (by omega) (by omega)
          have a2 := add_ok (T ++ dg) ⟨#[UInt8.ofNat (sz % 256).toNat]⟩ (by omega) (size_byte _)
          have a3 := add_ok (T ++ dg ++ ⟨#[UInt8.ofNat (sz % 256).toNat]⟩) ⟨#[UInt8.ofNat (sz / 256).toNat]⟩ (by omega) (size_byte _)
          have H3 := hide h3k
          have m1 : sz.tmod 256 = sz % 256 := Int.tmod_eq_emod_of_nonneg s0
          have m2 : sz.tdiv 256 = sz / 256 := Int.tdiv_eq_ediv_of_nonneg s0
          have m3 : IntKind.i64.wrap (sz / 256) = sz / 256 := by rw [IntKind.wrap_i64]; omega
          clear z0 z1 h3k
          go_upto_region 9 with fail
          go_region_held3 (fun w' => w'.cell? ⟨q, 2, none⟩ = some (.string dg) ∧ w'.cell? ⟨q, 3, none⟩ = some (.int .i64 sz)) (go_keep) ((go_at_call 111; refine (refOne_at _ (by omega) (by omega) _).mono ?_; rintro e w' ⟨rfl, rfl⟩))
          go_wp2_with fail
          go_roundw
          case rel =>
            refine ⟨k + 1, by omega, by go_num, ?_, ((hbw.alloc hbw.size _).alloc (by simp; exact Nat.le_trans hbw.size (Nat.le_succ _)) _).drew⟩
            congr 1
            rw [unhide Hstep, unhide HT, cat_eq, cat_eq, cat_eq]
            simp [itemBytes, unhide H3]
          case measure => simp [intOf]; omega
    · obtain rfl : k = l.length := by omega
      go_wp2_with fail
      go_ret
      exact ⟨ret_string (by rw [List.take_length]; rfl), hbel⟩
end Go.Proofs.YtjmacegibchplaaGreatDoor
