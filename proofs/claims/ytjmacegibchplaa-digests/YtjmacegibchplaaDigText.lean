/-
  The program's digest: its contract.
-/
import Derived.Test.YtjmacegibchplaaKit
import Derived.Test.YtjmacegibchplaaPlain
import Derived.Laws.BytesArg
namespace Go.Proofs.Ytjmacegibchplaa
open Go.RowKit

theorem conv_three (w : World) (x y z : Int) :
    (convert 39 9 (.slice (some ⟨w.heap.size, 0, none⟩) 3 3)).run Try.prog ((w.alloc (.cells #[.int .u8 x, .int .u8 y, .int .u8 z] 5)).drew) = .ok (.string (strOfNums [x, y, z])) ((w.alloc (.cells #[.int .u8 x, .int .u8 y, .int .u8 z] 5)).drew) := by
  refine run_convert_bytes_arg _ 39 5 Try.underlying39 Try.underlying5 _ 0 3 3 [x, y, z] rfl ?_ 9 Try.underlying9
  intro i hi
  match i, hi with
  | 0, _ => simp
  | 1, _ => simp
  | 2, _ => simp
theorem hex16 : ∀ i : Fin 16, P.hexb.data.toList[i.val]? = some (P.hexd.getD i.val 0) := by decide
theorem hex_at (a : Int) (h0 : 0 ≤ a) (h1 : a < 16) (hp : a.toNat < P.hexb.size) : P.hexb[a.toNat] = P.hex a := by
  have h := hex16 ⟨a.toNat, by omega⟩
  have h2 := (List.getElem?_eq_some_iff.1 h).2
  exact h2
theorem nums_three (x y z : UInt8) : strOfNums [(x.toNat : Int), (y.toNat : Int), (z.toNat : Int)] = ⟨#[x, y, z]⟩ := by simp [strOfNums]
set_option maxHeartbeats 400000 in
theorem textDigest_any (s : ByteArray) (w : World) (hs : s.size ≤ maxLen) :
    Calls Try.prog 14 #[.string s] w fun e w' => e = .returned (.string ⟨(P.digest s.data.toList).toArray⟩) ∧ Below w.heap.size w w' := by
  unfold maxLen at hs
  go_enter Try.func14, Try.ntmps14
  go_wp2
  go_loop [3, 7] (fun n i => ∃ k : Nat, k ≤ s.size ∧ i = .int .i64 k ∧ n = .int .i64 (P.dnum (s.data.toList.take k))) (fun _ i => s.size - (intOf i).toNat)
  case atStart => exact ⟨0, Nat.zero_le _, rfl, rfl⟩
  case round =>
    obtain ⟨k, hk, rfl, rfl⟩ := hrel
    have hd := P.dnum_bd (s.data.toList.take k)
    by_cases hlt : k < s.size
    · have hb : (s[k].toNat : Int) ≤ 255 := by have := s[k].toNat_lt; omega
      have HS := hide (P.dnum_next s k hlt)
      go_wp2
      go_round
      case rel => exact ⟨k + 1, by omega, by go_num, by rw [unhide HS]; go_num⟩
      case measure => simp [intOf]; omega
    · obtain rfl : k = s.size := by omega
      rw [List.take_of_length_le (by simp)] at hd ⊢
      generalize hn : P.dnum s.data.toList = n at *
      have Hn := hide hn
      clear hn
      have d1 : 0 ≤ n / 256 := by omega
      have e1 : n / 256 < 16 := by omega
      have d2 : 0 ≤ n / 16 % 16 := by omega
      have e2 : n / 16 % 16 < 16 := by omega
      have d3 : 0 ≤ n % 16 := by omega
      have e3 : n % 16 < 16 := by omega
      have hcv := conv_three w
      go_wp2
      go_region
      go_wp2
      go_ret
      refine ⟨ret_string ?_, ((Below.refl _ _).alloc (Nat.le_refl _) _).drew⟩
      rw [P.digest, unhide Hn]
      have f1 := hex_at (n / 256) d1 e1 (by show _ < 16; omega)
      have f2 := hex_at (n / 16 % 16) d2 e2 (by show _ < 16; omega)
      have f3 := hex_at (n % 16) d3 e3 (by show _ < 16; omega)
      refine (nums_three _ _ _).trans ?_
      unfold P.hexb at f1 f2 f3
      rw [f1, f2, f3]
      rfl
end Go.Proofs.Ytjmacegibchplaa
