/-
  The document's digest, as the statements have it: its contract.
-/
import Derived.Test.YtjmacegibchplaaGreatDoorKit
import Derived.Test.YtjmacegibchplaaGreatDoorPlain
namespace Go.Proofs.YtjmacegibchplaaGreatDoor
open Go.RowKit

set_option maxHeartbeats 400000 in
theorem refDigest_any (s : ByteArray) (w : World) (hs : s.size ≤ maxLen) :
    Calls Tryz.prog 20 #[.string s] w fun e w' => e = .returned (.string ⟨(P.digest s.data.toList).toArray⟩) ∧ ∃ n, w' = w.drewN n := by
  unfold maxLen at hs
  go_enter Tryz.func20, Tryz.ntmps20
  go_wp2
  go_loop [3, 4] (fun n i => ∃ k : Nat, k ≤ s.size ∧ i = .int .i64 k ∧ n = .int .i64 (P.dnum (s.data.toList.take k))) (fun _ i => s.size - (intOf i).toNat)
  case atStart => exact ⟨0, Nat.zero_le _, rfl, rfl⟩
  case round =>
    obtain ⟨k, hk, rfl, rfl⟩ := hrel
    have hd := P.dnum_bd (s.data.toList.take k)
    by_cases hlt : k < s.size
    · have hb : (s[k].toNat : Int) ≤ 255 := by have := s[k].toNat_lt; omega
      have HS := hide (P.dnum_next s k hlt)
      go_wp2
      go_round
      case rel => exact ⟨k + 1, by omega, by go_num, by rw [unhide HS]⟩
      case measure => simp [intOf]; omega
    · obtain rfl : k = s.size := by omega
      rw [List.take_of_length_le (by simp)] at hd ⊢
      generalize hn : P.dnum s.data.toList = n at *
      have Hn := hide hn
      clear hn
      go_wp2
      go_quiet (fail)
      go_wp2
      go_ret
      exact ⟨ret_string (by rw [P.digest, unhide Hn]; exact P.three_cuts n hd.1 hd.2), nq, rfl⟩
end Go.Proofs.YtjmacegibchplaaGreatDoor
