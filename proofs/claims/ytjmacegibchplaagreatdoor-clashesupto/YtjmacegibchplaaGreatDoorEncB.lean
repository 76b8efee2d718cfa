/-
  The program's Encode: its contract.
-/
import Derived.Test.YtjmacegibchplaaGreatDoorEncA
namespace Go.Proofs.YtjmacegibchplaaGreatDoor
open Go.RowKit
set_option linter.unusedVariables false

/-- a slice of items: where they lie -/
def Lies (w : World) (a : Option Addr) (l : List P.It) : Prop := l = [] ∨ ∃ b o, a = some ⟨b, o, none⟩ ∧ ItemsAt w b o l
theorem Lies.below {B : Nat} {w w' : World} {a : Option Addr} {l : List P.It} (h : Lies w a l) (hb : Below B w w') (hB : w.heap.size ≤ B) : Lies w' a l := by
  rcases h with h | ⟨b, o, e, h⟩
  · exact .inl h
  · exact .inr ⟨b, o, e, h.below hb hB⟩
theorem isDirectory_nil (a : Option Addr) (c : Nat) (w : World) :
    Calls Tryz.prog 85 #[.slice a 0 c] w fun e w' => e = .returned (.bool true) ∧ w' = w := by
  go_enter Tryz.func85, Tryz.ntmps85
  go_wp2
  refine wp_loop_rounds 1 ?_
  rw [rounds_succ]
  go_wp2
  go_ret
  exact ⟨rfl, rfl⟩
theorem isDirectory_any (l : List P.It) (a : Option Addr) (c : Nat) (w : World) (hl : l.length ≤ maxLen) (hi : Lies w a l) (hf : FitAll l) :
    Calls Tryz.prog 85 #[.slice a l.length c] w fun e w' => e = .returned (.bool (dirOk l)) ∧ Below w.heap.size w w' := by
  rcases hi with rfl | ⟨b, o, rfl, h⟩
  · refine (isDirectory_nil a c w).mono ?_
    rintro e w' ⟨rfl, rfl⟩
    exact ⟨rfl, Below.refl _ _⟩
  · exact isDirectory_some l b o c w hl h hf
/-- what Encode answers -/
def encS (l : List P.It) : ByteArray := if dirOk l = true then ⟨(dirBytes l).toArray⟩ else ⟨#[]⟩
def encE (l : List P.It) : Int := if dirOk l = true then 0 else 4
theorem take_snoc_it (l : List P.It) (k : Nat) (h : k < l.length) : l.take (k + 1) = l.take k ++ [l[k]] := by
  rw [List.take_succ_eq_append_getElem h]
/-- string(b), b the call's own bytes -/
theorem conv_own (w : World) (base : Nat) (v : Value) (l : List UInt8) (h : Owns w base v l) (hne : l ≠ []) :
    (convert 102 9 v).run Tryz.prog w = .ok (.string ⟨l.toArray⟩) w := by
  rcases h.2 with ⟨_, hn⟩ | ⟨g, cap, cur, rfl, _, hg, hnc, hcm, hcs, htake⟩
  · exact absurd (List.eq_nil_of_length_eq_zero hn) hne
  · refine run_convert_bytes_back w 102 9 5 ⟨g, 0, none⟩ cap l Tryz.underlying102 Tryz.underlying5 Tryz.underlying9 ?_
    intro j hj
    have hx := World.ownsRow.cells h (g := g) rfl j (byteVal l[j]) (by simp [List.getElem?_eq_getElem hj])
    exact hx
theorem owns_two (w : World) (base m n : Nat) (hm : m < 256) (hn : n < 256) (hb : base ≤ w.heap.size) :
    Owns (w.alloc (.cells #[.int .u8 (m : Int), .int .u8 (n : Int)] 5)) base (.slice (some ⟨w.heap.size, 0, none⟩) 2 2) [UInt8.ofNat m, UInt8.ofNat n] := by
  have h := World.ownsRow_lit (base := base) (e := 5) (size := 1) w #[.int .u8 (m : Int), .int .u8 (n : Int)] 2 hb (by decide) rfl
  unfold Owns
  rw [List.map_cons, List.map_cons, byteVal_nat m hm, byteVal_nat n hn]
  exact h
set_option maxHeartbeats 1000000 in
theorem dirEncode_yes (l : List P.It) (a : Option Addr) (c : Nat) (w : World) (hl : l.length ≤ maxLen) (hi : Lies w a l) (hf : FitAll l) (hd : dirOk l = true) :
    Calls Tryz.prog 57 #[.slice a l.length c] w fun e w' => e = .returned (.tuple #[.string ⟨(dirBytes l).toArray⟩, .int .i64 0]) ∧ Below w.heap.size w w' := by
  have h40 := len_of_dirOk l hd
  have hsane : ∀ x ∈ l, Sane x := fun x hx => by
    obtain ⟨k, hk, rfl⟩ := List.getElem_of_mem hx
    exact sane_of_ok _ (ok_of_dirOk l hd k hk)
  go_enter Tryz.func57, Tryz.ntmps57
  go_wp2_with fail
  refine (isDirectory_any l a c w hl hi hf).mono ?_
  rintro e w1 ⟨rfl, hb1⟩
  rw [hd]
  have hd' := hide hd
  clear hd
  have hi1 := hi.below hb1 (Nat.le_refl _)
  have hst := owns_two w1 w.heap.size 84 l.length (by omega) (by omega) hb1.size
  have hlb : itemsBytes l = itemsBytes l := rfl
  have hlen : ∀ k, (itemsBytes (l.take k)).length ≤ 2400 := fun k => by
    have h1 := itemsBytes_len (l.take k) (fun x hx => hsane x (List.mem_of_mem_take hx))
    have h2 : (l.take k).length ≤ l.length := by simp; omega
    omega
  clear hlb
  go_wp2_with fail
  go_loopw [4, 16] (fun v i wr => ∃ k : Nat, k ≤ l.length ∧ i = .int .i64 k ∧ Owns wr w.heap.size v (84 :: UInt8.ofNat l.length :: itemsBytes (l.take k)) ∧ Below w.heap.size w wr) (fun _ i _ => l.length - (intOf i).toNat)
  case atStart => exact ⟨0, Nat.zero_le _, rfl, hst, hb1.alloc hb1.size _⟩
  case round =>
    obtain ⟨k, hk, rfl, hown, hbel⟩ := hrel
    clear hst
    by_cases hlt : k < l.length
    · obtain ⟨b, o, rfl, hit⟩ : ∃ b o, a = some ⟨b, o, none⟩ ∧ ItemsAt w b o l := by
        rcases hi with h | h
        · subst h; simp at hlt
        · exact h
      obtain ⟨x, hx⟩ : ∃ x, l[k] = x := ⟨_, rfl⟩
      have hsx := hsane x (by rw [← hx]; exact List.getElem_mem hlt)
      obtain ⟨c0, c1, c2, c3, c4⟩ := (hit k hlt).below hbel (hit k hlt).lt
      rw [hx] at c0 c1 c2 c3 c4
      have Hx := hide hx
      clear hx
      obtain ⟨nm, kd, dg, sz, tg⟩ := x
      simp only at c0 c1 c2 c3 c4
      obtain ⟨kn, rfl⟩ : ∃ kn : Nat, kd = kn := ⟨kd.toNat, by have := hsx.k0; simp only at this; omega⟩
      have hl' := hlen k
      have hsz := hbel.size
      go_wp2_with fail
      refine (appendItem_any w.heap.size _ _ nm kn dg sz tg _ hsx (by simp; omega) (by simp; omega) (hown.alloc _)).mono ?_
      rintro e w2 ⟨v2, rfl, ho2, hk2⟩
      have hb2 : Below w.heap.size w w2 := (hbel.alloc hbel.size _).trans (hk2.below (by simp; omega))
      go_wp2_with fail
      go_roundw
      case rel =>
        refine ⟨k + 1, by omega, by go_num, ?_, hb2⟩
        rw [take_snoc_it l k hlt, itemsBytes_snoc, unhide Hx]
        simpa using ho2
      case measure => simp [intOf]; omega
    · obtain rfl : k = l.length := by omega
      have hcv := conv_own wr w.heap.size _ _ hown (by simp)
      rw [List.take_length] at hcv
      go_wp2_with fail
      go_ret2
      exact ⟨rfl, hbel⟩
set_option maxHeartbeats 1000000 in
theorem dirEncode_no (l : List P.It) (a : Option Addr) (c : Nat) (w : World) (hl : l.length ≤ maxLen) (hi : Lies w a l) (hf : FitAll l) (hd : dirOk l = false) :
    Calls Tryz.prog 57 #[.slice a l.length c] w fun e w' => e = .returned (.tuple #[.string ⟨#[]⟩, .int .i64 4]) ∧ Below w.heap.size w w' := by
  go_enter Tryz.func57, Tryz.ntmps57
  go_wp2_with fail
  refine (isDirectory_any l a c w hl hi hf).mono ?_
  rintro e w1 ⟨rfl, hb1⟩
  rw [hd]
  clear hd
  go_wp2_with fail
  go_ret2
  exact ⟨rfl, hb1⟩
theorem cellarEncode (l : List P.It) (a : Option Addr) (c : Nat) (w : World) (hl : l.length ≤ maxLen) (hi : Lies w a l) (hf : FitAll l) :
    Calls Tryz.prog 30 #[.slice a l.length c] w fun e w' => e = .returned (.tuple #[.string (encS l), .int .i64 (encE l)]) ∧ Below w.heap.size w w' := by
  cases hd : dirOk l with
  | true =>
    unfold encS encE
    rw [if_pos hd, if_pos hd]
    have hd' := hide hd
    clear hd
    go_enter Tryz.func30, Tryz.ntmps30
    go_wp2_with fail
    refine (dirEncode_yes l a c w hl hi hf (unhide hd')).mono ?_
    rintro e w1 ⟨rfl, hb1⟩
    go_wp2_with fail
    go_ret2
    exact ⟨rfl, hb1⟩
  | false =>
    unfold encS encE
    rw [if_neg (by simp [hd]), if_neg (by simp [hd])]
    have hd' := hide hd
    clear hd
    go_enter Tryz.func30, Tryz.ntmps30
    go_wp2_with fail
    refine (dirEncode_no l a c w hl hi hf (unhide hd')).mono ?_
    rintro e w1 ⟨rfl, hb1⟩
    go_wp2_with fail
    go_ret2
    exact ⟨rfl, hb1⟩
end Go.Proofs.YtjmacegibchplaaGreatDoor
