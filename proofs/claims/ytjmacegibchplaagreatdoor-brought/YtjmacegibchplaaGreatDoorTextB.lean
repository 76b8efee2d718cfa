import Derived.Test.YtjmacegibchplaaGreatDoorRows
import Derived.WalkKit
import Derived.WalkSpells
import Derived.WalkLawsBesides
import Derived.Deep.QuietTactic
import Derived.BigQuiet
import Derived.Lib.Bytealg
import Derived.Laws.Externs
import Derived.Laws.BytesArg
/-
  Small helpers for the walks: hidden equations, worlds below a bound.
-/
namespace Go.Proofs.YtjmacegibchplaaGreatDoor
open Go.RowKit
theorem hide {p : Prop} (h : p) : Hid p := h
theorem unhide {p : Prop} (h : Hid p) : p := h
theorem bcell {W w1 : World} (hb : Below W.heap.size W w1) : (∀ b o, b < W.heap.size → w1.cell? ⟨b, o, none⟩ = W.cell? ⟨b, o, none⟩) ∧ (∀ b o, b < W.heap.size → w1.frozen? ⟨b, o, none⟩ = W.frozen? ⟨b, o, none⟩) :=
  ⟨fun b o h => hb.cell (p := ⟨b, o, none⟩) h, fun b o h => hb.frozen (p := ⟨b, o, none⟩) h⟩
theorem ret_int {k : IntKind} {a b : Int} (h : a = b) : Ending.returned (.int k a) = .returned (.int k b) := by rw [h]
theorem ret_string {a b : ByteArray} (h : a = b) : Ending.returned (.string a) = .returned (.string b) := by rw [h]
theorem ret_bool {a b : Bool} (h : a = b) : Ending.returned (.bool a) = .returned (.bool b) := by rw [h]
structure Keeps (base : Nat) (e : TypeId) (w w' : World) : Prop where
  os : w'.os = w.os
  tape : w'.tape = w.tape
  output : w'.output = w.output
  size : w.heap.size ≤ w'.heap.size
  block : ∀ k, k < w.heap.size → (k < base ∨ ∀ cur fz, w.heap[k]? ≠ some (.cells cur e fz)) → w'.heap[k]? = w.heap[k]?
theorem Keeps.refl (base : Nat) (e : TypeId) (w : World) : Keeps base e w w := ⟨rfl, rfl, rfl, Nat.le_refl _, fun _ _ _ => rfl⟩
theorem Keeps.trans {base : Nat} {e : TypeId} {a b c : World} (h : Keeps base e a b) (k : Keeps base e b c) : Keeps base e a c :=
  ⟨k.os.trans h.os, k.tape.trans h.tape, k.output.trans h.output, Nat.le_trans h.size k.size, fun j hj hc => by
    have e1 := h.block j hj hc
    refine (k.block j (Nat.lt_of_lt_of_le hj h.size) ?_).trans e1
    rw [e1]; exact hc⟩
theorem Keeps.alloc {base : Nat} {e : TypeId} {a w : World} (h : Keeps base e a w) (o : Obj) : Keeps base e a (w.alloc o) :=
  h.trans ⟨rfl, rfl, rfl, by simp, fun k hk _ => Below.heap_alloc w o k hk⟩
theorem Keeps.drew {base : Nat} {e : TypeId} {a w : World} (h : Keeps base e a w) : Keeps base e a w.drew := ⟨h.os, h.tape, h.output, h.size, h.block⟩
theorem Keeps.below {base : Nat} {e : TypeId} {a w : World} (h : Keeps base e a w) (hb : base ≤ a.heap.size) : Below base a w :=
  ⟨h.os, h.tape, h.output, h.size, fun k hk => h.block k (by omega) (.inl hk)⟩
theorem Keeps.grown {base : Nat} {e : TypeId} {size n : Nat} {v : Value} {xs : List Value} {w w' : World} (ho : w.ownsRow base e size v n xs) (hg : w.grownBy w' v.ownBlock) : Keeps base e w w' :=
  ⟨hg.os, hg.tape, hg.output, hg.size, fun k hk hc => hg.block k hk (fun hk2 => by
    rcases ho.2 with ⟨rfl, _⟩ | ⟨g, cap, cur, rfl, hb, hgg, _⟩
    · simp [Value.ownBlock] at hk2
    · simp [Value.ownBlock] at hk2
      subst hk2
      rcases hc with h | h
      · omega
      · exact h _ _ hgg)⟩
theorem Keeps.other {base : Nat} {e : TypeId} {w w' : World} (h : Keeps base e w w') {k : Nat} {cur : Array Value} {t : TypeId} {fz : Nat × Nat} (hk : w.heap[k]? = some (.cells cur t fz)) (ht : t ≠ e) : w'.heap[k]? = some (.cells cur t fz) := by
  have hl : k < w.heap.size := (Array.getElem?_eq_some_iff.1 hk).1
  rw [h.block k hl (.inr (fun c f hc => by rw [hk] at hc; simp at hc; exact ht hc.2.1)), hk]
theorem cell_of_block {w : World} {k j : Nat} {cur : Array Value} {t : TypeId} {fz : Nat × Nat} (h : w.heap[k]? = some (.cells cur t fz)) : w.cell? ⟨k, j, none⟩ = cur[j]? := cell_of_row w k j cur t fz h
theorem free_block {w : World} {k j : Nat} {cur : Array Value} {t : TypeId} (h : w.heap[k]? = some (.cells cur t (0, 0))) : w.frozen? ⟨k, j, none⟩ = false := by simp [World.frozen?, h]
theorem add_off0 (b i : Nat) : (⟨b, 0, none⟩ : Addr).add i = ⟨b, i, none⟩ := by unfold Addr.add; split <;> simp_all
def byteVal (b : UInt8) : Value := .int .u8 b.toNat
def Owns (w : World) (base : Nat) (v : Value) (l : List UInt8) : Prop := w.ownsRow base 5 1 v l.length (l.map byteVal)
theorem info_u8 : (Tryz.prog.info? 5).map (fun i => (i.zero, i.size, i.bytes)) = some (some (.int .u8 0), 1, 1) := by kernel_rfl
end Go.Proofs.YtjmacegibchplaaGreatDoor

/-
  Plain lists and numbers: the digest of a row of bytes. Nothing of the program is named here.
-/
namespace Go.Proofs.YtjmacegibchplaaGreatDoor
namespace P
def step (n : Int) (c : UInt8) : Int := (263 * n + (c.toNat : Int) + 1) % 4093
def dnum (l : List UInt8) : Int := l.foldl P.step 1
theorem step_bd (n : Int) (c : UInt8) : 0 ≤ P.step n c ∧ P.step n c ≤ 4092 := by unfold P.step; omega
theorem dnum_snoc (l : List UInt8) (c : UInt8) : P.dnum (l ++ [c]) = P.step (P.dnum l) c := by simp [P.dnum]
theorem dnum_bd (l : List UInt8) : 0 ≤ P.dnum l ∧ P.dnum l ≤ 4092 := by
  rcases List.eq_nil_or_concat l with h | ⟨a, c, h⟩
  · subst h; decide
  · rw [h, List.concat_eq_append, P.dnum_snoc]; exact P.step_bd _ _
theorem take_snoc (s : ByteArray) (k : Nat) (h : k < s.size) : s.data.toList.take (k + 1) = s.data.toList.take k ++ [s[k]] := by
  rw [List.take_succ_eq_append_getElem (by simpa using h)]; rfl
theorem dnum_next (s : ByteArray) (k : Nat) (h : k < s.size) : P.dnum (s.data.toList.take (k + 1)) = (263 * P.dnum (s.data.toList.take k) + (s[k].toNat : Int) + 1) % 4093 := by
  rw [P.take_snoc s k h, P.dnum_snoc]; rfl
def hexd : List UInt8 := [48, 49, 50, 51, 52, 53, 54, 55, 56, 57, 97, 98, 99, 100, 101, 102]
def hex (n : Int) : UInt8 := P.hexd.getD n.toNat 0
def three (n : Int) : List UInt8 := [P.hex (n / 256), P.hex (n / 16 % 16), P.hex (n % 16)]
def digest (l : List UInt8) : List UInt8 := P.three (P.dnum l)
def hexb : ByteArray := { data := #[48, 49, 50, 51, 52, 53, 54, 55, 56, 57, 97, 98, 99, 100, 101, 102] }
def has : List UInt8 → UInt8 → Bool
  | [], _ => false
  | b :: l, c => if b == c then true else P.has l c
def within (a b c : Int) : Bool := decide (b ≤ a ∧ a ≤ c)
def isName (l : List UInt8) : Bool := decide (1 ≤ l.length ∧ l.length ≤ 12) && !P.has l 47 && !P.has l 0 && !(l == [46]) && !(l == [46, 46])
def isTarget (l : List UInt8) : Bool := decide (1 ≤ l.length ∧ l.length ≤ 30) && !P.has l 0
def isDigest (l : List UInt8) : Bool := decide (l.length = 3) && l.all (fun c => P.has P.hexd c)
def shape (k : Int) : Int := if k = 0 then 1 else if k = 1 then 1 else if k = 2 then 1 else if k = 3 then 2 else 0
structure It where
  name : ByteArray
  kind : Int
  dig : ByteArray
  size : Int
  tgt : ByteArray
def plainOk (x : P.It) : Bool := P.isDigest x.dig.data.toList && P.within x.size 0 2000 && x.tgt.toList.isEmpty
def linkOk (x : P.It) : Bool := P.isTarget x.tgt.data.toList && x.dig.toList.isEmpty && (x.size == 0)
def itemOk (x : P.It) : Bool := P.isName x.name.data.toList && (if P.shape x.kind = 1 then P.plainOk x else if P.shape x.kind = 2 then P.linkOk x else false)
end P
end Go.Proofs.YtjmacegibchplaaGreatDoor

/-
  The program's small tests of texts: their contracts.
-/
namespace Go.Proofs.YtjmacegibchplaaGreatDoor
open Go.RowKit
set_option linter.unusedVariables false
theorem idx_ge : ∀ (l : List UInt8) (c : UInt8), (0 ≤ Lib.indexByte l c) = (P.has l c = true)
  | [], _ => by simp [Lib.indexByte, P.has]
  | b :: l, c => by
    have ih := idx_ge l c
    unfold Lib.indexByte P.has
    by_cases e : b == c
    · simp [e]
    · simp only [e, Bool.false_eq_true, if_false]
      have hg := Lib.indexByte_ge l c
      by_cases f : Lib.indexByte l c == -1
      · simp only [f, if_true]; simp at f; rw [f] at ih; simpa using ih
      · simp only [f, Bool.false_eq_true, if_false]; simp at f; rw [← ih]; apply propext; omega
theorem run_idx (s : ByteArray) (c : Int) (w : World) :
    (callFunc 234 #[.string s, .int .u8 c]).run Tryz.prog w = .ok (.value (.int .i64 (Lib.indexByte s.data.toList c.toNat.toUInt8))) w := by
  rw [run_callFunc_extern Tryz.func234 (by kernel_rfl) (by kernel_rfl) (by kernel_rfl) (e := Extern.BytealgIndexByte.indexByte) (by kernel_rfl), Lib.run_indexByteString]
  rfl
theorem indexByteLite (s : ByteArray) (c : Int) (w : World) :
    Calls Tryz.prog 219 #[.string s, .int .u8 c] w fun e w' => e = .returned (.int .i64 (Lib.indexByte s.data.toList c.toNat.toUInt8)) ∧ w' = w := by
  have h := run_idx s c
  go_enter Tryz.func219, Tryz.ntmps219
  go_wp2
  go_ret
  exact ⟨rfl, rfl⟩
theorem indexByte_any (s : ByteArray) (c : Int) (w : World) :
    Calls Tryz.prog 195 #[.string s, .int .u8 c] w fun e w' => e = .returned (.int .i64 (Lib.indexByte s.data.toList c.toNat.toUInt8)) ∧ w' = w := by
  go_enter Tryz.func195, Tryz.ntmps195
  go_wp2_with (go_at_call 219; refine (indexByteLite _ _ _).mono ?_; rintro e w' ⟨rfl, rfl⟩)
  go_ret
  exact ⟨rfl, rfl⟩
theorem textHas (s : ByteArray) (c : Int) (w : World) :
    Calls Tryz.prog 194 #[.string s, .int .u8 c] w fun e w' => e = .returned (.bool (P.has s.data.toList c.toNat.toUInt8)) ∧ w' = w := by
  have hi := idx_ge s.data.toList c.toNat.toUInt8
  have Hi := hide hi
  clear hi
  go_enter Tryz.func194, Tryz.ntmps194
  go_wp2_with (go_at_call 195; refine (indexByte_any _ _ _).mono ?_; rintro e w' ⟨rfl, rfl⟩)
  go_ret
  refine ⟨ret_bool ?_, rfl⟩
  simp only [unhide Hi]
  simp
theorem within_any (a b c : Int) (w : World) (hbc : b ≤ c) :
    Calls Tryz.prog 86 #[.int .i64 a, .int .i64 b, .int .i64 c] w fun e w' => e = .returned (.bool (P.within a b c)) ∧ w' = w := by
  by_cases h1 : c < a
  · by_cases h2 : b < c
    · go_enter Tryz.func86, Tryz.ntmps86
      go_wp2
      go_ret
      exact ⟨ret_bool (by rw [Bool.eq_iff_iff]; simp [P.within]; omega), rfl⟩
    · go_enter Tryz.func86, Tryz.ntmps86
      go_wp2
      go_ret
      exact ⟨ret_bool (by rw [Bool.eq_iff_iff]; simp [P.within]; omega), rfl⟩
  · by_cases h2 : b < a
    · go_enter Tryz.func86, Tryz.ntmps86
      go_wp2
      go_ret
      exact ⟨ret_bool (by rw [Bool.eq_iff_iff]; simp [P.within]; omega), rfl⟩
    · go_enter Tryz.func86, Tryz.ntmps86
      go_wp2
      go_ret
      exact ⟨ret_bool (by rw [Bool.eq_iff_iff]; simp [P.within]; omega), rfl⟩
theorem len_eq (s : ByteArray) : s.data.toList.length = s.size := by simp
theorem within_len (s : ByteArray) (c : Nat) : P.within (s.size : Int) 1 (c : Int) = decide (1 ≤ s.data.toList.length ∧ s.data.toList.length ≤ c) := by
  rw [Bool.eq_iff_iff]
  simp only [P.within, decide_eq_true_eq, ByteArray.size, Array.length_toList]
  omega
theorem isName_eq (s : ByteArray) : P.isName s.data.toList = (P.within (s.size : Int) 1 12 && !P.has s.data.toList 47 && !P.has s.data.toList 0 && !(s.toList == [46]) && !(s.toList == [46, 46])) := by
  have e := within_len s 12
  unfold P.isName
  rw [ByteArray.toList_eq, ← e]
  rfl
theorem isTarget_eq (s : ByteArray) : P.isTarget s.data.toList = (P.within (s.size : Int) 1 30 && !P.has s.data.toList 0) := by
  have e := within_len s 30
  unfold P.isTarget
  rw [← e]
  rfl
set_option maxHeartbeats 400000 in
theorem isName_any (s : ByteArray) (w : World) (hs : s.size ≤ maxLen) :
    Calls Tryz.prog 170 #[.string s] w fun e w' => e = .returned (.bool (P.isName s.data.toList)) ∧ w' = w := by
  unfold maxLen at hs
  go_enter Tryz.func170, Tryz.ntmps170
  go_wp2_with (first | (go_at_call 86; refine (within_any _ _ _ _ (by decide)).mono ?_; rintro e w' ⟨rfl, rfl⟩) | (go_at_call 194; refine (textHas _ _ _).mono ?_; rintro e w' ⟨rfl, rfl⟩))
  all_goals
    go_ret
    refine ⟨ret_bool ?_, rfl⟩
    rw [isName_eq s]
    simp_all
set_option maxHeartbeats 400000 in
theorem isTarget_any (s : ByteArray) (w : World) (hs : s.size ≤ maxLen) :
    Calls Tryz.prog 172 #[.string s] w fun e w' => e = .returned (.bool (P.isTarget s.data.toList)) ∧ w' = w := by
  unfold maxLen at hs
  go_enter Tryz.func172, Tryz.ntmps172
  go_wp2_with (first | (go_at_call 86; refine (within_any _ _ _ _ (by decide)).mono ?_; rintro e w' ⟨rfl, rfl⟩) | (go_at_call 194; refine (textHas _ _ _).mono ?_; rintro e w' ⟨rfl, rfl⟩))
  all_goals
    go_ret
    refine ⟨ret_bool ?_, rfl⟩
    rw [isTarget_eq s]
    simp_all
theorem all_take_succ (s : ByteArray) (k : Nat) (h : k < s.size) (p : UInt8 → Bool) (ha : (s.data.toList.take k).all p = true) (hp : p s[k] = true) : (s.data.toList.take (k + 1)).all p = true := by
  rw [P.take_snoc s k h, List.all_append, ha]; simp [hp]
theorem all_not (s : ByteArray) (k : Nat) (h : k < s.size) (p : UInt8 → Bool) (hp : p s[k] = false) : s.data.toList.all p = false := by
  rw [List.all_eq_false]
  exact ⟨s[k], List.getElem_mem (l := s.data.toList) (n := k) (by simpa using h), by simp [hp]⟩
theorem isDigest_no (s : ByteArray) (h : ¬ s.size = 3) : P.isDigest s.data.toList = false := by
  unfold P.isDigest
  rw [len_eq, decide_eq_false h]; rfl
theorem isDigest_yes (s : ByteArray) (h : s.size = 3) : P.isDigest s.data.toList = s.data.toList.all (fun c => P.has P.hexd c) := by
  unfold P.isDigest
  rw [len_eq, decide_eq_true h]; rfl
set_option maxHeartbeats 400000 in
theorem isDigest_any (s : ByteArray) (w : World) (hs : s.size ≤ maxLen) :
    Calls Tryz.prog 171 #[.string s] w fun e w' => e = .returned (.bool (P.isDigest s.data.toList)) ∧ w' = w := by
  unfold maxLen at hs
  by_cases h3 : s.size = 3
  · have H3 := hide h3
    have b3 : ((s.size : Int) != 3) = false := by simp [h3]
    have c3 : s.size ≤ 3 := by omega
    have d3 : 3 ≤ s.size := by omega
    clear h3
    go_enter Tryz.func171, Tryz.ntmps171
    go_wp2
    go_loop [9] (fun i => ∃ k : Nat, k ≤ s.size ∧ i = .int .i64 k ∧ (s.data.toList.take k).all (fun c => P.has P.hexd c) = true) (fun i => s.size - (intOf i).toNat)
    case atStart => exact ⟨0, Nat.zero_le _, rfl, by simp⟩
    case round =>
      obtain ⟨k, hk, rfl, hall⟩ := hrel
      have Hall := hide hall
      clear hall
      by_cases hlt : k < s.size
      · go_wp2_with (go_at_call 195; refine (indexByte_any _ _ _).mono ?_; rintro e w' ⟨rfl, rfl⟩)
        · have hn : Lib.indexByte P.hexd s[k] < 0 := by assumption
          go_ret
          have hf : P.has P.hexd s[k] = false := by
            rw [Bool.eq_false_iff, Ne, ← idx_ge]; omega
          exact ⟨ret_bool (by rw [isDigest_yes s (unhide H3), all_not s k hlt _ hf]), rfl⟩
        · have hn : 0 ≤ Lib.indexByte P.hexd s[k] := by assumption
          have hf : P.has P.hexd s[k] = true := by rw [← idx_ge]; exact hn
          go_round
          case rel => exact ⟨k + 1, by omega, by go_num, all_take_succ s k hlt _ (unhide Hall) hf⟩
          case measure => simp [intOf]; omega
      · obtain rfl : k = s.size := by omega
        go_wp2
        go_ret
        exact ⟨ret_bool (by rw [isDigest_yes s (unhide H3), ← unhide Hall, List.take_of_length_le (by simp)]), rfl⟩
  · have b3 : ((s.size : Int) != 3) = true := by simp; omega
    go_enter Tryz.func171, Tryz.ntmps171
    go_wp2
    go_ret
    exact ⟨ret_bool (isDigest_no s h3).symm, rfl⟩
end Go.Proofs.YtjmacegibchplaaGreatDoor

/-
  The document's small tests of texts (the statements' own): their contracts.
-/
namespace Go.Proofs.YtjmacegibchplaaGreatDoor
open Go.RowKit
set_option linter.unusedVariables false
theorem conv_one (w : World) (x : Int) :
    (convert 102 9 (.slice (some ⟨w.heap.size, 0, none⟩) 1 1)).run Tryz.prog (w.alloc (.cells #[.int .u8 x] 5)) = .ok (.string (strOfNums [x])) (w.alloc (.cells #[.int .u8 x] 5)) := by
  refine run_convert_bytes_arg _ 102 5 Tryz.underlying102 Tryz.underlying5 _ 0 1 1 [x] rfl ?_ 9 Tryz.underlying9
  intro i hi
  match i, hi with
  | 0, _ => simp
theorem shapeOf_any (k : Int) (w : World) :
    Calls Tryz.prog 144 #[.int .i64 k] w fun e w' => e = .returned (.int .i64 (P.shape k)) ∧ w' = w := by
  by_cases h0 : k = 0
  · subst h0
    go_enter Tryz.func144, Tryz.ntmps144
    go_wp2
    go_ret
    exact ⟨rfl, rfl⟩
  by_cases h1 : k = 1
  · subst h1
    go_enter Tryz.func144, Tryz.ntmps144
    go_wp2
    go_ret
    exact ⟨rfl, rfl⟩
  by_cases h2 : k = 2
  · subst h2
    go_enter Tryz.func144, Tryz.ntmps144
    go_wp2
    go_ret
    exact ⟨rfl, rfl⟩
  by_cases h3 : k = 3
  · subst h3
    go_enter Tryz.func144, Tryz.ntmps144
    go_wp2
    go_ret
    exact ⟨rfl, rfl⟩
  have b0 : (k == 0) = false := by simp [h0]
  have b1 : (k == 1) = false := by simp [h1]
  have b2 : (k == 2) = false := by simp [h2]
  have b3 : (k == 3) = false := by simp [h3]
  have hs := hide (show P.shape k = 0 by simp [P.shape, h0, h1, h2, h3])
  clear h0 h1 h2 h3
  go_enter Tryz.func144, Tryz.ntmps144
  go_wp2
  go_ret
  exact ⟨ret_int (unhide hs).symm, rfl⟩
end Go.Proofs.YtjmacegibchplaaGreatDoor
