import Derived.Test.YtjmacegibchplaaGreatDoorOfD
import Derived.Test.YtjmacegibchplaaGreatDoorShelfC
import Derived.Sort.KeysCollected
import Derived.TacticsIn
import Derived.Test.YtjmacegibchplaaGreatDoorTreeF
import Derived.OwnWalk
/-
  The program's Set: its digests, its blobs, one by one.
-/
namespace Go.Proofs.YtjmacegibchplaaGreatDoor
open Go.RowKit Go.Maps Go.Sort Go.Shelf
set_option linter.unusedVariables false

theorem sortsAt (m : Nat) : AnyZ.SortsIn Tryz.prog Tryz.sortedL_ren Fence.wide m :=
  ⟨fun blk off cap ss W hH hblk hsz => callsIn_wide.2 (AnyM.slices_Sort_string Tryz.sortL blk off cap ss W hH hblk hsz), fun p cap W => callsIn_wide.2 (AnyM.slices_Sort_string_none Tryz.sortL p cap W)⟩
theorem keys_at (mb : Option Nat) (W : World) : Calls Tryz.prog 107 #[.map mb] W fun e w' => e = .returned (.func (.func 156) #[] #[.pointer (some ⟨W.heap.size, 0, none⟩)]) ∧ w' = W.alloc (.cells #[.map mb] 75) :=
  (callsIn_wide (n := 5)).1 (AnyZ.keys_in Tryz.keysL Fence.wide 5 trivial rfl mb W)
set_option maxHeartbeats 1000000 in
theorem sorted_at {H : Type} (b nn : Nat) (D0 : DataW H) (R : Value → Option (DataW H × List MemPlace)) (w : World) (hown : w.ownsMap Tryz.prog 9 R b nn D0) (hmax : Maps.size D0 ≤ maxLen) (hbytes : Maps.size D0 * 16 ≤ 140737488355328) :
    Calls Tryz.prog 106 #[.func (.func 156) #[] #[.pointer (some ⟨w.heap.size, 0, none⟩)]] (w.alloc (.cells #[.map (some b)] 75)) fun e w' => ∃ (v : Value) (ss : List (List UInt8)), e = .returned v ∧ ss.Perm (strKeys D0) ∧
      w'.ownsRow (w.alloc (.cells #[.map (some b)] 75)).heap.size 9 1 v ss.length ((ss.mergeSort (fun x y => decide (x ≤ y))).map encStr) ∧ (v = .slice none 0 0 ↔ ss = []) ∧ Below (w.alloc (.cells #[.map (some b)] 75)).heap.size (w.alloc (.cells #[.map (some b)] 75)) w' := by
  have hbl := hown.lt
  have hseq : SeqGives Fence.wide 2 Tryz.prog 156 #[.pointer (some ⟨w.heap.size, 0, none⟩)] encStr (fun ss => ss.Perm (strKeys D0)) (Maps.size D0) (w.alloc (.cells #[.map (some b)] 75)) :=
    AnyZ.keys_gives (ρ := Tryz.keysL_ren) { Tryz.keysL with } Fence.wide _ trivial rfl (by omega) w.heap.size b nn D0 _ (by simp) (by simp) (hown.alloc _)
  exact (callsIn_wide (n := 5)).1 (AnyZ.sorted_in Tryz.sortedL Fence.wide 5 trivial trivial trivial trivial rfl (by omega) (sortsAt _) (enters_of Tryz.func155 (by kernel_rfl) rfl) 156 #[.pointer (some ⟨w.heap.size, 0, none⟩)] trivial (enters_of Tryz.func156 (by kernel_rfl) rfl) _ _ hmax hbytes _ hseq)
theorem sorted_nil (w : World) :
    Calls Tryz.prog 106 #[.func (.func 156) #[] #[.pointer (some ⟨w.heap.size, 0, none⟩)]] (w.alloc (.cells #[.map none] 75)) fun e w' => e = .returned (.slice none 0 0) ∧ Below w.heap.size w w' := by
  have hseq : SeqGives Fence.wide 2 Tryz.prog 156 #[.pointer (some ⟨w.heap.size, 0, none⟩)] encStr (fun ss : List (List UInt8) => ss = []) 0 (w.alloc (.cells #[.map none] 75)) :=
    AnyZ.keys_gives_nil (ρ := Tryz.keysL_ren) { Tryz.keysL with } Fence.wide _ trivial rfl w.heap.size _ (by simp) (by simp)
  have h := (callsIn_wide (n := 5)).1 (AnyZ.sorted_in Tryz.sortedL Fence.wide 5 trivial trivial trivial trivial rfl (by omega) (sortsAt _) (enters_of Tryz.func155 (by kernel_rfl) rfl) 156 #[.pointer (some ⟨w.heap.size, 0, none⟩)] trivial (enters_of Tryz.func156 (by kernel_rfl) rfl) _ 0 (Nat.zero_le _) (by omega) _ hseq)
  refine h.mono ?_
  rintro e w' ⟨v, ss, rfl, hs, _, hnil, hb⟩
  rw [hnil.2 hs]
  exact ⟨rfl, ((Below.refl _ _).alloc (Nat.le_refl _) _).trans (hb.mono (by simp))⟩
theorem less_lt : ∀ (a b : List UInt8), less a b = decide (a < b)
  | [], [] => rfl
  | [], _ :: _ => rfl
  | _ :: _, [] => rfl
  | x :: a, y :: b => by
    rw [less_cons, less_lt a b]
    by_cases h1 : x < y
    · simp [List.cons_lt_cons_iff, h1]
    · by_cases h2 : x = y
      · subst h2; simp
      · simp [List.cons_lt_cons_iff, h1, h2]
/-- a text put in its place -/
def insU (d : List UInt8) : List (List UInt8) → List (List UInt8)
  | [] => [d]
  | x :: r => if less d x = true then d :: x :: r else if d = x then x :: r else x :: insU d r
theorem insU_mem (d : List UInt8) : ∀ (r : List (List UInt8)) (y : List UInt8), y ∈ insU d r ↔ y = d ∨ y ∈ r
  | [], y => by simp [insU]
  | x :: r, y => by
    unfold insU
    split
    · simp
    · split
      · rename_i h; subst h; simp
      · simp only [List.mem_cons, insU_mem d r]
        constructor
        · rintro (h | h | h)
          · exact .inr (.inl h)
          · exact .inl h
          · exact .inr (.inr h)
        · rintro (h | h | h)
          · exact .inr (.inl h)
          · exact .inl h
          · exact .inr (.inr h)
theorem insU_sorted (d : List UInt8) : ∀ (r : List (List UInt8)), r.Pairwise (fun x y => less x y = true) → (insU d r).Pairwise (fun x y => less x y = true)
  | [], _ => by simp [insU]
  | x :: r, h => by
    rw [List.pairwise_cons] at h
    unfold insU
    split
    · rename_i hd
      rw [List.pairwise_cons]
      refine ⟨fun y hy => ?_, List.pairwise_cons.2 h⟩
      rcases List.mem_cons.1 hy with rfl | hy
      · exact hd
      · exact less_trans _ _ _ hd (h.1 y hy)
    · rename_i hd
      split
      · exact List.pairwise_cons.2 h
      · rename_i hne
        rw [List.pairwise_cons]
        refine ⟨fun y hy => ?_, insU_sorted d r h.2⟩
        rcases (insU_mem d r y).1 hy with rfl | hy
        · cases hxy : less x y with
          | true => rfl
          | false => exact absurd (less_tri y x (by simpa using hd) hxy) hne
        · exact h.1 y hy
/-- the digests of what is kept, rising -/
def digsOf (kr : List (List UInt8)) : List (List UInt8) := kr.foldr (fun b acc => insU (P.digest b) acc) []
theorem digs_mem : ∀ (kr : List (List UInt8)) (d : List UInt8), d ∈ digsOf kr ↔ ∃ b ∈ kr, P.digest b = d
  | [], d => by simp [digsOf]
  | b :: kr, d => by
    have ih := digs_mem kr d
    show d ∈ insU (P.digest b) (digsOf kr) ↔ _
    rw [insU_mem, ih]
    simp only [List.mem_cons]
    constructor
    · rintro (h | ⟨x, hx, e⟩)
      · exact ⟨b, .inl rfl, h.symm⟩
      · exact ⟨x, .inr hx, e⟩
    · rintro ⟨x, rfl | hx, e⟩
      · exact .inl e.symm
      · exact .inr ⟨x, hx, e⟩
theorem digs_sorted : ∀ (kr : List (List UInt8)), (digsOf kr).Pairwise (fun x y => less x y = true)
  | [] => List.Pairwise.nil
  | b :: kr => insU_sorted _ _ (digs_sorted kr)
theorem lastR_isSome (kr : List (List UInt8)) (d : List UInt8) : (lastR kr d).isSome = true ↔ ∃ b ∈ kr, P.digest b = d := by
  constructor
  · intro h
    obtain ⟨y, hy⟩ := Option.isSome_iff_exists.1 h
    exact ⟨y, lastR_some hy⟩
  · rintro ⟨b, hb, e⟩
    cases h : lastR kr d with
    | some _ => rfl
    | none => exact absurd e (lastR_none h b hb)
theorem digs_len : ∀ (kr : List (List UInt8)), (digsOf kr).length ≤ kr.length
  | [] => by simp [digsOf]
  | b :: kr => by
    have ih := digs_len kr
    have key : ∀ (d : List UInt8) (r : List (List UInt8)), (insU d r).length ≤ r.length + 1 := by
      intro d r
      induction r with
      | nil => simp [insU]
      | cons x r ih =>
        unfold insU
        split
        · simp
        · split
          · simp
          · simp; omega
    have := key (P.digest b) (digsOf kr)
    show (insU (P.digest b) (digsOf kr)).length ≤ _
    simp; omega
/-- the sorted keys of the map are the digests -/
theorem keys_digs {w : World} {um n : Nat} {kr : List (List UInt8)} {D : DataW Value} (h : w.ownsMap Tryz.prog 9 rawElem um n D) (hf : ∀ k, Maps.has D (.string k) = (blobsF kr k).isSome) (ss : List (List UInt8)) (hp : ss.Perm (strKeys D)) : ss.mergeSort (fun x y => decide (x ≤ y)) = digsOf kr := by
  obtain ⟨es, rfl, hk⟩ := h.keysOf
  have hstr : ∀ p ∈ es, ∃ x, p.1 = .string x := fun p hp => by
    obtain ⟨v, hv⟩ := hk p hp
    obtain ⟨x, _, e, _⟩ := Maps.keyOf_str Tryz.underlying9 hv
    exact ⟨x, e⟩
  obtain ⟨es', e1, htidy⟩ := h.tidy strKeyed
  obtain rfl : es = es' := by simpa using e1
  have hnd : (strKeys (DataW.map es)).Pairwise (fun x y => x ≠ y) := by
    show (es.map fun p => strOf p.1).Pairwise _
    rw [List.pairwise_map]
    refine List.Pairwise.imp_of_mem ?_ htidy
    intro p q hp hq hne e
    obtain ⟨x, hx⟩ := hstr p hp
    obtain ⟨y, hy⟩ := hstr q hq
    rw [hx, hy] at e
    simp only [strOf] at e
    exact hne (by rw [hx, hy, e])
  have hmem : ∀ d, d ∈ strKeys (DataW.map es) ↔ ∃ b ∈ kr, P.digest b = d := by
    intro d
    rw [← lastR_isSome]
    have h1 : (lastR kr d).isSome = (blobsF kr d).isSome := by unfold blobsF; simp
    rw [h1, ← hf d, has_eq, List.any_eq_true]
    show d ∈ es.map (fun p => strOf p.1) ↔ _
    rw [List.mem_map]
    constructor
    · rintro ⟨p, hp, e⟩
      obtain ⟨x, hx⟩ := hstr p hp
      rw [hx] at e
      simp only [strOf] at e
      exact ⟨p, hp, by rw [hx, e]; exact WideAt.sameKey_self trivial⟩
    · rintro ⟨p, hp, e⟩
      have := WideAt.sameKey_eq e
      exact ⟨p, hp, by rw [this]; rfl⟩
  have tr : ∀ a b c : List UInt8, decide (a ≤ b) = true → decide (b ≤ c) = true → decide (a ≤ c) = true := fun a b c h1 h2 => by simp only [decide_eq_true_eq] at *; exact List.le_trans h1 h2
  have tt : ∀ a b : List UInt8, (decide (a ≤ b) || decide (b ≤ a)) = true := fun a b => by simp only [Bool.or_eq_true, decide_eq_true_eq]; exact List.le_total a b
  have hs := List.pairwise_mergeSort tr tt ss
  have hpm := (List.mergeSort_perm ss (fun x y => decide (x ≤ y))).trans hp
  have hne : (ss.mergeSort (fun x y => decide (x ≤ y))).Pairwise (fun x y => x ≠ y) := (hpm.pairwise_iff (fun h => Ne.symm h)).2 hnd
  refine order_one less less_irr less_trans _ _ ((hs.and hne).imp ?_) (digs_sorted kr) (fun d => ?_)
  · rintro x y ⟨h1, h2⟩
    have h1' : x ≤ y := by simpa using h1
    rw [less_lt, decide_eq_true_eq]
    rcases List.le_iff_lt_or_eq.1 h1' with h | h
    · exact h
    · exact absurd h h2
  · rw [hpm.mem_iff, hmem, digs_mem]
end Go.Proofs.YtjmacegibchplaaGreatDoor

/-
  The document's Build: its contract.
-/
namespace Go.Proofs.YtjmacegibchplaaGreatDoor
open Go.RowKit
set_option linter.unusedVariables false

theorem tree_of (l : List En) (h : wrongP l = 0) : Tree l := by
  rw [wrongP_eq] at h
  split at h
  · simp at h
  · rename_i h40
    split at h
    · simp at h
    · rename_i ha
      refine ⟨by omega, fun i hi => ?_⟩
      have : (List.range l.length).all (fineP l) = true := by simpa using ha
      exact List.all_eq_true.1 this i (by simpa using hi)
/-- how a Build of the document ends -/
def BuildEnd (l : List En) (base : Nat) (e : Ending) (w' : World) : Prop :=
  (wrongP l ≠ 0 ∧ e = .returned (.tuple #[.string ⟨#[]⟩, .slice none 0 0, .int .i64 (wrongP l)])) ∨
  (wrongP l = 0 ∧ builtP l = none ∧ e = .returned (.tuple #[.string ⟨#[]⟩, .slice none 0 0, .int .i64 3])) ∨
  ∃ out v, wrongP l = 0 ∧ builtP l = some out ∧ e = .returned (.tuple #[.string (bs (P.digest (blobP l 6 []))), v, .int .i64 0]) ∧ OwnsS w' base v out
set_option maxHeartbeats 1000000 in
theorem refBuild_any (l : List En) (a : Option Addr) (c : Nat) (w : World) (hl : l.length ≤ maxLen) (hi : LiesE w a l) (hf : TFit l) :
    Calls Tryz.prog 17 #[.slice a l.length c] w fun e w' => Below w.heap.size w w' ∧ BuildEnd l w.heap.size e w' := by
  go_enter Tryz.func17, Tryz.ntmps17
  go_wp2_with fail
  refine (wrong_any l a c w hl hi hf).mono ?_
  rintro e w1 ⟨rfl, hb1⟩
  obtain ⟨W, hW⟩ : ∃ W, wrongP l = W := ⟨_, rfl⟩
  by_cases h0 : W = 0
  · subst h0
    have ht := tree_of l hW
    have HW := hide hW
    rw [hW]
    clear hW
    go_wp2_with fail
    refine (built_any l ht (fun i h => (hf i h).2) a c w1 (hi.below hb1 (Nat.le_refl _))).mono ?_
    rintro e w2 ⟨hb2, h2⟩
    have hw2 := hb1.trans (hb2.mono hb1.size)
    rcases h2 with ⟨hn, rfl⟩ | ⟨out, v, hs, rfl, ho⟩
    · have Hn := hide hn
      clear hn
      go_wp2_with fail
      go_ret3
      exact ⟨hw2, .inr (.inl ⟨unhide HW, unhide Hn, rfl⟩)⟩
    · have Hs := hide hs
      clear hs
      go_wp2_with fail
      refine (blob_any l ht (fun i h => (hf i h).2) 6 [] a c w2 (hi.below hw2 (Nat.le_refl _)) (.inl rfl) (by simp) (by rw [dep_nil]; omega) (by rw [dep_nil]; omega)).mono ?_
      rintro e w3 ⟨rfl, hb3⟩
      have hw3 := hw2.trans (hb3.mono hw2.size)
      have ho3 := (ho.below hb3).weak hb1.size
      have hsm := blob_small l ht 6 [] (.inl rfl)
      clear ho hb3
      generalize hB : blobP l 6 [] = B at *
      have HB := hide hB
      clear hB
      go_wp2_with fail
      refine (refDigest_bs B _ (by omega)).mono ?_
      rintro e w4 ⟨rfl, n4, hw4⟩
      subst hw4
      go_wp2_with fail
      go_ret3
      exact ⟨below_drewN hw3 _, .inr (.inr ⟨out, v, unhide HW, unhide Hs, by rw [unhide HB]; rfl, ho3.below (below_drewN (Below.refl _ _) _)⟩)⟩
  · have g : (W != 0) = true := by simpa using h0
    have HW := hide hW
    rw [hW]
    clear hW
    go_wp2_with fail
    go_ret3
    exact ⟨hb1, .inl ⟨by rw [unhide HW]; exact h0, by rw [unhide HW]; rfl⟩⟩
set_option maxHeartbeats 1000000 in
theorem sameTexts_same (l : List (List UInt8)) (a1 a2 : Option Addr) (c1 c2 : Nat) (w : World) (hl : l.length ≤ maxLen) (h1 : TextsAt w a1 l) (h2 : TextsAt w a2 l) :
    Calls Tryz.prog 41 #[.slice a1 l.length c1, .slice a2 l.length c2] w fun e w' => e = .returned (.bool true) ∧ ∃ n, w' = w.drewN n := by
  unfold maxLen at hl
  have hb : ((l.length : Int) != (l.length : Int)) = false := by simp
  go_enter Tryz.func41, Tryz.ntmps41
  go_wp2_with fail
  go_loopw [5] (fun i wr => ∃ k : Nat, k ≤ l.length ∧ i = .int .i64 k ∧ ∃ n, wr = w.drewN n) (fun i _ => l.length - (intOf i).toNat)
  case atStart => exact ⟨0, by omega, rfl, 0, rfl⟩
  case round =>
    obtain ⟨k, hk, rfl, n, hwr⟩ := hrel
    subst hwr
    by_cases hlt : k < l.length
    · obtain ⟨b1, o1, rfl, i1⟩ : ∃ b o, a1 = some ⟨b, o, none⟩ ∧ ∀ i (h : i < l.length), w.cell? ⟨b, o + i, none⟩ = some (strVal l[i]) := by
        rcases h1 with h | h
        · subst h; simp at hlt
        · exact h
      obtain ⟨b2, o2, rfl, i2⟩ : ∃ b o, a2 = some ⟨b, o, none⟩ ∧ ∀ i (h : i < l.length), w.cell? ⟨b, o + i, none⟩ = some (strVal l[i]) := by
        rcases h2 with h | h
        · subst h; simp at hlt
        · exact h
      have p0 := i1 k hlt
      have r0 := i2 k hlt
      clear i1 i2
      generalize l[k] = x at *
      unfold strVal at p0 r0
      have hlt' : (k : Int) < (l.length : Int) := by omega
      have heq : ((bs x).toList == (bs x).toList) = true := by simp
      go_wp2_with fail
      go_quiet (fail)
      go_wp2
      go_roundw
      case rel => exact ⟨k + 1, by omega, by go_num, _, rfl⟩
      case measure => simp [intOf]; omega
    · obtain rfl : k = l.length := by omega
      go_wp2_with fail
      go_ret
      exact ⟨rfl, n, rfl⟩
end Go.Proofs.YtjmacegibchplaaGreatDoor

/-
  The program's Set: Digests, Bytes, List; and Build.
-/
namespace Go.Proofs.YtjmacegibchplaaGreatDoor
open Go.RowKit Go.Maps
set_option linter.unusedVariables false

theorem field_blob (s : ByteArray) (w : World) : (Instr.field 107 (.agg #[.string s]) 0).run Tryz.prog w = .ok (.string s) w := by kernel_rfl
def setV (root : ByteArray) (m : Option Nat) : Value := .agg #[.string root, .map m]
set_option maxRecDepth 100000 in
set_option maxHeartbeats 1000000 in
theorem digests_any (root : ByteArray) (um n : Nat) (kr : List (List UInt8)) (w : World) (hm : MapIs w um n (blobsF kr)) (hn : n ≤ 5000000000) :
    Calls Tryz.prog 67 #[setV root (some um)] w fun e w' => ∃ v, e = .returned v ∧ OwnsS w' w.heap.size v (digsOf kr) ∧ Below w.heap.size w w' := by
  have hm1 := hm.alloc (.cells #[.string root, .map (some um)] 77)
  obtain ⟨D, hown, hf⟩ := hm1
  have hsz := hown.size_le
  have hs := sorted_at um n D rawElem _ hown (by unfold maxLen; omega) (by omega)
  rw [show (w.alloc (.cells #[.string root, .map (some um)] 77)).heap.size = w.heap.size + 1 by simp] at hs
  have hkd := fun ss => keys_digs hown (fun k => (hf k).1) ss
  have Hs := hide hs
  have Hkd := hide hkd
  have hk := keys_at (some um)
  clear hs hkd hown hf hm
  unfold setV
  go_enter Tryz.func67, Tryz.ntmps67
  go_wp2_with (go_at_call 107; refine (hk _).mono ?_; rintro e w' ⟨rfl, hw'⟩; rw [hw']; clear hw' w')
  refine (unhide Hs).mono ?_
  rintro e w2 ⟨v, ss, rfl, hp, hrow, _, hb2⟩
  have he := unhide Hkd ss hp
  rw [he] at hrow
  have hlen : ss.length = (digsOf kr).length := by rw [← he, List.length_mergeSort]
  have ho : OwnsS w2 w.heap.size v (digsOf kr) := by
    unfold OwnsS
    rw [← hlen]
    have h2 : (digsOf kr).map Go.Proofs.encStr = (digsOf kr).map strVal := rfl
    rw [h2] at hrow
    exact ⟨hrow.1, hrow.2.imp id (fun ⟨g, cap, cur, h1, h2, h3⟩ => ⟨g, cap, cur, h1, by simp at h2; omega, h3⟩)⟩
  have hbb : Below w.heap.size w w2 := (((Below.refl _ _).alloc (Nat.le_refl _) _).alloc (by simp) _).trans (hb2.mono (by simp; omega))
  clear hrow hp he hlen hb2 Hs Hkd hk
  go_wp2_with fail
  go_ret
  exact ⟨_, rfl, ho, hbb⟩
set_option maxRecDepth 100000 in
set_option maxHeartbeats 1000000 in
theorem digests_nil (root : ByteArray) (w : World) :
    Calls Tryz.prog 67 #[setV root none] w fun e w' => e = .returned (.slice none 0 0) ∧ Below w.heap.size w w' := by
  have hk := keys_at none
  have hs := sorted_nil (w.alloc (.cells #[.string root, .map none] 77))
  rw [show (w.alloc (.cells #[.string root, .map none] 77)).heap.size = w.heap.size + 1 by simp] at hs
  have Hs := hide hs
  clear hs
  unfold setV
  go_enter Tryz.func67, Tryz.ntmps67
  go_wp2_with (go_at_call 107; refine (hk _).mono ?_; rintro e w' ⟨rfl, hw'⟩; rw [hw']; clear hw' w')
  refine (unhide Hs).mono ?_
  rintro e w2 ⟨rfl, hb2⟩
  have hbb : Below w.heap.size w w2 := ((Below.refl _ _).alloc (Nat.le_refl _) _).trans (hb2.mono (by simp))
  clear hb2 Hs hk
  go_wp2_with fail
  go_ret
  exact ⟨rfl, hbb⟩
set_option maxRecDepth 100000 in
set_option maxHeartbeats 1000000 in
theorem bytes_any (root : ByteArray) (um n : Nat) (kr : List (List UInt8)) (d y : List UInt8) (w : World) (hm : MapIs w um n (blobsF kr)) (hd : d.length ≤ maxLen) (hy : lastR kr d = some y) :
    Calls Tryz.prog 68 #[setV root (some um), .string (bs d)] w fun e w' => e = .returned (.string (bs y)) ∧ w' = w.alloc (.cells #[.string root, .map (some um)] 77) := by
  have hF : blobsF kr d = some (.agg #[.string (bs y)]) := by unfold blobsF; rw [hy]; rfl
  have hfd := field_blob
  unfold setV
  go_enter Tryz.func68, Tryz.ntmps68
  go_wp2_with (at_lookup; refine wp_look rfl _ _ 75 rfl 107 under40 (.agg #[.string ⟨#[]⟩]) (zero_blob _) um n (blobsF kr) rfl (hm.alloc _) d rfl hd ?_; rw [hF]; simp only [Option.getD_some])
  go_ret
  exact ⟨rfl, rfl⟩
/-- the blobs by rising digests -/
def listOf (kr : List (List UInt8)) : List (List UInt8) := (digsOf kr).map (fun d => (lastR kr d).getD [])
theorem OwnsS.weak' {w : World} {b b' : Nat} {v : Value} {l : List (List UInt8)} (h : OwnsS w b v l) (hb : b' ≤ b) : OwnsS w b' v l :=
  ⟨h.1, h.2.imp id (fun ⟨g, cap, cur, h1, h2, h3⟩ => ⟨g, cap, cur, h1, Nat.le_trans hb h2, h3⟩)⟩
set_option maxRecDepth 100000 in
set_option maxHeartbeats 2000000 in
theorem list_any (root : ByteArray) (um n : Nat) (kr : List (List UInt8)) (w : World) (hm : MapIs w um n (blobsF kr)) (hn : n ≤ 5000000000) (hdl : (digsOf kr).length ≤ 1000000) :
    Calls Tryz.prog 52 #[setV root (some um)] w fun e w' => ∃ v, e = .returned v ∧ OwnsS w' w.heap.size v (listOf kr) ∧ Below w.heap.size w w' := by
  have hm1 := hm.alloc (.cells #[.string root, .map (some um)] 77)
  have hdg := digests_any root um n kr _ hm1 hn
  have hbA : Below w.heap.size w (w.alloc (.cells #[.string root, .map (some um)] 77)) := (Below.refl _ _).alloc (Nat.le_refl _) _
  unfold setV at hdg
  have Hdg := hide hdg
  clear hdg
  unfold setV
  go_enter Tryz.func52, Tryz.ntmps52
  go_wp2_with fail
  refine (unhide Hdg).mono ?_
  rintro e w2 ⟨v, rfl, ho, hb2⟩
  obtain ⟨a, c, rfl, hta, -, -⟩ := ho.texts
  have hbb : Below w.heap.size w w2 := hbA.trans (hb2.mono hbA.size)
  have hs2 : w2.heap[w.heap.size]? = some (.cells #[.string root, .map (some um)] 77 (0, 0)) := (hb2.block w.heap.size (by simp)).trans (heap_alloc_new w _)
  have hm2 : MapIs w2 um n (blobsF kr) := hm1.same (hb2.block um hm1.lt)
  have hmem := digs_mem kr
  clear Hdg ho hb2 hm1 hbA hm
  generalize hD : digsOf kr = ds at *
  have HL := hide (show listOf kr = ds.map (fun d => (lastR kr d).getD []) by unfold listOf; rw [hD])
  go_wp2_with fail
  go_loopw [3, 9] (fun v i wr => ∃ k : Nat, k ≤ ds.length ∧ i = .int .i64 k ∧ OwnsS wr w2.heap.size v ((ds.take k).map (fun d => (lastR kr d).getD [])) ∧ Below w2.heap.size w2 wr) (fun _ i _ => ds.length - (intOf i).toNat)
  case atStart => exact ⟨0, Nat.zero_le _, rfl, World.ownsRow_nil _ _ _ _, Below.refl _ _⟩
  case round =>
    obtain ⟨k, hk, rfl, hown, hb⟩ := hrel
    by_cases hlt : k < ds.length
    · obtain ⟨b, o, rfl, hc⟩ : ∃ b o, a = some ⟨b, o, none⟩ ∧ ∀ i (h : i < ds.length), w2.cell? ⟨b, o + i, none⟩ = some (strVal ds[i]) := by
        rcases hta with h | h
        · subst h; simp at hlt
        · exact h
      have ck := (hb.cell (p := ⟨b, o + k, none⟩) (block_lt (hc k hlt))).trans (hc k hlt)
      obtain ⟨d, hd⟩ : ∃ d, ds[k] = d := ⟨_, rfl⟩
      have hdm : d ∈ ds := by rw [← hd]; exact List.getElem_mem hlt
      obtain ⟨y, hy⟩ : ∃ y, lastR kr d = some y := Option.isSome_iff_exists.1 ((lastR_isSome kr d).2 ((hmem d).1 hdm))
      have hdl3 : d.length ≤ maxLen := by
        have := (lastR_some hy).2
        rw [← this, digest_len]; decide
      have Htk := hide (show (ds.take (k + 1)).map (fun d => (lastR kr d).getD []) = (ds.take k).map (fun d => (lastR kr d).getD []) ++ [y] by rw [List.take_succ_eq_append_getElem hlt, List.map_append, hd]; simp [hy])
      rw [hd] at ck
      unfold strVal at ck
      have q2 : (k : Int) < (ds.length : Int) := by omega
      have hlw := (Array.getElem?_eq_some_iff.1 hs2).1
      have hsr := (hb.block w.heap.size hlw).trans hs2
      have c0 := cell_of_block (j := 0) hsr
      have c1 := cell_of_block (j := 1) hsr
      simp only [List.getElem?_toArray, List.getElem?_cons_zero, List.getElem?_cons_succ] at c0 c1
      have hby := bytes_any root um n kr d y wr (hm2.same (hb.block um hm2.lt)) hdl3 hy
      unfold setV at hby
      have hlen : ((ds.take k).map (fun d => (lastR kr d).getD [])).length ≤ 2000000 := by simp; omega
      have hw2 := hb.size
      clear hc hd hdm hy hmem
      go_wp2_with (first
        | (go_at_call 68; refine hby.mono ?_; rintro e w' ⟨rfl, hw'⟩; rw [hw']; clear hw' w')
        | (at_builtin; refine app_text rfl (.tmp 13) (.tmp 17) rfl w2.heap.size _ _ rfl ((hown.alloc _).alloc _) ⟨wr.heap.size + 1, 0, none⟩ y rfl ?qa ?qb ?qc ?_))
      case qa => rw [add_off0]; simp [strVal]
      case qb => exact hlen
      case qc => simp; omega
      intro v4 w4 ho4 g4
      have hb4 : Below w2.heap.size w2 w4 := ((hb.alloc hb.size _).alloc (by simp; omega) _).grown g4 (by simp; omega) (fun k hk => (World.ownsRow.lt hown k hk).1)
      clear g4
      go_wp2_with fail
      go_roundw
      case rel => exact ⟨k + 1, by omega, by go_num, by rw [unhide Htk, List.map_take]; exact ho4, hb4⟩
      case measure => simp [intOf]; omega
    · obtain rfl : k = ds.length := by omega
      rw [List.take_length] at hown
      have hbw : Below w.heap.size w wr := hbb.trans (hb.mono hbb.size)
      have Ho := hide hown
      clear hown
      go_wp2_with fail
      go_ret
      exact ⟨_, rfl, by rw [unhide HL]; exact (unhide Ho).weak' hbb.size, hbw⟩
end Go.Proofs.YtjmacegibchplaaGreatDoor

/-
  Are two trees the same (the document's own test); is a text one of some (the statements' own).
-/
namespace Go.Proofs.YtjmacegibchplaaGreatDoor
open Go.RowKit
set_option linter.unusedVariables false

def enEq (x y : En) : Bool := x.path.toList == y.path.toList && (x.kind == y.kind && x.data.toList == y.data.toList)
theorem enEq_iff (x y : En) : enEq x y = true ↔ x = y := by
  obtain ⟨p, k, d⟩ := x
  obtain ⟨q, m, e⟩ := y
  simp only [enEq, ByteArray.toList_eq, Bool.and_eq_true, beq_iff_eq, En.mk.injEq]
  constructor
  · rintro ⟨h1, h2, h3⟩
    exact ⟨by rw [← bs_of p, h1, bs_of], h2, by rw [← bs_of d, h3, bs_of]⟩
  · rintro ⟨rfl, rfl, rfl⟩; exact ⟨rfl, rfl, rfl⟩
/-- the i-th of a is one of b -/
def inP (a b : List En) (i : Nat) : Bool := !decide (findP b (a.getD i en0).path.data.toList < 0) && enEq (b.getD (findP b (a.getD i en0).path.data.toList).toNat en0) (a.getD i en0)
def sameP (a b : List En) : Bool := a.length == b.length && (List.range a.length).all (inP a b)
set_option maxRecDepth 100000 in
set_option maxHeartbeats 1000000 in
theorem same_any (x y : List En) (a1 a2 : Option Addr) (c1 c2 : Nat) (w : World) (hx : x.length ≤ maxLen) (hy : y.length ≤ maxLen) (h1 : LiesE w a1 x) (h2 : LiesE w a2 y) :
    Calls Tryz.prog 18 #[.slice a1 x.length c1, .slice a2 y.length c2] w fun e w' => e = .returned (.bool (sameP x y)) ∧ ∃ n, w' = w.drewN n := by
  have hy' := hy
  unfold maxLen at hx hy
  have Hs := hide (show sameP x y = (x.length == y.length && (List.range x.length).all (inP x y)) from rfl)
  by_cases hlen : x.length = y.length
  · have hb : ((x.length : Int) != (y.length : Int)) = false := by simp [hlen]
    have Hl := hide (show (x.length == y.length) = true by simpa using hlen)
    clear hlen
    go_enter Tryz.func18, Tryz.ntmps18
    go_wp2_with fail
    go_loopw [5] (fun i wr => ∃ k : Nat, k ≤ x.length ∧ i = .int .i64 k ∧ (∃ n, wr = w.drewN n) ∧ (List.range k).all (inP x y) = true) (fun i _ => x.length - (intOf i).toNat)
    case atStart => exact ⟨0, by omega, rfl, ⟨0, rfl⟩, rfl⟩
    case round =>
      obtain ⟨k, hk, rfl, ⟨n, hwr⟩, hall⟩ := hrel
      subst hwr
      have Hall := hide hall
      clear hall
      by_cases hlt : k < x.length
      · obtain ⟨b1, o1, rfl, i1⟩ := EntsAt.get h1 hlt
        obtain ⟨p0, p1, p2⟩ := i1 k hlt
        have Hin := hide (show inP x y k = (!decide (findP y x[k].path.data.toList < 0) && enEq (y.getD (findP y x[k].path.data.toList).toNat en0) x[k]) by unfold inP; rw [en_getD x k hlt])
        have Hsu := hide (range_all_succ (inP x y) k)
        have Hat := hide (range_all_at (inP x y) x.length k hlt)
        clear i1
        generalize x[k] = e at *
        obtain ⟨ep, ek, ed⟩ := e
        simp only at p0 p1 p2 Hin
        have q1 : (k : Int) < (x.length : Int) := by omega
        have h2n : LiesE (w.drewN n) a2 y := h2.below (below_drewN (Below.refl _ _) n) (Nat.le_refl _)
        go_wp2_with fail
        refine (find_any y a2 c2 ep _ hy' h2n).mono ?_
        rintro e w1 ⟨rfl, hw1⟩
        subst hw1
        have hbd := findP_bd y ep.data.toList
        generalize findP y ep.data.toList = fi at *
        have p0' : (w.drewN n).cell? ⟨b1, o1 + k * 3, none⟩ = some (.string ep) := p0
        have p1' : (w.drewN n).cell? ⟨b1, o1 + k * 3 + 1, none⟩ = some (.int .i64 ek) := p1
        have p2' : (w.drewN n).cell? ⟨b1, o1 + k * 3 + 2, none⟩ = some (.string ed) := p2
        by_cases hneg : fi < 0
        · have g : decide (fi < 0) = true := by simpa using hneg
          have Hr := hide (show sameP x y = false by rw [unhide Hs, unhide Hat (by rw [unhide Hin, g]; rfl), Bool.and_false])
          clear Hin Hsu Hat
          generalize hw7 : w.drewN n = w7 at *
          have Hw7 := hide hw7
          clear hw7 p0 p1 p2
          go_wp2_with fail
          go_quiet (fail)
          go_wp2
          go_ret
          exact ⟨ret_bool (unhide Hr).symm, n + nq, by rw [← unhide Hw7, World.drewN_drewN]⟩
        · have g : decide (fi < 0) = false := by simpa using hneg
          obtain ⟨m, rfl⟩ : ∃ m : Nat, fi = (m : Int) := ⟨fi.toNat, by omega⟩
          have hm : m < y.length := by omega
          have hm' : (m : Int) < (y.length : Int) := by omega
          obtain ⟨b2, o2, rfl, i2⟩ := EntsAt.get h2n hm
          obtain ⟨r0, r1, r2⟩ := i2 m hm
          rw [Int.toNat_natCast, en_getD y m hm, g] at Hin
          clear i2
          generalize y[m] = z at *
          obtain ⟨zp, zk, zd⟩ := z
          simp only at r0 r1 r2 Hin
          have heq : ∀ w, (Op.equalIn 10000 32 (.agg #[.string zp, .int .i64 zk, .string zd]) (.agg #[.string ep, .int .i64 ek, .string ed])).run Tryz.prog w = .ok (enEq ⟨zp, zk, zd⟩ ⟨ep, ek, ed⟩) w := fun w => by rw [eq_ent]; rfl
          generalize enEq ⟨zp, zk, zd⟩ ⟨ep, ek, ed⟩ = E at *
          generalize hw7 : w.drewN n = w7 at *
          have Hw7 := hide hw7
          clear hw7 p0 p1 p2
          cases E with
          | false =>
            have Hr := hide (show sameP x y = false by rw [unhide Hs, unhide Hat (unhide Hin), Bool.and_false])
            clear Hin Hsu Hat
            go_wp2_with fail
            go_quiet (fail)
            go_wp2
            go_ret
            exact ⟨ret_bool (unhide Hr).symm, n + nq, by rw [← unhide Hw7, World.drewN_drewN]⟩
          | true =>
            have Hr := hide (show (List.range (k + 1)).all (inP x y) = true by rw [unhide Hsu, unhide Hall, unhide Hin]; rfl)
            clear Hin Hsu Hat
            go_wp2_with fail
            go_quiet (fail)
            go_wp2
            go_roundw
            case rel => exact ⟨k + 1, by omega, by go_num, ⟨n + nq, by rw [← unhide Hw7, World.drewN_drewN]⟩, unhide Hr⟩
            case measure => simp [intOf]; omega
      · obtain rfl : k = x.length := by omega
        go_wp2_with fail
        go_ret
        exact ⟨ret_bool (by rw [unhide Hs, unhide Hl, unhide Hall]; rfl), n, rfl⟩
  · have hb : ((x.length : Int) != (y.length : Int)) = true := by simp; omega
    have Hr := hide (show sameP x y = false by rw [unhide Hs, show (x.length == y.length) = false by simpa using hlen]; rfl)
    clear hlen
    go_enter Tryz.func18, Tryz.ntmps18
    go_wp2_with fail
    go_ret
    exact ⟨ret_bool (unhide Hr).symm, 0, rfl⟩
set_option maxHeartbeats 1000000 in
theorem oneOf_any (s : List UInt8) (l : List (List UInt8)) (a : Option Addr) (c : Nat) (w : World) (hl : l.length ≤ maxLen) (h : TextsAt w a l) :
    Calls Tryz.prog 19 #[.string (bs s), .slice a l.length c] w fun e w' => e = .returned (.bool (l.any (· == s))) ∧ w' = w := by
  unfold maxLen at hl
  go_enter Tryz.func19, Tryz.ntmps19
  go_wp2_with fail
  go_loop [5] (fun i => ∃ k : Nat, k ≤ l.length ∧ i = .int .i64 k ∧ (l.take k).any (· == s) = false) (fun i => l.length - (intOf i).toNat)
  case atStart => exact ⟨0, by omega, rfl, rfl⟩
  case round =>
    obtain ⟨k, hk, rfl, hany⟩ := hrel
    have Hany := hide hany
    clear hany
    by_cases hlt : k < l.length
    · obtain ⟨b, o, rfl, hct⟩ : ∃ b o, a = some ⟨b, o, none⟩ ∧ ∀ i (h : i < l.length), w.cell? ⟨b, o + i, none⟩ = some (strVal l[i]) := by
        rcases h with h | h
        · subst h; simp at hlt
        · exact h
      have ck := hct k hlt
      unfold strVal at ck
      have Hs := hide (any_take_succ (· == s) l k hlt)
      have Ha := hide (any_at (· == s) l k hlt)
      clear hct h
      generalize l[k] = x at *
      have hE := str_eq2 x s
      generalize (x == s) = E at *
      have q1 : (k : Int) < (l.length : Int) := by omega
      cases E with
      | true =>
        have Hr := hide (unhide Ha rfl)
        clear Hs Ha
        go_wp2_with fail
        go_ret
        exact ⟨ret_bool (unhide Hr).symm, rfl⟩
      | false =>
        have Hr := hide (show (l.take (k + 1)).any (· == s) = false by rw [unhide Hs, unhide Hany]; rfl)
        clear Hs Ha
        go_wp2_with fail
        go_round
        case rel => exact ⟨k + 1, by omega, by go_num, unhide Hr⟩
        case measure => simp [intOf]; omega
    · obtain rfl : k = l.length := by omega
      have Hr := hide (show l.any (· == s) = false by have := unhide Hany; rwa [List.take_length] at this)
      go_wp2_with fail
      go_ret
      exact ⟨ret_bool (unhide Hr).symm, rfl⟩
end Go.Proofs.YtjmacegibchplaaGreatDoor

/-
  One Build held against the document's, as the statements do: over any Build that answers as the document's.
-/
namespace Go.Proofs.YtjmacegibchplaaGreatDoor
open Go.RowKit
set_option linter.unusedVariables false

/-- what is asked of the world, and stays -/
def Stays (G : World → Prop) : Prop := ∀ w w', G w → Below w.heap.size w w' → G w'
/-- the program's Build answers as the document's, in every world of which G holds -/
def ProgBuild (G : World → Prop) : Prop := ∀ (l : List En) (a : Option Addr) (c : Nat) (w : World), G w → l.length ≤ maxLen → LiesE w a l → TFit l →
  Calls Tryz.prog 24 #[.slice a l.length c] w fun e w' => Below w.heap.size w w' ∧ BuildEnd l w.heap.size e w'
theorem entriesOf_any (l : List En) (a : Option Addr) (c : Nat) (w : World) (hl : l.length * 40 ≤ 140737488351232) (hi : LiesE w a l) (hn : a = none → l = [] ∧ c = 0) :
    Calls Tryz.prog 15 #[.slice a l.length c] w fun e w' => ∃ a' c', e = .returned (.slice a' l.length c') ∧ LiesE w' a' l ∧ Below w.heap.size w w' ∧
      ∀ w2, Below w'.heap.size w' w2 → Calls Tryz.prog 16 #[.slice a' l.length c', .slice a l.length c] w2 fun e w3 => e = .returned (.bool true) ∧ ∃ n, w3 = w2.drewN n := by
  cases a with
  | none =>
    obtain ⟨rfl, rfl⟩ := hn rfl
    refine (entriesOf_nil w).mono ?_
    rintro e w' ⟨rfl, rfl⟩
    exact ⟨none, 0, rfl, .inl rfl, Below.refl _ _, fun w2 _ => stillEntries_nil w2⟩
  | some ad =>
    refine (entriesOf_some l ad c w hl hi).mono ?_
    rintro e w' ⟨rfl, hm, hb⟩
    refine ⟨_, _, rfl, .inr ⟨w.heap.size, 0, rfl, fun i h => ?_⟩, hb, fun w2 h2 => ?_⟩
    · have := hm i (by rw [emarked_len l 8 (by omega)]; omega)
      rwa [emarked_lo l i h] at this
    · exact stillEntries_some l w.heap.size (some ad) c w2 hl (hm.below h2 (Nat.le_refl _)) ((hi.below hb (Nat.le_refl _)).below h2 (Nat.le_refl _))
def outOf (l : List En) : List (List UInt8) := if wrongP l = 0 then (builtP l).getD [] else []
theorem outG_len (A : List (List UInt8)) : ∀ f last out, outG A f last = some out → out.length ≤ f
  | 0, _, out, h => by simp [outG] at h; subst h; simp
  | f + 1, last, out, h => by
    simp only [outG] at h
    split at h
    · simp at h; subst h; simp
    · split at h
      · simp at h
      · cases ho : outG A f (P.digest (A.getD (nxtD A last).toNat [])) with
        | none => rw [ho] at h; simp at h
        | some r =>
          rw [ho] at h
          have := outG_len A f _ r ho
          simp at h; subst h; simp; omega
theorem builtP_len (l : List En) (ht : Tree l) (out : List (List UInt8)) (h : builtP l = some out) : out.length ≤ 100 := by
  have h1 := outG_len _ _ _ out h
  have h2 := allTo_len l l.length (Nat.le_refl _)
  have := ht.len
  unfold allP at h1
  omega
set_option maxRecDepth 100000 in
set_option maxHeartbeats 1000000 in
theorem built_law {G : World → Prop} (hS : Stays G) (hP : ProgBuild G) (l : List En) (a : Option Addr) (c : Nat) (w : World) (hG : G w) (hl : l.length * 40 ≤ 140737488351232) (hi : LiesE w a l) (hn : a = none → l = [] ∧ c = 0) (hf : TFit l) :
    Calls Tryz.prog 12 #[.slice a l.length c] w fun e w' => ∃ v, e = .returned (.tuple #[v, .bool true]) ∧ OwnsS w' w.heap.size v (outOf l) ∧ Below w.heap.size w w' := by
  have hlm : l.length ≤ maxLen := by unfold maxLen; omega
  go_enter Tryz.func12, Tryz.ntmps12
  go_wp2_with fail
  refine (entriesOf_any l a c w hl hi hn).mono ?_
  rintro e w1 ⟨a', c', rfl, hi1, hb1, hstill⟩
  have Hstill := hide hstill
  clear hstill
  go_wp2_with fail
  refine (hP l a' c' w1 (hS _ _ hG hb1) hlm hi1 hf).mono ?_
  rintro e w2 ⟨hb2, h2⟩
  have hw2 := hb1.trans (hb2.mono hb1.size)
  have hi2 := hi.below hw2 (Nat.le_refl _)
  have hsame := sameTexts_same
  rcases h2 with ⟨hw, rfl⟩ | ⟨hw, hbu, rfl⟩ | ⟨out, v, hw, hbu, rfl, ho⟩
  · have Hw := hide hw
    have Ho := hide (show outOf l = [] by unfold outOf; rw [if_neg hw])
    have g : (wrongP l != 0) = true := by simpa using hw
    clear hw hsame
    go_wp2_with fail
    refine (unhide Hstill w2 hb2).mono ?_
    rintro e w3 ⟨rfl, n3, hw3⟩
    have hb3 : Below w.heap.size w w3 := by rw [hw3]; exact below_drewN hw2 _
    clear hw3
    go_wp2_with fail
    refine (refBuild_any l a c w3 hlm (hi.below hb3 (Nat.le_refl _)) hf).mono ?_
    rintro e w4 ⟨hb4, h4⟩
    have hw4 := hb3.trans (hb4.mono hb3.size)
    rcases h4 with ⟨-, rfl⟩ | ⟨h0, -⟩ | ⟨_, _, h0, -⟩
    · generalize wrongP l = W at *
      go_wp2_with fail
      refine (sameTexts_same [] none none 0 0 w4 (by decide) (.inl rfl) (.inl rfl)).mono ?_
      rintro e w5 ⟨rfl, n5, hw5⟩
      have hb5 : Below w.heap.size w w5 := by rw [hw5]; exact below_drewN hw4 _
      clear hw5
      go_wp2_with fail
      go_ret2
      exact ⟨_, rfl, by rw [unhide Ho]; exact World.ownsRow_nil _ _ _ _, hb5⟩
    · exact absurd h0 (unhide Hw)
    · exact absurd h0 (unhide Hw)
  · have Hw := hide hw
    have Hbu := hide hbu
    have Ho := hide (show outOf l = [] by unfold outOf; rw [if_pos hw, hbu]; rfl)
    clear hw hbu hsame
    go_wp2_with fail
    refine (unhide Hstill w2 hb2).mono ?_
    rintro e w3 ⟨rfl, n3, hw3⟩
    have hb3 : Below w.heap.size w w3 := by rw [hw3]; exact below_drewN hw2 _
    clear hw3
    go_wp2_with fail
    refine (refBuild_any l a c w3 hlm (hi.below hb3 (Nat.le_refl _)) hf).mono ?_
    rintro e w4 ⟨hb4, h4⟩
    have hw4 := hb3.trans (hb4.mono hb3.size)
    rcases h4 with ⟨h0, -⟩ | ⟨-, -, rfl⟩ | ⟨_, _, -, h0, -⟩
    · exact absurd (unhide Hw) h0
    · go_wp2_with fail
      refine (sameTexts_same [] none none 0 0 w4 (by decide) (.inl rfl) (.inl rfl)).mono ?_
      rintro e w5 ⟨rfl, n5, hw5⟩
      have hb5 : Below w.heap.size w w5 := by rw [hw5]; exact below_drewN hw4 _
      clear hw5
      go_wp2_with fail
      go_ret2
      exact ⟨_, rfl, by rw [unhide Ho]; exact World.ownsRow_nil _ _ _ _, hb5⟩
    · rw [unhide Hbu] at h0; simp at h0
  · have Hw := hide hw
    have Hbu := hide hbu
    have hlen := builtP_len l (tree_of l hw) out hbu
    have Ho := hide (show outOf l = out by unfold outOf; rw [if_pos hw, hbu]; rfl)
    obtain ⟨ao, co, rfl, hto, -, -⟩ := ho.texts
    clear hw hbu hsame
    go_wp2_with fail
    refine (unhide Hstill w2 hb2).mono ?_
    rintro e w3 ⟨rfl, n3, hw3⟩
    have hb23 : Below w2.heap.size w2 w3 := by rw [hw3]; exact below_drewN (Below.refl _ _) _
    have hb3 := hw2.trans (hb23.mono hw2.size)
    clear hw3
    go_wp2_with fail
    refine (refBuild_any l a c w3 hlm (hi.below hb3 (Nat.le_refl _)) hf).mono ?_
    rintro e w4 ⟨hb4, h4⟩
    have hw4 := hb3.trans (hb4.mono hb3.size)
    have hb24 := hb23.trans (hb4.mono hb23.size)
    rcases h4 with ⟨h0, -⟩ | ⟨-, h0, -⟩ | ⟨out2, v2, -, h0, rfl, ho2⟩
    · exact absurd (unhide Hw) h0
    · rw [unhide Hbu] at h0; simp at h0
    · rw [unhide Hbu] at h0
      obtain rfl := Option.some.inj h0
      obtain ⟨a2, c2, rfl, ht2, -, -⟩ := ho2.texts
      generalize bs (P.digest (blobP l 6 [])) = R at *
      have gR : (R.toList == R.toList) = true := by simp
      clear h0
      go_wp2_with fail
      refine (sameTexts_same out ao a2 co c2 w4 (by unfold maxLen; omega) (hto.below hb24 (Nat.le_refl _)) ht2).mono ?_
      rintro e w5 ⟨rfl, n5, hw5⟩
      have hb25 : Below w2.heap.size w2 w5 := by rw [hw5]; exact below_drewN hb24 _
      have hb5 := hw2.trans (hb25.mono hw2.size)
      clear hw5
      go_wp2_with fail
      go_ret2
      exact ⟨_, rfl, by rw [unhide Ho]; exact (ho.below hb25).weak hb1.size, hb5⟩
end Go.Proofs.YtjmacegibchplaaGreatDoor

/-
  The program's Build answers as the document's.
-/
namespace Go.Proofs.YtjmacegibchplaaGreatDoor
open Go.RowKit Go.Maps
set_option linter.unusedVariables false

theorem glob_stays : Stays GlobOk := fun w w' h hb => h.below hb (Nat.le_refl _)
set_option maxRecDepth 100000 in
set_option maxHeartbeats 1000000 in
theorem list_nil (root : ByteArray) (w : World) :
    Calls Tryz.prog 52 #[setV root none] w fun e w' => e = .returned (.slice none 0 0) ∧ Below w.heap.size w w' := by
  have hd := digests_nil root (w.alloc (.cells #[.string root, .map none] 77))
  unfold setV at hd
  have Hd := hide hd
  clear hd
  unfold setV
  go_enter Tryz.func52, Tryz.ntmps52
  go_wp2_with fail
  refine (unhide Hd).mono ?_
  rintro e w2 ⟨rfl, hb2⟩
  have hbb : Below w.heap.size w w2 := ((Below.refl _ _).alloc (Nat.le_refl _) _).trans (hb2.mono (by simp))
  clear hb2 Hd
  go_wp2_with fail
  refine wp_loop_rounds 1 ?_
  rw [rounds_succ]
  go_wp2_with fail
  go_ret
  exact ⟨rfl, hbb⟩
/-- what is kept is what the document asks for -/
theorem kept_mem (l : List En) (ht : Tree l) (b : List UInt8) : b ∈ keptAll l ↔ b ∈ allP l := by
  unfold keptAll keptR allP allTo
  rw [List.take_length]
  simp only [List.mem_cons, List.mem_reverse, List.mem_flatMap]
  refine or_congr Iff.rfl ⟨?_, ?_⟩
  · rintro ⟨i, hi, hb⟩
    have hl := (walk_all l ht i).1 hi
    rw [en_getD l i hl] at hb
    exact ⟨_, List.getElem_mem hl, hb⟩
  · rintro ⟨e, he, hb⟩
    obtain ⟨i, hi, rfl⟩ := List.getElem_of_mem he
    exact ⟨i, (walk_all l ht i).2 hi, by rw [en_getD l i hi]; exact hb⟩
theorem list_mem (kr : List (List UInt8)) (hc : clashR kr = false) (b : List UInt8) : b ∈ listOf kr ↔ b ∈ kr := by
  unfold listOf
  simp only [List.mem_map, digs_mem]
  constructor
  · rintro ⟨d, ⟨x, hx, e⟩, hb⟩
    cases hl : lastR kr d with
    | none => exact absurd e (lastR_none hl x hx)
    | some y => rw [hl] at hb; simp at hb; subst hb; exact (lastR_some hl).1
  · intro hb
    refine ⟨P.digest b, ⟨b, hb, rfl⟩, ?_⟩
    cases hl : lastR kr (P.digest b) with
    | none => exact absurd rfl (lastR_none hl b hb)
    | some y =>
      obtain ⟨hy, e⟩ := lastR_some hl
      simp [clashR_false kr hc y hy b hb e]
theorem list_sorted (kr : List (List UInt8)) : (listOf kr).Pairwise (fun x y => dless x y = true) := by
  unfold listOf
  rw [List.pairwise_map]
  refine List.Pairwise.imp_of_mem ?_ (digs_sorted kr)
  intro a b ha hb hab
  have key : ∀ d, d ∈ digsOf kr → P.digest ((lastR kr d).getD []) = d := by
    intro d hd
    obtain ⟨y, hy⟩ := Option.isSome_iff_exists.1 ((lastR_isSome kr d).2 ((digs_mem kr d).1 hd))
    rw [hy]; exact (lastR_some hy).2
  unfold dless
  rw [key a ha, key b hb]; exact hab
theorem built_some (l : List En) (ht : Tree l) (hc : clashR (keptAll l) = false) : builtP l = some (listOf (keptAll l)) :=
  outs_of (allP l) (listOf (keptAll l)) (list_sorted _) (fun x => by rw [list_mem _ hc, kept_mem l ht]) (fun x hx y hy e => clashR_false _ hc x ((kept_mem l ht x).2 hx) y ((kept_mem l ht y).2 hy) e)
theorem built_none (l : List En) (ht : Tree l) (hc : clashR (keptAll l) = true) : builtP l = none := by
  obtain ⟨x, hx, y, hy, e, hne⟩ := clashR_true _ hc
  exact outs_none (allP l) x y ((kept_mem l ht x).1 hx) ((kept_mem l ht y).1 hy) e hne
theorem kept_len (l : List En) (ht : Tree l) : (digsOf (keptAll l)).length ≤ 100 := by
  have e : digsOf (keptAll l) = digsOf (allP l) := order_one less less_irr less_trans _ _ (digs_sorted _) (digs_sorted _) (fun d => by
    rw [digs_mem, digs_mem]
    constructor
    · rintro ⟨b, hb, h⟩; exact ⟨b, (kept_mem l ht b).1 hb, h⟩
    · rintro ⟨b, hb, h⟩; exact ⟨b, (kept_mem l ht b).2 hb, h⟩)
  have h1 := digs_len (allP l)
  have h2 := allTo_len l l.length (Nat.le_refl _)
  have h3 := ht.len
  rw [e]
  unfold allP at h1 ⊢
  omega
set_option maxRecDepth 100000 in
set_option maxHeartbeats 2000000 in
theorem progBuild : ProgBuild GlobOk := by
  intro l a c w hg hl hi hf
  go_enter Tryz.func24, Tryz.ntmps24
  go_wp2_with fail
  refine (of_any l a c w hl hi hf hg).mono ?_
  rintro e w1 ⟨hb1, h1⟩
  rcases h1 with ⟨hnt, rfl⟩ | ⟨ht, hes, rfl⟩ | ⟨ht, hes, hcl, rfl⟩ | ⟨ht, hes, hcl, um, n, hn, hum, rfl, hm⟩
  · have Hw := hide (wrong_no l hnt)
    clear hnt
    have hln := list_nil ⟨#[]⟩ ((w1.alloc (.cells #[.string ⟨#[]⟩, .map none] 77)).drew)
    unfold setV at hln
    have Hln := hide hln
    have hbA : Below w1.heap.size w1 (w1.alloc (.cells #[.string ⟨#[]⟩, .map none] 77)) := (Below.refl _ _).alloc (Nat.le_refl _) _
    clear hln
    go_wp2_with fail
    go_region_held3 (fun w' => w'.cell? ⟨w1.heap.size, 0, none⟩ = some (.string ⟨#[]⟩) ∧ w'.cell? ⟨w1.heap.size, 1, none⟩ = some (.map none))
      ((first | exact ⟨by assumption, by assumption⟩ | go_keep))
      ((go_at_call 52; refine (unhide Hln).mono ?_; rintro e w2 ⟨rfl, hb2⟩;
        have s0 := ((bcell hb2).1 w1.heap.size 0 (by simp)).trans (by simp : _ = some (.string ⟨#[]⟩));
        have s1 := ((bcell hb2).1 w1.heap.size 1 (by simp)).trans (by simp : _ = some (.map none))))
    all_goals go_wp2_with fail
    all_goals go_ret3
    all_goals
      have hbw : Below w.heap.size w w2 := hb1.trans ((Below.trans (b := (w1.alloc (.cells #[.string ⟨#[]⟩, .map none] 77)).drew) ⟨hbA.os, hbA.tape, hbA.output, hbA.size, hbA.block⟩ (hb2.mono hbA.size)).mono hb1.size)
      refine ⟨hbw, .inl ⟨by rw [unhide Hw]; decide, by rw [unhide Hw]; rfl⟩⟩
  · have Hw := hide (show wrongP l = 2 by rw [wrong_yes l ht, hes]; rfl)
    clear hes
    have hln := list_nil ⟨#[]⟩ ((w1.alloc (.cells #[.string ⟨#[]⟩, .map none] 77)).drew)
    unfold setV at hln
    have Hln := hide hln
    have hbA : Below w1.heap.size w1 (w1.alloc (.cells #[.string ⟨#[]⟩, .map none] 77)) := (Below.refl _ _).alloc (Nat.le_refl _) _
    clear hln
    go_wp2_with fail
    go_region_held3 (fun w' => w'.cell? ⟨w1.heap.size, 0, none⟩ = some (.string ⟨#[]⟩) ∧ w'.cell? ⟨w1.heap.size, 1, none⟩ = some (.map none))
      ((first | exact ⟨by assumption, by assumption⟩ | go_keep))
      ((go_at_call 52; refine (unhide Hln).mono ?_; rintro e w2 ⟨rfl, hb2⟩;
        have s0 := ((bcell hb2).1 w1.heap.size 0 (by simp)).trans (by simp : _ = some (.string ⟨#[]⟩));
        have s1 := ((bcell hb2).1 w1.heap.size 1 (by simp)).trans (by simp : _ = some (.map none))))
    all_goals go_wp2_with fail
    all_goals go_ret3
    all_goals
      have hbw : Below w.heap.size w w2 := hb1.trans ((Below.trans (b := (w1.alloc (.cells #[.string ⟨#[]⟩, .map none] 77)).drew) ⟨hbA.os, hbA.tape, hbA.output, hbA.size, hbA.block⟩ (hb2.mono hbA.size)).mono hb1.size)
      refine ⟨hbw, .inl ⟨by rw [unhide Hw]; decide, by rw [unhide Hw]; rfl⟩⟩
  · have Hw := hide (show wrongP l = 0 by rw [wrong_yes l ht, hes]; rfl)
    have Hn := hide (built_none l ht hcl)
    clear hes hcl
    have hln := list_nil ⟨#[]⟩ ((w1.alloc (.cells #[.string ⟨#[]⟩, .map none] 77)).drew)
    unfold setV at hln
    have Hln := hide hln
    have hbA : Below w1.heap.size w1 (w1.alloc (.cells #[.string ⟨#[]⟩, .map none] 77)) := (Below.refl _ _).alloc (Nat.le_refl _) _
    clear hln
    go_wp2_with fail
    go_region_held3 (fun w' => w'.cell? ⟨w1.heap.size, 0, none⟩ = some (.string ⟨#[]⟩) ∧ w'.cell? ⟨w1.heap.size, 1, none⟩ = some (.map none))
      ((first | exact ⟨by assumption, by assumption⟩ | go_keep))
      ((go_at_call 52; refine (unhide Hln).mono ?_; rintro e w2 ⟨rfl, hb2⟩;
        have s0 := ((bcell hb2).1 w1.heap.size 0 (by simp)).trans (by simp : _ = some (.string ⟨#[]⟩));
        have s1 := ((bcell hb2).1 w1.heap.size 1 (by simp)).trans (by simp : _ = some (.map none))))
    all_goals go_wp2_with fail
    all_goals go_ret3
    all_goals
      have hbw : Below w.heap.size w w2 := hb1.trans ((Below.trans (b := (w1.alloc (.cells #[.string ⟨#[]⟩, .map none] 77)).drew) ⟨hbA.os, hbA.tape, hbA.output, hbA.size, hbA.block⟩ (hb2.mono hbA.size)).mono hb1.size)
      refine ⟨hbw, .inr (.inl ⟨unhide Hw, unhide Hn, rfl⟩)⟩
  · have hsome := built_some l ht hcl
    have hw0 : wrongP l = 0 := by rw [wrong_yes l ht, hes]; rfl
    have hln := list_any (bs (P.digest (blobP l 6 []))) um n (keptAll l) ((w1.alloc (.cells #[.string (bs (P.digest (blobP l 6 []))), .map (some um)] 77)).drew) ((hm.alloc _).drew) hn (by have := kept_len l ht; omega)
    unfold setV at hln
    have Hln := hide hln
    have hbA : Below w1.heap.size w1 (w1.alloc (.cells #[.string (bs (P.digest (blobP l 6 []))), .map (some um)] 77)) := (Below.refl _ _).alloc (Nat.le_refl _) _
    have Hs := hide hsome
    have Hw := hide hw0
    generalize hR : bs (P.digest (blobP l 6 [])) = R at *
    have HR := hide hR
    clear hln hsome hw0 hR hm hes hcl
    go_wp2_with fail
    go_region_held3 (fun w' => w'.cell? ⟨w1.heap.size, 0, none⟩ = some (.string R) ∧ w'.cell? ⟨w1.heap.size, 1, none⟩ = some (.map (some um)))
      ((first | exact ⟨by assumption, by assumption⟩ | go_keep))
      ((go_at_call 52; refine (unhide Hln).mono ?_; rintro e w2 ⟨v, rfl, ho2, hb2⟩;
        have s0 := ((bcell hb2).1 w1.heap.size 0 (by simp)).trans (by simp : _ = some (.string R));
        have s1 := ((bcell hb2).1 w1.heap.size 1 (by simp)).trans (by simp : _ = some (.map (some um)))))
    all_goals go_wp2_with fail
    all_goals go_ret3
    all_goals
      have hbw : Below w.heap.size w w2 := hb1.trans ((Below.trans (b := (w1.alloc (.cells #[.string R, .map (some um)] 77)).drew) ⟨hbA.os, hbA.tape, hbA.output, hbA.size, hbA.block⟩ (hb2.mono hbA.size)).mono hb1.size)
      refine ⟨hbw, .inr (.inr ⟨listOf (keptAll l), v, unhide Hw, unhide Hs, by rw [unhide HR]; rfl, ho2.weak' (by have := hb1.size; simp; omega)⟩)⟩
end Go.Proofs.YtjmacegibchplaaGreatDoor
