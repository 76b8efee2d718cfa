/-
  The program's Set: its digests, its blobs, one by one.
-/
import Derived.Test.YtbfjbohdiemofaaGreatDoorOfD
import Derived.Test.YtbfjbohdiemofaaGreatDoorShelfC
import Derived.Sort.KeysCollected
import Derived.TacticsIn
namespace Go.Proofs.YtbfjbohdiemofaaGreatDoor
open Go.RowKit Go.Maps Go.Sort Go.Shelf
set_option linter.unusedVariables false

theorem sortsAt (m : Nat) : AnyZ.SortsIn Tryz.prog Tryz.sortedL_ren Fence.wide m :=
  ⟨fun blk off cap ss W hH hblk hsz => callsIn_wide.2 (AnyM.slices_Sort_string Tryz.sortL blk off cap ss W hH hblk hsz), fun p cap W => callsIn_wide.2 (AnyM.slices_Sort_string_none Tryz.sortL p cap W)⟩
theorem keys_at (mb : Option Nat) (W : World) : Calls Tryz.prog 48 #[.map mb] W fun e w' => e = .returned (.func (.func 68) #[] #[.pointer (some ⟨W.heap.size, 0, none⟩)]) ∧ w' = W.alloc (.cells #[.map mb] 40) :=
  (callsIn_wide (n := 5)).1 (AnyZ.keys_in Tryz.keysL Fence.wide 5 trivial rfl mb W)
set_option maxHeartbeats 1000000 in
theorem sorted_at {H : Type} (b nn : Nat) (D0 : DataW H) (R : Value → Option (DataW H × List MemPlace)) (w : World) (hown : w.ownsMap Tryz.prog 9 R b nn D0) (hmax : Maps.size D0 ≤ maxLen) (hbytes : Maps.size D0 * 16 ≤ 140737488355328) :
    Calls Tryz.prog 47 #[.func (.func 68) #[] #[.pointer (some ⟨w.heap.size, 0, none⟩)]] (w.alloc (.cells #[.map (some b)] 40)) fun e w' => ∃ (v : Value) (ss : List (List UInt8)), e = .returned v ∧ ss.Perm (strKeys D0) ∧
      w'.ownsRow (w.alloc (.cells #[.map (some b)] 40)).heap.size 9 1 v ss.length ((ss.mergeSort (fun x y => decide (x ≤ y))).map encStr) ∧ (v = .slice none 0 0 ↔ ss = []) ∧ Below (w.alloc (.cells #[.map (some b)] 40)).heap.size (w.alloc (.cells #[.map (some b)] 40)) w' := by
  have hbl := hown.lt
  have hseq : SeqGives Fence.wide 2 Tryz.prog 68 #[.pointer (some ⟨w.heap.size, 0, none⟩)] encStr (fun ss => ss.Perm (strKeys D0)) (Maps.size D0) (w.alloc (.cells #[.map (some b)] 40)) :=
    AnyZ.keys_gives (ρ := Tryz.keysL_ren) { Tryz.keysL with } Fence.wide _ trivial rfl (by omega) w.heap.size b nn D0 _ (by simp) (by simp) (hown.alloc _)
  exact (callsIn_wide (n := 5)).1 (AnyZ.sorted_in Tryz.sortedL Fence.wide 5 trivial trivial trivial trivial rfl (by omega) (sortsAt _) (enters_of Tryz.func67 (by kernel_rfl) rfl) 68 #[.pointer (some ⟨w.heap.size, 0, none⟩)] trivial (enters_of Tryz.func68 (by kernel_rfl) rfl) _ _ hmax hbytes _ hseq)
theorem sorted_nil (w : World) :
    Calls Tryz.prog 47 #[.func (.func 68) #[] #[.pointer (some ⟨w.heap.size, 0, none⟩)]] (w.alloc (.cells #[.map none] 40)) fun e w' => e = .returned (.slice none 0 0) ∧ Below w.heap.size w w' := by
  have hseq : SeqGives Fence.wide 2 Tryz.prog 68 #[.pointer (some ⟨w.heap.size, 0, none⟩)] encStr (fun ss : List (List UInt8) => ss = []) 0 (w.alloc (.cells #[.map none] 40)) :=
    AnyZ.keys_gives_nil (ρ := Tryz.keysL_ren) { Tryz.keysL with } Fence.wide _ trivial rfl w.heap.size _ (by simp) (by simp)
  have h := (callsIn_wide (n := 5)).1 (AnyZ.sorted_in Tryz.sortedL Fence.wide 5 trivial trivial trivial trivial rfl (by omega) (sortsAt _) (enters_of Tryz.func67 (by kernel_rfl) rfl) 68 #[.pointer (some ⟨w.heap.size, 0, none⟩)] trivial (enters_of Tryz.func68 (by kernel_rfl) rfl) _ 0 (Nat.zero_le _) (by omega) _ hseq)
  refine h.mono ?_
  rintro e w' ⟨v, ss, rfl, hs, _, hnil, hb⟩
  rw [hnil.2 hs]
  exact ⟨rfl, ((Below.refl _ _).alloc (Nat.le_refl _) _).trans (hb.mono (by simp))⟩
theorem less_lt : ∀ (a b : List UInt8), less a b = decide (a < b)
  | [], [] => rfl
  | [], _ :: _ => rfl
  | _ :: _, [] => rfl
  | x :: a, y :: b => by
    rw [less_cons, less_lt a b]
    by_cases h1 : x < y
    · simp [List.cons_lt_cons_iff, h1]
    · by_cases h2 : x = y
      · subst h2; simp
      · simp [List.cons_lt_cons_iff, h1, h2]
/-- a text put in its place -/
def insU (d : List UInt8) : List (List UInt8) → List (List UInt8)
  | [] => [d]
  | x :: r => if less d x = true then d :: x :: r else if d = x then x :: r else x :: insU d r
theorem insU_mem (d : List UInt8) : ∀ (r : List (List UInt8)) (y : List UInt8), y ∈ insU d r ↔ y = d ∨ y ∈ r
  | [], y => by simp [insU]
  | x :: r, y => by
    unfold insU
    split
    · simp
    · split
      · rename_i h; subst h; simp
      · simp only [List.mem_cons, insU_mem d r]
        constructor
        · rintro (h | h | h)
          · exact .inr (.inl h)
          · exact .inl h
          · exact .inr (.inr h)
        · rintro (h | h | h)
          · exact .inr (.inl h)
          · exact .inl h
          · exact .inr (.inr h)
theorem insU_sorted (d : List UInt8) : ∀ (r : List (List UInt8)), r.Pairwise (fun x y => less x y = true) → (insU d r).Pairwise (fun x y => less x y = true)
  | [], _ => by simp [insU]
  | x :: r, h => by
    rw [List.pairwise_cons] at h
    unfold insU
    split
    · rename_i hd
      rw [List.pairwise_cons]
      refine ⟨fun y hy => ?_, List.pairwise_cons.2 h⟩
      rcases List.mem_cons.1 hy with rfl | hy
      · exact hd
      · exact less_trans _ _ _ hd (h.1 y hy)
    · rename_i hd
      split
      · exact List.pairwise_cons.2 h
      · rename_i hne
        rw [List.pairwise_cons]
        refine ⟨fun y hy => ?_, insU_sorted d r h.2⟩
        rcases (insU_mem d r y).1 hy with rfl | hy
        · cases hxy : less x y with
          | true => rfl
          | false => exact absurd (less_tri y x (by simpa using hd) hxy) hne
        · exact h.1 y hy
/-- the digests of what is kept, rising -/
def digsOf (kr : List (List UInt8)) : List (List UInt8) := kr.foldr (fun b acc => insU (P.digest b) acc) []
theorem digs_mem : ∀ (kr : List (List UInt8)) (d : List UInt8), d ∈ digsOf kr ↔ ∃ b ∈ kr, P.digest b = d
  | [], d => by simp [digsOf]
  | b :: kr, d => by
    have ih := digs_mem kr d
    show d ∈ insU (P.digest b) (digsOf kr) ↔ _
    rw [insU_mem, ih]
    simp only [List.mem_cons]
    constructor
    · rintro (h | ⟨x, hx, e⟩)
      · exact ⟨b, .inl rfl, h.symm⟩
      · exact ⟨x, .inr hx, e⟩
    · rintro ⟨x, rfl | hx, e⟩
      · exact .inl e.symm
      · exact .inr ⟨x, hx, e⟩
theorem digs_sorted : ∀ (kr : List (List UInt8)), (digsOf kr).Pairwise (fun x y => less x y = true)
  | [] => List.Pairwise.nil
  | b :: kr => insU_sorted _ _ (digs_sorted kr)
theorem lastR_isSome (kr : List (List UInt8)) (d : List UInt8) : (lastR kr d).isSome = true ↔ ∃ b ∈ kr, P.digest b = d := by
  constructor
  · intro h
    obtain ⟨y, hy⟩ := Option.isSome_iff_exists.1 h
    exact ⟨y, lastR_some hy⟩
  · rintro ⟨b, hb, e⟩
    cases h : lastR kr d with
    | some _ => rfl
    | none => exact absurd e (lastR_none h b hb)
theorem digs_len : ∀ (kr : List (List UInt8)), (digsOf kr).length ≤ kr.length
  | [] => by simp [digsOf]
  | b :: kr => by
    have ih := digs_len kr
    have key : ∀ (d : List UInt8) (r : List (List UInt8)), (insU d r).length ≤ r.length + 1 := by
      intro d r
      induction r with
      | nil => simp [insU]
      | cons x r ih =>
        unfold insU
        split
        · simp
        · split
          · simp
          · simp; omega
    have := key (P.digest b) (digsOf kr)
    show (insU (P.digest b) (digsOf kr)).length ≤ _
    simp; omega
/-- the sorted keys of the map are the digests -/
theorem keys_digs {w : World} {um n : Nat} {kr : List (List UInt8)} {D : DataW Value} (h : w.ownsMap Tryz.prog 9 rawElem um n D) (hf : ∀ k, Maps.has D (.string k) = (blobsF kr k).isSome) (ss : List (List UInt8)) (hp : ss.Perm (strKeys D)) : ss.mergeSort (fun x y => decide (x ≤ y)) = digsOf kr := by
  obtain ⟨es, rfl, hk⟩ := h.keysOf
  have hstr : ∀ p ∈ es, ∃ x, p.1 = .string x := fun p hp => by
    obtain ⟨v, hv⟩ := hk p hp
    obtain ⟨x, _, e, _⟩ := Maps.keyOf_str Tryz.underlying9 hv
    exact ⟨x, e⟩
  obtain ⟨es', e1, htidy⟩ := h.tidy strKeyed
  obtain rfl : es = es' := by simpa using e1
  have hnd : (strKeys (DataW.map es)).Pairwise (fun x y => x ≠ y) := by
    show (es.map fun p => strOf p.1).Pairwise _
    rw [List.pairwise_map]
    refine List.Pairwise.imp_of_mem ?_ htidy
    intro p q hp hq hne e
    obtain ⟨x, hx⟩ := hstr p hp
    obtain ⟨y, hy⟩ := hstr q hq
    rw [hx, hy] at e
    simp only [strOf] at e
    exact hne (by rw [hx, hy, e])
  have hmem : ∀ d, d ∈ strKeys (DataW.map es) ↔ ∃ b ∈ kr, P.digest b = d := by
    intro d
    rw [← lastR_isSome]
    have h1 : (lastR kr d).isSome = (blobsF kr d).isSome := by unfold blobsF; simp
    rw [h1, ← hf d, has_eq, List.any_eq_true]
    show d ∈ es.map (fun p => strOf p.1) ↔ _
    rw [List.mem_map]
    constructor
    · rintro ⟨p, hp, e⟩
      obtain ⟨x, hx⟩ := hstr p hp
      rw [hx] at e
      simp only [strOf] at e
      exact ⟨p, hp, by rw [hx, e]; exact WideAt.sameKey_self trivial⟩
    · rintro ⟨p, hp, e⟩
      have := WideAt.sameKey_eq e
      exact ⟨p, hp, by rw [this]; rfl⟩
  have tr : ∀ a b c : List UInt8, decide (a ≤ b) = true → decide (b ≤ c) = true → decide (a ≤ c) = true := fun a b c h1 h2 => by simp only [decide_eq_true_eq] at *; exact List.le_trans h1 h2
  have tt : ∀ a b : List UInt8, (decide (a ≤ b) || decide (b ≤ a)) = true := fun a b => by simp only [Bool.or_eq_true, decide_eq_true_eq]; exact List.le_total a b
  have hs := List.pairwise_mergeSort tr tt ss
  have hpm := (List.mergeSort_perm ss (fun x y => decide (x ≤ y))).trans hp
  have hne : (ss.mergeSort (fun x y => decide (x ≤ y))).Pairwise (fun x y => x ≠ y) := (hpm.pairwise_iff (fun h => Ne.symm h)).2 hnd
  refine order_one less less_irr less_trans _ _ ((hs.and hne).imp ?_) (digs_sorted kr) (fun d => ?_)
  · rintro x y ⟨h1, h2⟩
    have h1' : x ≤ y := by simpa using h1
    rw [less_lt, decide_eq_true_eq]
    rcases List.le_iff_lt_or_eq.1 h1' with h | h
    · exact h
    · exact absurd h h2
  · rw [hpm.mem_iff, hmem, digs_mem]
end Go.Proofs.YtbfjbohdiemofaaGreatDoor
