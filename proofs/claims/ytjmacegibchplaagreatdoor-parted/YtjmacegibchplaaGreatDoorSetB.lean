import Derived.Test.YtjmacegibchplaaGreatDoorOfD
import Derived.Test.YtjmacegibchplaaGreatDoorShelfC
import Derived.Sort.KeysCollected
import Derived.TacticsIn
import Derived.Test.YtjmacegibchplaaGreatDoorTurnP
import Derived.OwnWalk
/-
  The program's Set: its digests, its blobs, one by one.
-/
namespace Go.Proofs.YtjmacegibchplaaGreatDoor
open Go.RowKit Go.Maps Go.Sort Go.Shelf
set_option linter.unusedVariables false
theorem sortsAt (m : Nat) : AnyZ.SortsIn Tryz.prog Tryz.sortedL_ren Fence.wide m :=
  ⟨fun blk off cap ss W hH hblk hsz => callsIn_wide.2 (AnyM.slices_Sort_string Tryz.sortL blk off cap ss W hH hblk hsz), fun p cap W => callsIn_wide.2 (AnyM.slices_Sort_string_none Tryz.sortL p cap W)⟩
theorem keys_at (mb : Option Nat) (W : World) : Calls Tryz.prog 107 #[.map mb] W fun e w' => e = .returned (.func (.func 156) #[] #[.pointer (some ⟨W.heap.size, 0, none⟩)]) ∧ w' = W.alloc (.cells #[.map mb] 75) :=
  (callsIn_wide (n := 5)).1 (AnyZ.keys_in Tryz.keysL Fence.wide 5 trivial rfl mb W)
set_option maxHeartbeats 1000000 in
theorem sorted_at {H : Type} (b nn : Nat) (D0 : DataW H) (R : Value → Option (DataW H × List MemPlace)) (w : World) (hown : w.ownsMap Tryz.prog 9 R b nn D0) (hmax : Maps.size D0 ≤ maxLen) (hbytes : Maps.size D0 * 16 ≤ 140737488355328) :
    Calls Tryz.prog 106 #[.func (.func 156) #[] #[.pointer (some ⟨w.heap.size, 0, none⟩)]] (w.alloc (.cells #[.map (some b)] 75)) fun e w' => ∃ (v : Value) (ss : List (List UInt8)), e = .returned v ∧ ss.Perm (strKeys D0) ∧
      w'.ownsRow (w.alloc (.cells #[.map (some b)] 75)).heap.size 9 1 v ss.length ((ss.mergeSort (fun x y => decide (x ≤ y))).map encStr) ∧ (v = .slice none 0 0 ↔ ss = []) ∧ Below (w.alloc (.cells #[.map (some b)] 75)).heap.size (w.alloc (.cells #[.map (some b)] 75)) w' := by
  have hbl := hown.lt
  have hseq : SeqGives Fence.wide 2 Tryz.prog 156 #[.pointer (some ⟨w.heap.size, 0, none⟩)] encStr (fun ss => ss.Perm (strKeys D0)) (Maps.size D0) (w.alloc (.cells #[.map (some b)] 75)) :=
    AnyZ.keys_gives (ρ := Tryz.keysL_ren) { Tryz.keysL with } Fence.wide _ trivial rfl (by omega) w.heap.size b nn D0 _ (by simp) (by simp) (hown.alloc _)
  exact (callsIn_wide (n := 5)).1 (AnyZ.sorted_in Tryz.sortedL Fence.wide 5 trivial trivial trivial trivial rfl (by omega) (sortsAt _) (enters_of Tryz.func155 (by kernel_rfl) rfl) 156 #[.pointer (some ⟨w.heap.size, 0, none⟩)] trivial (enters_of Tryz.func156 (by kernel_rfl) rfl) _ _ hmax hbytes _ hseq)
theorem sorted_nil (w : World) :
    Calls Tryz.prog 106 #[.func (.func 156) #[] #[.pointer (some ⟨w.heap.size, 0, none⟩)]] (w.alloc (.cells #[.map none] 75)) fun e w' => e = .returned (.slice none 0 0) ∧ Below w.heap.size w w' := by
  have hseq : SeqGives Fence.wide 2 Tryz.prog 156 #[.pointer (some ⟨w.heap.size, 0, none⟩)] encStr (fun ss : List (List UInt8) => ss = []) 0 (w.alloc (.cells #[.map none] 75)) :=
    AnyZ.keys_gives_nil (ρ := Tryz.keysL_ren) { Tryz.keysL with } Fence.wide _ trivial rfl w.heap.size _ (by simp) (by simp)
  have h := (callsIn_wide (n := 5)).1 (AnyZ.sorted_in Tryz.sortedL Fence.wide 5 trivial trivial trivial trivial rfl (by omega) (sortsAt _) (enters_of Tryz.func155 (by kernel_rfl) rfl) 156 #[.pointer (some ⟨w.heap.size, 0, none⟩)] trivial (enters_of Tryz.func156 (by kernel_rfl) rfl) _ 0 (Nat.zero_le _) (by omega) _ hseq)
  refine h.mono ?_
  rintro e w' ⟨v, ss, rfl, hs, _, hnil, hb⟩
  rw [hnil.2 hs]
  exact ⟨rfl, ((Below.refl _ _).alloc (Nat.le_refl _) _).trans (hb.mono (by simp))⟩
theorem less_lt : ∀ (a b : List UInt8), less a b = decide (a < b)
  | [], [] => rfl
  | [], _ :: _ => rfl
  | _ :: _, [] => rfl
  | x :: a, y :: b => by
    rw [less_cons, less_lt a b]
    by_cases h1 : x < y
    · simp [List.cons_lt_cons_iff, h1]
    · by_cases h2 : x = y
      · subst h2; simp
      · simp [List.cons_lt_cons_iff, h1, h2]
def insU (d : List UInt8) : List (List UInt8) → List (List UInt8)
  | [] => [d]
  | x :: r => if less d x = true then d :: x :: r else if d = x then x :: r else x :: insU d r
theorem insU_mem (d : List UInt8) : ∀ (r : List (List UInt8)) (y : List UInt8), y ∈ insU d r ↔ y = d ∨ y ∈ r
  | [], y => by simp [insU]
  | x :: r, y => by
    unfold insU
    split
    · simp
    · split
      · rename_i h; subst h; simp
      · simp only [List.mem_cons, insU_mem d r]
        constructor
        · rintro (h | h | h)
          · exact .inr (.inl h)
          · exact .inl h
          · exact .inr (.inr h)
        · rintro (h | h | h)
          · exact .inr (.inl h)
          · exact .inl h
          · exact .inr (.inr h)
theorem insU_sorted (d : List UInt8) : ∀ (r : List (List UInt8)), r.Pairwise (fun x y => less x y = true) → (insU d r).Pairwise (fun x y => less x y = true)
  | [], _ => by simp [insU]
  | x :: r, h => by
    rw [List.pairwise_cons] at h
    unfold insU
    split
    · rename_i hd
      rw [List.pairwise_cons]
      refine ⟨fun y hy => ?_, List.pairwise_cons.2 h⟩
      rcases List.mem_cons.1 hy with rfl | hy
      · exact hd
      · exact less_trans _ _ _ hd (h.1 y hy)
    · rename_i hd
      split
      · exact List.pairwise_cons.2 h
      · rename_i hne
        rw [List.pairwise_cons]
        refine ⟨fun y hy => ?_, insU_sorted d r h.2⟩
        rcases (insU_mem d r y).1 hy with rfl | hy
        · cases hxy : less x y with
          | true => rfl
          | false => exact absurd (less_tri y x (by simpa using hd) hxy) hne
        · exact h.1 y hy
def digsOf (kr : List (List UInt8)) : List (List UInt8) := kr.foldr (fun b acc => insU (P.digest b) acc) []
theorem digs_mem : ∀ (kr : List (List UInt8)) (d : List UInt8), d ∈ digsOf kr ↔ ∃ b ∈ kr, P.digest b = d
  | [], d => by simp [digsOf]
  | b :: kr, d => by
    have ih := digs_mem kr d
    show d ∈ insU (P.digest b) (digsOf kr) ↔ _
    rw [insU_mem, ih]
    simp only [List.mem_cons]
    constructor
    · rintro (h | ⟨x, hx, e⟩)
      · exact ⟨b, .inl rfl, h.symm⟩
      · exact ⟨x, .inr hx, e⟩
    · rintro ⟨x, rfl | hx, e⟩
      · exact .inl e.symm
      · exact .inr ⟨x, hx, e⟩
theorem digs_sorted : ∀ (kr : List (List UInt8)), (digsOf kr).Pairwise (fun x y => less x y = true)
  | [] => List.Pairwise.nil
  | b :: kr => insU_sorted _ _ (digs_sorted kr)
theorem lastR_isSome (kr : List (List UInt8)) (d : List UInt8) : (lastR kr d).isSome = true ↔ ∃ b ∈ kr, P.digest b = d := by
  constructor
  · intro h
    obtain ⟨y, hy⟩ := Option.isSome_iff_exists.1 h
    exact ⟨y, lastR_some hy⟩
  · rintro ⟨b, hb, e⟩
    cases h : lastR kr d with
    | some _ => rfl
    | none => exact absurd e (lastR_none h b hb)
theorem digs_len : ∀ (kr : List (List UInt8)), (digsOf kr).length ≤ kr.length
  | [] => by simp [digsOf]
  | b :: kr => by
    have ih := digs_len kr
    have key : ∀ (d : List UInt8) (r : List (List UInt8)), (insU d r).length ≤ r.length + 1 := by
      intro d r
      induction r with
      | nil => simp [insU]
      | cons x r ih =>
        unfold insU
        split
        · simp
        · split
          · simp
          · simp; omega
    have := key (P.digest b) (digsOf kr)
    show (insU (P.digest b) (digsOf kr)).length ≤ _
    simp; omega
theorem keys_digs {w : World} {um n : Nat} {kr : List (List UInt8)} {D : DataW Value} (h : w.ownsMap Tryz.prog 9 rawElem um n D) (hf : ∀ k, Maps.has D (.string k) = (blobsF kr k).isSome) (ss : List (List UInt8)) (hp : ss.Perm (strKeys D)) : ss.mergeSort (fun x y => decide (x ≤ y)) = digsOf kr := by
  obtain ⟨es, rfl, hk⟩ := h.keysOf
  have hstr : ∀ p ∈ es, ∃ x, p.1 = .string x := fun p hp => by
    obtain ⟨v, hv⟩ := hk p hp
    obtain ⟨x, _, e, _⟩ := Maps.keyOf_str Tryz.underlying9 hv
    exact ⟨x, e⟩
  obtain ⟨es', e1, htidy⟩ := h.tidy strKeyed
  obtain rfl : es = es' := by simpa using e1
  have hnd : (strKeys (DataW.map es)).Pairwise (fun x y => x ≠ y) := by
    show (es.map fun p => strOf p.1).Pairwise _
    rw [List.pairwise_map]
    refine List.Pairwise.imp_of_mem ?_ htidy
    intro p q hp hq hne e
    obtain ⟨x, hx⟩ := hstr p hp
    obtain ⟨y, hy⟩ := hstr q hq
    rw [hx, hy] at e
    simp only [strOf] at e
    exact hne (by rw [hx, hy, e])
  have hmem : ∀ d, d ∈ strKeys (DataW.map es) ↔ ∃ b ∈ kr, P.digest b = d := by
    intro d
    rw [← lastR_isSome]
    have h1 : (lastR kr d).isSome = (blobsF kr d).isSome := by unfold blobsF; simp
    rw [h1, ← hf d, has_eq, List.any_eq_true]
    show d ∈ es.map (fun p => strOf p.1) ↔ _
    rw [List.mem_map]
    constructor
    · rintro ⟨p, hp, e⟩
      obtain ⟨x, hx⟩ := hstr p hp
      rw [hx] at e
      simp only [strOf] at e
      exact ⟨p, hp, by rw [hx, e]; exact WideAt.sameKey_self trivial⟩
    · rintro ⟨p, hp, e⟩
      have := WideAt.sameKey_eq e
      exact ⟨p, hp, by rw [this]; rfl⟩
  have tr : ∀ a b c : List UInt8, decide (a ≤ b) = true → decide (b ≤ c) = true → decide (a ≤ c) = true := fun a b c h1 h2 => by simp only [decide_eq_true_eq] at *; exact List.le_trans h1 h2
  have tt : ∀ a b : List UInt8, (decide (a ≤ b) || decide (b ≤ a)) = true := fun a b => by simp only [Bool.or_eq_true, decide_eq_true_eq]; exact List.le_total a b
  have hs := List.pairwise_mergeSort tr tt ss
  have hpm := (List.mergeSort_perm ss (fun x y => decide (x ≤ y))).trans hp
  have hne : (ss.mergeSort (fun x y => decide (x ≤ y))).Pairwise (fun x y => x ≠ y) := (hpm.pairwise_iff (fun h => Ne.symm h)).2 hnd
  refine order_one less less_irr less_trans _ _ ((hs.and hne).imp ?_) (digs_sorted kr) (fun d => ?_)
  · rintro x y ⟨h1, h2⟩
    have h1' : x ≤ y := by simpa using h1
    rw [less_lt, decide_eq_true_eq]
    rcases List.le_iff_lt_or_eq.1 h1' with h | h
    · exact h
    · exact absurd h h2
  · rw [hpm.mem_iff, hmem, digs_mem]
end Go.Proofs.YtjmacegibchplaaGreatDoor

/-
  The program's Set: Digests, Bytes, List; and Build.
-/
namespace Go.Proofs.YtjmacegibchplaaGreatDoor
open Go.RowKit Go.Maps
set_option linter.unusedVariables false
theorem field_blob (s : ByteArray) (w : World) : (Instr.field 107 (.agg #[.string s]) 0).run Tryz.prog w = .ok (.string s) w := by kernel_rfl
def setV (root : ByteArray) (m : Option Nat) : Value := .agg #[.string root, .map m]
set_option maxRecDepth 100000 in
set_option maxHeartbeats 1000000 in
theorem digests_any (root : ByteArray) (um n : Nat) (kr : List (List UInt8)) (w : World) (hm : MapIs w um n (blobsF kr)) (hn : n ≤ 5000000000) :
    Calls Tryz.prog 67 #[setV root (some um)] w fun e w' => ∃ v, e = .returned v ∧ OwnsS w' w.heap.size v (digsOf kr) ∧ Below w.heap.size w w' := by
  have hm1 := hm.alloc (.cells #[.string root, .map (some um)] 77)
  obtain ⟨D, hown, hf⟩ := hm1
  have hsz := hown.size_le
  have hs := sorted_at um n D rawElem _ hown (by unfold maxLen; omega) (by omega)
  rw [show (w.alloc (.cells #[.string root, .map (some um)] 77)).heap.size = w.heap.size + 1 by simp] at hs
  have hkd := fun ss => keys_digs hown (fun k => (hf k).1) ss
  have Hs := hide hs
  have Hkd := hide hkd
  have hk := keys_at (some um)
  clear hs hkd hown hf hm
  unfold setV
  go_enter Tryz.func67, Tryz.ntmps67
  go_wp2_with (go_at_call 107; refine (hk _).mono ?_; rintro e w' ⟨rfl, hw'⟩; rw [hw']; clear hw' w')
  refine (unhide Hs).mono ?_
  rintro e w2 ⟨v, ss, rfl, hp, hrow, _, hb2⟩
  have he := unhide Hkd ss hp
  rw [he] at hrow
  have hlen : ss.length = (digsOf kr).length := by rw [← he, List.length_mergeSort]
  have ho : OwnsS w2 w.heap.size v (digsOf kr) := by
    unfold OwnsS
    rw [← hlen]
    have h2 : (digsOf kr).map Go.Proofs.encStr = (digsOf kr).map strVal := rfl
    rw [h2] at hrow
    exact ⟨hrow.1, hrow.2.imp id (fun ⟨g, cap, cur, h1, h2, h3⟩ => ⟨g, cap, cur, h1, by simp at h2; omega, h3⟩)⟩
  have hbb : Below w.heap.size w w2 := (((Below.refl _ _).alloc (Nat.le_refl _) _).alloc (by simp) _).trans (hb2.mono (by simp; omega))
  clear hrow hp he hlen hb2 Hs Hkd hk
  go_wp2_with fail
  go_ret
  exact ⟨_, rfl, ho, hbb⟩
set_option maxRecDepth 100000 in
set_option maxHeartbeats 1000000 in
theorem digests_nil (root : ByteArray) (w : World) :
    Calls Tryz.prog 67 #[setV root none] w fun e w' => e = .returned (.slice none 0 0) ∧ Below w.heap.size w w' := by
  have hk := keys_at none
  have hs := sorted_nil (w.alloc (.cells #[.string root, .map none] 77))
  rw [show (w.alloc (.cells #[.string root, .map none] 77)).heap.size = w.heap.size + 1 by simp] at hs
  have Hs := hide hs
  clear hs
  unfold setV
  go_enter Tryz.func67, Tryz.ntmps67
  go_wp2_with (go_at_call 107; refine (hk _).mono ?_; rintro e w' ⟨rfl, hw'⟩; rw [hw']; clear hw' w')
  refine (unhide Hs).mono ?_
  rintro e w2 ⟨rfl, hb2⟩
  have hbb : Below w.heap.size w w2 := ((Below.refl _ _).alloc (Nat.le_refl _) _).trans (hb2.mono (by simp))
  clear hb2 Hs hk
  go_wp2_with fail
  go_ret
  exact ⟨rfl, hbb⟩
set_option maxRecDepth 100000 in
set_option maxHeartbeats 1000000 in
theorem bytes_any (root : ByteArray) (um n : Nat) (kr : List (List UInt8)) (d y : List UInt8) (w : World) (hm : MapIs w um n (blobsF kr)) (hd : d.length ≤ maxLen) (hy : lastR kr d = some y) :
    Calls Tryz.prog 68 #[setV root (some um), .string (bs d)] w fun e w' => e = .returned (.string (bs y)) ∧ w' = w.alloc (.cells #[.string root, .map (some um)] 77) := by
  have hF : blobsF kr d = some (.agg #[.string (bs y)]) := by unfold blobsF; rw [hy]; rfl
  have hfd := field_blob
  unfold setV
  go_enter Tryz.func68, Tryz.ntmps68
  go_wp2_with (at_lookup; refine wp_look rfl _ _ 75 rfl 107 under40 (.agg #[.string ⟨#[]⟩]) (zero_blob _) um n (blobsF kr) rfl (hm.alloc _) d rfl hd ?_; rw [hF]; simp only [Option.getD_some])
  go_ret
  exact ⟨rfl, rfl⟩
def listOf (kr : List (List UInt8)) : List (List UInt8) := (digsOf kr).map (fun d => (lastR kr d).getD [])
theorem OwnsS.weak' {w : World} {b b' : Nat} {v : Value} {l : List (List UInt8)} (h : OwnsS w b v l) (hb : b' ≤ b) : OwnsS w b' v l :=
  ⟨h.1, h.2.imp id (fun ⟨g, cap, cur, h1, h2, h3⟩ => ⟨g, cap, cur, h1, Nat.le_trans hb h2, h3⟩)⟩
set_option maxRecDepth 100000 in
set_option maxHeartbeats 2000000 in
theorem list_any (root : ByteArray) (um n : Nat) (kr : List (List UInt8)) (w : World) (hm : MapIs w um n (blobsF kr)) (hn : n ≤ 5000000000) (hdl : (digsOf kr).length ≤ 1000000) :
    Calls Tryz.prog 52 #[setV root (some um)] w fun e w' => ∃ v, e = .returned v ∧ OwnsS w' w.heap.size v (listOf kr) ∧ Below w.heap.size w w' := by
  have hm1 := hm.alloc (.cells #[.string root, .map (some um)] 77)
  have hdg := digests_any root um n kr _ hm1 hn
  have hbA : Below w.heap.size w (w.alloc (.cells #[.string root, .map (some um)] 77)) := (Below.refl _ _).alloc (Nat.le_refl _) _
  unfold setV at hdg
  have Hdg := hide hdg
  clear hdg
  unfold setV
  go_enter Tryz.func52, Tryz.ntmps52
  go_wp2_with fail
  refine (unhide Hdg).mono ?_
  rintro e w2 ⟨v, rfl, ho, hb2⟩
  obtain ⟨a, c, rfl, hta, -, -⟩ := ho.texts
  have hbb : Below w.heap.size w w2 := hbA.trans (hb2.mono hbA.size)
  have hs2 : w2.heap[w.heap.size]? = some (.cells #[.string root, .map (some um)] 77 (0, 0)) := (hb2.block w.heap.size (by simp)).trans (heap_alloc_new w _)
  have hm2 : MapIs w2 um n (blobsF kr) := hm1.same (hb2.block um hm1.lt)
  have hmem := digs_mem kr
  clear Hdg ho hb2 hm1 hbA hm
  generalize hD : digsOf kr = ds at *
  have HL := hide (show listOf kr = ds.map (fun d => (lastR kr d).getD []) by unfold listOf; rw [hD])
  go_wp2_with fail
  go_loopw [3, 9] (fun v i wr => ∃ k : Nat, k ≤ ds.length ∧ i = .int .i64 k ∧ OwnsS wr w2.heap.size v ((ds.take k).map (fun d => (lastR kr d).getD [])) ∧ Below w2.heap.size w2 wr) (fun _ i _ => ds.length - (intOf i).toNat)
  case atStart => exact ⟨0, Nat.zero_le _, rfl, World.ownsRow_nil _ _ _ _, Below.refl _ _⟩
  case round =>
    obtain ⟨k, hk, rfl, hown, hb⟩ := hrel
    by_cases hlt : k < ds.length
    · obtain ⟨b, o, rfl, hc⟩ : ∃ b o, a = some ⟨b, o, none⟩ ∧ ∀ i (h : i < ds.length), w2.cell? ⟨b, o + i, none⟩ = some (strVal ds[i]) := by
        rcases hta with h | h
        · subst h; simp at hlt
        · exact h
      have ck := (hb.cell (p := ⟨b, o + k, none⟩) (block_lt (hc k hlt))).trans (hc k hlt)
      obtain ⟨d, hd⟩ : ∃ d, ds[k] = d := ⟨_, rfl⟩
      have hdm : d ∈ ds := by rw [← hd]; exact List.getElem_mem hlt
      obtain ⟨y, hy⟩ : ∃ y, lastR kr d = some y := Option.isSome_iff_exists.1 ((lastR_isSome kr d).2 ((hmem d).1 hdm))
      have hdl3 : d.length ≤ maxLen := by
        have := (lastR_some hy).2
        rw [← this, digest_len]; decide
      have Htk := hide (show (ds.take (k + 1)).map (fun d => (lastR kr d).getD []) = (ds.take k).map (fun d => (lastR kr d).getD []) ++ [y] by rw [List.take_succ_eq_append_getElem hlt, List.map_append, hd]; simp [hy])
      rw [hd] at ck
      unfold strVal at ck
      have q2 : (k : Int) < (ds.length : Int) := by omega
      have hlw := (Array.getElem?_eq_some_iff.1 hs2).1
      have hsr := (hb.block w.heap.size hlw).trans hs2
      have c0 := cell_of_block (j := 0) hsr
      have c1 := cell_of_block (j := 1) hsr
      simp only [List.getElem?_toArray, List.getElem?_cons_zero, List.getElem?_cons_succ] at c0 c1
      have hby := bytes_any root um n kr d y wr (hm2.same (hb.block um hm2.lt)) hdl3 hy
      unfold setV at hby
      have hlen : ((ds.take k).map (fun d => (lastR kr d).getD [])).length ≤ 2000000 := by simp; omega
      have hw2 := hb.size
      clear hc hd hdm hy hmem
      go_wp2_with (first
        | (go_at_call 68; refine hby.mono ?_; rintro e w' ⟨rfl, hw'⟩; rw [hw']; clear hw' w')
        | (at_builtin; refine app_text rfl (.tmp 13) (.tmp 17) rfl w2.heap.size _ _ rfl ((hown.alloc _).alloc _) ⟨wr.heap.size + 1, 0, none⟩ y rfl ?qa ?qb ?qc ?_))
      case qa => rw [add_off0]; simp [strVal]
      case qb => exact hlen
      case qc => simp; omega
      intro v4 w4 ho4 g4
      have hb4 : Below w2.heap.size w2 w4 := ((hb.alloc hb.size _).alloc (by simp; omega) _).grown g4 (by simp; omega) (fun k hk => (World.ownsRow.lt hown k hk).1)
      clear g4
      go_wp2_with fail
      go_roundw
      case rel => exact ⟨k + 1, by omega, by go_num, by rw [unhide Htk, List.map_take]; exact ho4, hb4⟩
      case measure => simp [intOf]; omega
    · obtain rfl : k = ds.length := by omega
      rw [List.take_length] at hown
      have hbw : Below w.heap.size w wr := hbb.trans (hb.mono hbb.size)
      have Ho := hide hown
      clear hown
      go_wp2_with fail
      go_ret
      exact ⟨_, rfl, by rw [unhide HL]; exact (unhide Ho).weak' hbb.size, hbw⟩
end Go.Proofs.YtjmacegibchplaaGreatDoor
