/-
  The program's Set: Digests, Bytes, List; and Build.
-/
import Derived.Test.YtbfjbohdiemofaaGreatDoorSetA
import Derived.Test.YtbfjbohdiemofaaGreatDoorTreeG
import Derived.OwnWalk
namespace Go.Proofs.YtbfjbohdiemofaaGreatDoor
open Go.RowKit Go.Maps
set_option linter.unusedVariables false

theorem field_blob (s : ByteArray) (w : World) : (Instr.field 52 (.agg #[.string s]) 0).run Tryz.prog w = .ok (.string s) w := by kernel_rfl
def setV (root : ByteArray) (m : Option Nat) : Value := .agg #[.string root, .map m]
set_option maxRecDepth 100000 in
set_option maxHeartbeats 1000000 in
theorem digests_any (root : ByteArray) (um n : Nat) (kr : List (List UInt8)) (w : World) (hm : MapIs w um n (blobsF kr)) (hn : n ≤ 5000000000) :
    Calls Tryz.prog 30 #[setV root (some um)] w fun e w' => ∃ v, e = .returned v ∧ OwnsS w' w.heap.size v (digsOf kr) ∧ Below w.heap.size w w' := by
  have hm1 := hm.alloc (.cells #[.string root, .map (some um)] 42)
  obtain ⟨D, hown, hf⟩ := hm1
  have hsz := hown.size_le
  have hs := sorted_at um n D rawElem _ hown (by unfold maxLen; omega) (by omega)
  rw [show (w.alloc (.cells #[.string root, .map (some um)] 42)).heap.size = w.heap.size + 1 by simp] at hs
  have hkd := fun ss => keys_digs hown (fun k => (hf k).1) ss
  have Hs := hide hs
  have Hkd := hide hkd
  have hk := keys_at (some um)
  clear hs hkd hown hf hm
  unfold setV
  go_enter Tryz.func30, Tryz.ntmps30
  go_wp2_with (go_at_call 48; refine (hk _).mono ?_; rintro e w' ⟨rfl, hw'⟩; rw [hw']; clear hw' w')
  refine (unhide Hs).mono ?_
  rintro e w2 ⟨v, ss, rfl, hp, hrow, _, hb2⟩
  have he := unhide Hkd ss hp
  rw [he] at hrow
  have hlen : ss.length = (digsOf kr).length := by rw [← he, List.length_mergeSort]
  have ho : OwnsS w2 w.heap.size v (digsOf kr) := by
    unfold OwnsS
    rw [← hlen]
    have h2 : (digsOf kr).map Go.Proofs.encStr = (digsOf kr).map strVal := rfl
    rw [h2] at hrow
    exact ⟨hrow.1, hrow.2.imp id (fun ⟨g, cap, cur, h1, h2, h3⟩ => ⟨g, cap, cur, h1, by simp at h2; omega, h3⟩)⟩
  have hbb : Below w.heap.size w w2 := (((Below.refl _ _).alloc (Nat.le_refl _) _).alloc (by simp) _).trans (hb2.mono (by simp; omega))
  clear hrow hp he hlen hb2 Hs Hkd hk
  go_wp2_with fail
  go_ret
  exact ⟨_, rfl, ho, hbb⟩
set_option maxRecDepth 100000 in
set_option maxHeartbeats 1000000 in
theorem digests_nil (root : ByteArray) (w : World) :
    Calls Tryz.prog 30 #[setV root none] w fun e w' => e = .returned (.slice none 0 0) ∧ Below w.heap.size w w' := by
  have hk := keys_at none
  have hs := sorted_nil (w.alloc (.cells #[.string root, .map none] 42))
  rw [show (w.alloc (.cells #[.string root, .map none] 42)).heap.size = w.heap.size + 1 by simp] at hs
  have Hs := hide hs
  clear hs
  unfold setV
  go_enter Tryz.func30, Tryz.ntmps30
  go_wp2_with (go_at_call 48; refine (hk _).mono ?_; rintro e w' ⟨rfl, hw'⟩; rw [hw']; clear hw' w')
  refine (unhide Hs).mono ?_
  rintro e w2 ⟨rfl, hb2⟩
  have hbb : Below w.heap.size w w2 := ((Below.refl _ _).alloc (Nat.le_refl _) _).trans (hb2.mono (by simp))
  clear hb2 Hs hk
  go_wp2_with fail
  go_ret
  exact ⟨rfl, hbb⟩
set_option maxRecDepth 100000 in
set_option maxHeartbeats 1000000 in
theorem bytes_any (root : ByteArray) (um n : Nat) (kr : List (List UInt8)) (d y : List UInt8) (w : World) (hm : MapIs w um n (blobsF kr)) (hd : d.length ≤ maxLen) (hy : lastR kr d = some y) :
    Calls Tryz.prog 31 #[setV root (some um), .string (bs d)] w fun e w' => e = .returned (.string (bs y)) ∧ w' = w.alloc (.cells #[.string root, .map (some um)] 42) := by
  have hF : blobsF kr d = some (.agg #[.string (bs y)]) := by unfold blobsF; rw [hy]; rfl
  have hfd := field_blob
  unfold setV
  go_enter Tryz.func31, Tryz.ntmps31
  go_wp2_with (at_lookup; refine wp_look rfl _ _ 40 rfl 52 under40 (.agg #[.string ⟨#[]⟩]) (zero_blob _) um n (blobsF kr) rfl (hm.alloc _) d rfl hd ?_; rw [hF]; simp only [Option.getD_some])
  go_ret
  exact ⟨rfl, rfl⟩
/-- the blobs by rising digests -/
def listOf (kr : List (List UInt8)) : List (List UInt8) := (digsOf kr).map (fun d => (lastR kr d).getD [])
theorem OwnsS.weak' {w : World} {b b' : Nat} {v : Value} {l : List (List UInt8)} (h : OwnsS w b v l) (hb : b' ≤ b) : OwnsS w b' v l :=
  ⟨h.1, h.2.imp id (fun ⟨g, cap, cur, h1, h2, h3⟩ => ⟨g, cap, cur, h1, Nat.le_trans hb h2, h3⟩)⟩
set_option maxRecDepth 100000 in
set_option maxHeartbeats 2000000 in
theorem list_any (root : ByteArray) (um n : Nat) (kr : List (List UInt8)) (w : World) (hm : MapIs w um n (blobsF kr)) (hn : n ≤ 5000000000) (hdl : (digsOf kr).length ≤ 1000000) :
    Calls Tryz.prog 23 #[setV root (some um)] w fun e w' => ∃ v, e = .returned v ∧ OwnsS w' w.heap.size v (listOf kr) ∧ Below w.heap.size w w' := by
  have hm1 := hm.alloc (.cells #[.string root, .map (some um)] 42)
  have hdg := digests_any root um n kr _ hm1 hn
  have hbA : Below w.heap.size w (w.alloc (.cells #[.string root, .map (some um)] 42)) := (Below.refl _ _).alloc (Nat.le_refl _) _
  unfold setV at hdg
  have Hdg := hide hdg
  clear hdg
  unfold setV
  go_enter Tryz.func23, Tryz.ntmps23
  go_wp2_with fail
  refine (unhide Hdg).mono ?_
  rintro e w2 ⟨v, rfl, ho, hb2⟩
  obtain ⟨a, c, rfl, hta, -, -⟩ := ho.texts
  have hbb : Below w.heap.size w w2 := hbA.trans (hb2.mono hbA.size)
  have hs2 : w2.heap[w.heap.size]? = some (.cells #[.string root, .map (some um)] 42 (0, 0)) := (hb2.block w.heap.size (by simp)).trans (heap_alloc_new w _)
  have hm2 : MapIs w2 um n (blobsF kr) := hm1.same (hb2.block um hm1.lt)
  have hmem := digs_mem kr
  clear Hdg ho hb2 hm1 hbA hm
  generalize hD : digsOf kr = ds at *
  have HL := hide (show listOf kr = ds.map (fun d => (lastR kr d).getD []) by unfold listOf; rw [hD])
  go_wp2_with fail
  go_loopw [3, 9] (fun v i wr => ∃ k : Nat, k ≤ ds.length ∧ i = .int .i64 k ∧ OwnsS wr w2.heap.size v ((ds.take k).map (fun d => (lastR kr d).getD [])) ∧ Below w2.heap.size w2 wr) (fun _ i _ => ds.length - (intOf i).toNat)
  case atStart => exact ⟨0, Nat.zero_le _, rfl, World.ownsRow_nil _ _ _ _, Below.refl _ _⟩
  case round =>
    obtain ⟨k, hk, rfl, hown, hb⟩ := hrel
    by_cases hlt : k < ds.length
    · obtain ⟨b, o, rfl, hc⟩ : ∃ b o, a = some ⟨b, o, none⟩ ∧ ∀ i (h : i < ds.length), w2.cell? ⟨b, o + i, none⟩ = some (strVal ds[i]) := by
        rcases hta with h | h
        · subst h; simp at hlt
        · exact h
      have ck := (hb.cell (p := ⟨b, o + k, none⟩) (block_lt (hc k hlt))).trans (hc k hlt)
      obtain ⟨d, hd⟩ : ∃ d, ds[k] = d := ⟨_, rfl⟩
      have hdm : d ∈ ds := by rw [← hd]; exact List.getElem_mem hlt
      obtain ⟨y, hy⟩ : ∃ y, lastR kr d = some y := Option.isSome_iff_exists.1 ((lastR_isSome kr d).2 ((hmem d).1 hdm))
      have hdl3 : d.length ≤ maxLen := by
        have := (lastR_some hy).2
        rw [← this, digest_len]; decide
      have Htk := hide (show (ds.take (k + 1)).map (fun d => (lastR kr d).getD []) = (ds.take k).map (fun d => (lastR kr d).getD []) ++ [y] by rw [List.take_succ_eq_append_getElem hlt, List.map_append, hd]; simp [hy])
      rw [hd] at ck
      unfold strVal at ck
      have q2 : (k : Int) < (ds.length : Int) := by omega
      have hlw := (Array.getElem?_eq_some_iff.1 hs2).1
      have hsr := (hb.block w.heap.size hlw).trans hs2
      have c0 := cell_of_block (j := 0) hsr
      have c1 := cell_of_block (j := 1) hsr
      simp only [List.getElem?_toArray, List.getElem?_cons_zero, List.getElem?_cons_succ] at c0 c1
      have hby := bytes_any root um n kr d y wr (hm2.same (hb.block um hm2.lt)) hdl3 hy
      unfold setV at hby
      have hlen : ((ds.take k).map (fun d => (lastR kr d).getD [])).length ≤ 2000000 := by simp; omega
      have hw2 := hb.size
      clear hc hd hdm hy hmem
      go_wp2_with (first
        | (go_at_call 31; refine hby.mono ?_; rintro e w' ⟨rfl, hw'⟩; rw [hw']; clear hw' w')
        | (at_builtin; refine app_text rfl (.tmp 13) (.tmp 17) rfl w2.heap.size _ _ rfl ((hown.alloc _).alloc _) ⟨wr.heap.size + 1, 0, none⟩ y rfl ?qa ?qb ?qc ?_))
      case qa => rw [add_off0]; simp [strVal]
      case qb => exact hlen
      case qc => simp; omega
      intro v4 w4 ho4 g4
      have hb4 : Below w2.heap.size w2 w4 := ((hb.alloc hb.size _).alloc (by simp; omega) _).grown g4 (by simp; omega) (fun k hk => (World.ownsRow.lt hown k hk).1)
      clear g4
      go_wp2_with fail
      go_roundw
      case rel => exact ⟨k + 1, by omega, by go_num, by rw [unhide Htk, List.map_take]; exact ho4, hb4⟩
      case measure => simp [intOf]; omega
    · obtain rfl : k = ds.length := by omega
      rw [List.take_length] at hown
      have hbw : Below w.heap.size w wr := hbb.trans (hb.mono hbb.size)
      have Ho := hide hown
      clear hown
      go_wp2_with fail
      go_ret
      exact ⟨_, rfl, by rw [unhide HL]; exact (unhide Ho).weak' hbb.size, hbw⟩
end Go.Proofs.YtbfjbohdiemofaaGreatDoor
