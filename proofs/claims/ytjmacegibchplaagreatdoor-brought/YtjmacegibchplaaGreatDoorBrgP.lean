import Derived.Test.YtjmacegibchplaaGreatDoorUpB
import Derived.Test.YtjmacegibchplaaGreatDoorUplP
/-
  The program's bring: what is missing goes out in batches.
-/
namespace Go.Proofs.YtjmacegibchplaaGreatDoor
open Go.RowKit Go.Maps Go.WideMaps
set_option linter.unusedVariables false
theorem miss_nodup (st : List (List UInt8 × List UInt8)) (l : List (List UInt8)) (hn : l.Pairwise (fun x y => x ≠ y)) : ∀ k, k ≤ l.length → missTo st l k = (l.take k).filter (fun d => !(atP st d).isSome)
  | 0, _ => by simp [missTo]
  | k + 1, hk => by
    have ih := miss_nodup st l hn k (by omega)
    have hg : l.getD k [] = l[k] := by rw [List.getD_eq_getElem?_getD, List.getElem?_eq_getElem (by omega)]; rfl
    have hno : (l.take k).any (· == l[k]) = false := by
      rw [List.any_eq_false]
      intro x hx
      obtain ⟨i, hi, rfl⟩ := List.getElem_of_mem hx
      rw [List.length_take] at hi
      rw [List.getElem_take]
      have := (List.pairwise_iff_getElem.1 hn) i k (by omega) (by omega) (by omega)
      simpa using this
    rw [missTo_succ, ih, List.take_succ_eq_append_getElem (by omega), List.filter_append]
    unfold thereP
    rw [hg, hno, Bool.or_false]
    have e : [l[k]].filter (fun d => !(atP st d).isSome) = if (atP st l[k]).isSome = true then [] else [l[k]] := by
      rw [List.filter_cons, List.filter_nil]
      cases (atP st l[k]).isSome <;> rfl
    rw [e]
theorem digs_ne (kr : List (List UInt8)) : (digsOf kr).Pairwise (fun x y => x ≠ y) :=
  (digs_sorted kr).imp (fun {a b} h e => by subst e; rw [less_irr] at h; simp at h)
theorem dig_of (kr : List (List UInt8)) (d : List UInt8) (hd : d ∈ digsOf kr) : ∃ y, lastR kr d = some y ∧ P.digest y = d ∧ y ∈ kr := by
  obtain ⟨y, hy⟩ := Option.isSome_iff_exists.1 ((lastR_isSome kr d).2 ((digs_mem kr d).1 hd))
  exact ⟨y, hy, (lastR_some hy).2, (lastR_some hy).1⟩
theorem bytes_filter (kr : List (List UInt8)) (st : List (List UInt8 × List UInt8)) : bytesOf kr ((digsOf kr).filter (fun d => !(atP st d).isSome)) = (listOf kr).filter (fun b => !(atP st (P.digest b)).isSome) := by
  unfold bytesOf listOf
  rw [List.filter_map]
  congr 1
  refine List.filter_congr (fun d hd => ?_)
  obtain ⟨y, hy, e, _⟩ := dig_of kr d hd
  simp only [Function.comp, hy, Option.getD_some, e]
theorem try_nil_bd (room : Int) (L : List Int) (st : List (List UInt8 × List UInt8)) : ∀ (k : Nat) (s : Nat × Nat × Nat), (tryP room L [] k st s).2.1 = st ∧ (tryP room L [] k st s).2.2.1 ≤ s.1 + k ∧ (tryP room L [] k st s).2.2.2.1 = s.2.1 ∧ (tryP room L [] k st s).2.2.2.2 = s.2.2
  | 0, s => ⟨rfl, Nat.le_refl _, rfl, rfl⟩
  | k + 1, s => by
    rw [try_nil]
    split
    · exact ⟨rfl, by simp only; omega, rfl, rfl⟩
    · obtain ⟨h1, h2, h3, h4⟩ := try_nil_bd room L st k (s.1 + 1, s.2.1 + 0, s.2.2 + 0)
      exact ⟨h1, by simp only at h2; omega, h3, h4⟩
set_option maxHeartbeats 1000000 in
theorem or_any (b : Nat) (y x : Int) (w : World) (h0 : w.cell? ⟨b, 0, none⟩ = some (.int .i64 y)) (h1 : w.cell? ⟨b, 1, none⟩ = some (.int .i64 x)) :
    Calls Tryz.prog 137 #[.slice (some ⟨b, 0, none⟩) 2 2] w fun e w' => e = .returned (.int .i64 (if y = 0 then x else y)) ∧ w' = w := by
  have Hr := hide (show (y ≠ 0 → (if y = 0 then x else y) = y) ∧ (y = 0 → (if y = 0 then x else y) = x) from ⟨fun h => if_neg h, fun h => if_pos h⟩)
  generalize (if y = 0 then x else y) = r at *
  go_enter Tryz.func137, Tryz.ntmps137
  go_wp2_with fail
  go_loop [8] (fun i => ∃ k : Nat, k ≤ 2 ∧ i = .int .i64 k ∧ (1 ≤ k → y = 0) ∧ (2 ≤ k → x = 0)) (fun i => 2 - (intOf i).toNat)
  case atStart => exact ⟨0, by omega, rfl, fun h => by omega, fun h => by omega⟩
  case round =>
    obtain ⟨k, hk, rfl, hy, hx⟩ := hrel
    rcases (show k = 0 ∨ k = 1 ∨ k = 2 by omega) with rfl | rfl | rfl
    · by_cases hz : y = 0
      · subst hz
        clear hy hx
        go_wp2_with fail
        go_round
        case rel => exact ⟨1, by omega, rfl, fun _ => by first | trivial | rfl, fun h => by omega⟩
        case measure => simp [intOf]
      · have b0 : (y == 0) = false := by simpa using hz
        have Hq := hide ((unhide Hr).1 hz)
        clear hy hx
        go_wp2_with fail
        go_ret
        exact ⟨ret_int (unhide Hq).symm, rfl⟩
    · have hy0 := hy (by omega)
      subst hy0
      have Hq := hide ((unhide Hr).2 rfl)
      clear hy hx
      by_cases hz : x = 0
      · subst hz
        go_wp2_with fail
        go_round
        case rel => exact ⟨2, by omega, rfl, fun _ => by first | trivial | rfl, fun _ => by first | trivial | rfl⟩
        case measure => simp [intOf]
      · have b0 : (x == 0) = false := by simpa using hz
        go_wp2_with fail
        go_ret
        exact ⟨ret_int (unhide Hq).symm, rfl⟩
    · have hy0 := hy (by omega)
      have hx0 := hx (by omega)
      subst hy0
      subst hx0
      have Hq := hide ((unhide Hr).2 rfl)
      clear hy hx
      go_wp2_with fail
      go_ret
      exact ⟨ret_int (unhide Hq).symm, rfl⟩
theorem sends_drop (room : Int) (T : Nat) (L : List Int) (bats : List (List (List UInt8))) (j : Nat) (hj : j < bats.length) (st : List (List UInt8 × List UInt8)) (s : Nat × Nat × Nat) :
    sendsP room T L (bats.drop j) st s = if (tryP room L bats[j] T st s).1 ≠ 0 then tryP room L bats[j] T st s else sendsP room T L (bats.drop (j + 1)) (tryP room L bats[j] T st s).2.1 (tryP room L bats[j] T st s).2.2 := by
  rw [List.drop_eq_getElem_cons hj]
  rfl
end Go.Proofs.YtjmacegibchplaaGreatDoor

/-
  A tree that is brought into a store over a link: what the store holds, and what was sent. Plain lists, no walk.
-/
namespace Go.Proofs.YtjmacegibchplaaGreatDoor
set_option linter.unusedVariables false
def badK (k : Int) : Bool := k == 1 || k == 2
theorem count_bad : ∀ (n a : Nat) (link : List Int), (∀ i, i < n → link.getD (a + i) 0 = 1 ∨ link.getD (a + i) 0 = 2) → n ≤ (link.drop a).countP badK
  | 0, _, _, _ => Nat.zero_le _
  | n + 1, a, link, h => by
    have h0 := h 0 (by omega)
    rw [Nat.add_zero] at h0
    have hl : a < link.length := by
      rcases Nat.lt_or_ge a link.length with hl | hl
      · exact hl
      · rw [List.getD_eq_getElem?_getD, List.getElem?_eq_none hl] at h0
        simp at h0
    have ih := count_bad n (a + 1) link (fun i hi => by
      have := h (i + 1) (by omega)
      rwa [show a + (i + 1) = a + 1 + i by omega] at this)
    rw [List.drop_eq_getElem_cons hl, List.countP_cons]
    rw [List.getD_eq_getElem?_getD, List.getElem?_eq_getElem hl] at h0
    have hb : badK link[a] = true := by
      simp only [Option.getD_some] at h0
      rcases h0 with h | h <;> rw [h] <;> rfl
    rw [if_pos hb]
    omega
theorem bad_total (n a : Nat) (link : List Int) (h : ∀ i, i < n → link.getD (a + i) 0 = 1 ∨ link.getD (a + i) 0 = 2) : n ≤ link.countP badK := by
  have h1 := count_bad n a link h
  have h2 : (link.drop a).countP badK ≤ link.countP badK := (List.drop_sublist a link).countP_le
  omega
theorem bad_none (link : List Int) (h : link.countP badK = 0) (i : Nat) : link.getD i 0 ≠ 1 ∧ link.getD i 0 ≠ 2 := by
  rw [List.countP_eq_zero] at h
  rw [List.getD_eq_getElem?_getD]
  rcases Nat.lt_or_ge i link.length with hl | hl
  · rw [List.getElem?_eq_getElem hl]
    have := h link[i] (List.getElem_mem hl)
    simp only [badK, Bool.or_eq_true, beq_iff_eq, not_or] at this
    exact this
  · rw [List.getElem?_eq_none hl]
    simp
theorem bring_any {room : Int} {blobs : List (List UInt8)} (hr : (bytesP blobs : Int) ≤ room) (batch : Int) (tries : Nat) (link : List Int) (st : List (List UInt8 × List UInt8)) (h : Roomy room blobs st) :
    ∃ miss : List (List UInt8), miss = blobs.filter (fun b => !(atP st (P.digest b)).isSome) ∧ Grew st (bringP room batch tries link blobs st).2.1 blobs ∧
    (((bringP room batch tries link blobs st).1 = 0 ∧ (∀ b ∈ blobs, (atP (bringP room batch tries link blobs st).2.1 (P.digest b)).isSome = true) ∧
        miss.length ≤ (bringP room batch tries link blobs st).2.2.2.1 ∧ (bringP room batch tries link blobs st).2.2.2.1 ≤ tries * miss.length ∧ bytesP miss ≤ (bringP room batch tries link blobs st).2.2.2.2 ∧
        (link.countP badK = 0 → (bringP room batch tries link blobs st).2.2.2.1 = miss.length)) ∨
      ((bringP room batch tries link blobs st).1 = 10 ∧ tries ≤ link.countP badK)) := by
  refine ⟨_, rfl, ?_⟩
  generalize hm : blobs.filter (fun b => !(atP st (P.digest b)).isSome) = miss
  have hmb : ∀ b ∈ miss, b ∈ blobs := fun b hb => by rw [← hm] at hb; exact (List.mem_filter.1 hb).1
  obtain ⟨r1, n, r2, r3, r4⟩ := tryP_roomy hr link [] (by simp) tries st (0, 0, 0) h
  have hgr := tryP_grew room link [] tries st (0, 0, 0)
  unfold bringP
  rw [hm]
  simp only
  rcases r4 with ⟨a1, a2, _, a4⟩ | ⟨a1, a2, a3⟩
  · rw [if_neg (by rw [a1]; simp)]
    obtain ⟨g1, g2⟩ := sendP_roomy hr batch tries link miss.length miss (tryP room link [] tries st (0, 0, 0)).2.1 (tryP room link [] tries st (0, 0, 0)).2.2 (Nat.le_refl _) hmb r1
    generalize tryP room link [] tries st (0, 0, 0) = q at *
    generalize sendP room batch tries link miss.length miss q.2.1 q.2.2 = t at *
    refine ⟨hgr.trans g1 blobs (by simp) hmb, ?_⟩
    rcases g2 with ⟨b1, b2, b3, b4, b5, b6⟩ | ⟨b1, a, b2⟩
    · rw [r3] at b3 b4 b5 b6
      simp only [List.length_nil, Nat.mul_zero, Nat.zero_add, bytesP] at b3 b4 b5 b6
      refine .inl ⟨b1, ?_, b3, b4, b5, fun h0 => b6 (bad_none link h0)⟩
      intro b hb
      cases hc : atP st (P.digest b) with
      | some x =>
        have h1 := hgr.old _ _ hc
        have h2 := g1.old _ _ h1
        rw [h2]; rfl
      | none =>
        exact b2 b (by rw [← hm]; exact List.mem_filter.2 ⟨hb, by simp [hc]⟩)
    · exact .inr ⟨b1, bad_total tries a link b2⟩
  · rw [if_pos (by rw [a1]; simp)]
    exact ⟨hgr.trans (Grew.refl _ []) blobs (by simp) (by simp), .inr ⟨a1, bad_total tries 0 link a3⟩⟩
theorem bring_held {l : List En} {blobs : List (List UInt8)} (hb : builtP l = some blobs) {st st' : List (List UInt8 × List UInt8)} (h0 : ∀ d b, atP st d = some b → b ∈ blobs ∧ d = P.digest b) (hg : Grew st st' blobs) (hall : ∀ b ∈ blobs, (atP st' (P.digest b)).isSome = true) : Held (atP st') l := by
  unfold builtP at hb
  rcases outs_spec (allP l) with ⟨hn, _⟩ | ⟨out, ho, _, hmem, huni⟩
  · rw [hn] at hb; simp at hb
  · rw [ho] at hb
    obtain rfl := Option.some.inj hb
    intro b hbm
    obtain ⟨x, hx⟩ := Option.isSome_iff_exists.1 (hall b ((hmem b).2 hbm))
    have hxo : x ∈ out ∧ P.digest b = P.digest x := by
      rcases hg.new _ _ hx with h | h
      · exact h0 _ _ h
      · exact h
    rw [hx, huni b hbm x ((hmem x).1 hxo.1) hxo.2]
theorem part_small (l : List En) (ht : Tree l) (b : List UInt8) (hb : b ∈ allP l) : b.length ≤ 1802 := by
  unfold allP allTo at hb
  rw [List.take_length] at hb
  rcases List.mem_cons.1 hb with rfl | hb
  · exact blob_small l ht 6 [] (.inl rfl)
  · obtain ⟨e, he, hbe⟩ := List.mem_flatMap.1 hb
    unfold partP at hbe
    split at hbe
    · rw [List.mem_singleton.1 hbe]
      exact blob_small l ht 6 _ (.inr ⟨_, rfl⟩)
    · split at hbe
      · rename_i hk
        rw [List.mem_singleton.1 hbe]
        obtain ⟨i, hi, rfl⟩ := List.mem_iff_getElem.1 he
        have hkb := fineP_kind l i hi (ht.fine i hi)
        rcases kind_cases hkb with ⟨h0, _⟩ | ⟨_, h60⟩ | h3
        · omega
        · show l[i].data.size ≤ 1802
          omega
        · omega
      · simp at hbe
theorem bytes_le (l : List (List UInt8)) (n : Nat) (h : ∀ b ∈ l, b.length ≤ n) : bytesP l ≤ l.length * n := by
  induction l with
  | nil => simp [bytesP]
  | cons b r ih =>
    have h1 := h b (by simp)
    have h2 := ih (fun x hx => h x (by simp [hx]))
    simp only [bytesP, List.length_cons, Nat.succ_mul]
    omega
theorem built_facts {l : List En} (ht : Tree l) {blobs : List (List UInt8)} (hb : builtP l = some blobs) : blobs.Pairwise (fun x y => x ≠ y) ∧ (∀ x, x ∈ blobs ↔ x ∈ allP l) ∧ blobs.length ≤ 41 ∧ bytesP blobs ≤ 73882 := by
  unfold builtP at hb
  rcases outs_spec (allP l) with ⟨hn, _⟩ | ⟨out, ho, hs, hmem, huni⟩
  · rw [hn] at hb; simp at hb
  · rw [ho] at hb
    obtain rfl := Option.some.inj hb
    have hne : out.Pairwise (fun x y => x ≠ y) := hs.imp (by rintro x y h rfl; rw [dless_irr] at h; simp at h)
    have hlen : out.length ≤ 41 := by
      have h1 : ∀ (a m : List (List UInt8)), a.Pairwise (fun x y => x ≠ y) → (∀ x ∈ a, x ∈ m) → a.length ≤ m.length := by
        intro a
        induction a with
        | nil => intro m _ _; exact Nat.zero_le _
        | cons x a ih =>
          intro m hn hs
          rw [List.pairwise_cons] at hn
          have hx := hs x (by simp)
          have h := ih (m.erase x) hn.2 (fun b hb => (List.mem_erase_of_ne (fun e => hn.1 b hb e.symm)).2 (hs b (by simp [hb])))
          rw [List.length_erase_of_mem hx] at h
          have := List.length_pos_of_mem hx
          simp; omega
      have h2 := h1 out (allP l) hne (fun x hx => (hmem x).1 hx)
      have h3 := allTo_len l l.length (Nat.le_refl _)
      have := ht.len
      unfold allP at h2
      omega
    have hby := bytes_le out 1802 (fun b hb => part_small l ht b ((hmem b).1 hb))
    refine ⟨hne, hmem, hlen, ?_⟩
    have := Nat.mul_le_mul_right 1802 hlen
    omega
theorem roomy_nil (room : Int) (all : List (List UInt8)) : Roomy room all [] := ⟨[], List.Pairwise.nil, by simp, rfl⟩
end Go.Proofs.YtjmacegibchplaaGreatDoor
