import Derived.Test.YtjmacegibchplaaGreatDoorCardA
import Derived.Test.YtjmacegibchplaaGreatDoorPathP
import Derived.Test.YtjmacegibchplaaGreatDoorEntB
import Derived.Maps.OwnSet
/-
  The program's tests of an entry, further: LeadsOut, isPath, isData, isEntry; byPath.
-/
namespace Go.Proofs.YtjmacegibchplaaGreatDoor
open Go.RowKit
set_option linter.unusedVariables false
theorem out_step (e : Int) (x : List UInt8) (r : List (List UInt8)) : outGo e (x :: r) = if e + downP x < 0 then true else outGo (e + downP x) r := by
  by_cases h1 : x = [46, 46]
  · subst h1
    rw [show downP [46, 46] = -1 from rfl]
    simp only [outGo, if_pos]; rfl
  · by_cases h2 : x = [] ∨ x = [46]
    · have hd : downP x = 0 := by unfold downP; rw [if_pos h2]
      rw [hd]; simp only [outGo]; rw [if_neg h1, if_pos h2, Int.add_zero]
    · have hd : downP x = 1 := by unfold downP; rw [if_neg h2, if_neg h1]
      rw [hd]; simp only [outGo]; rw [if_neg h1, if_neg h2]
theorem downP_bd (x : List UInt8) : -1 ≤ downP x ∧ downP x ≤ 1 := by
  unfold downP
  split
  · decide
  · split <;> decide
set_option maxHeartbeats 1000000 in
theorem depth_any (p : List UInt8) (w : World) (hl : p.length ≤ 1100000) :
    Calls Tryz.prog 92 #[.string (bs p)] w fun e w' => e = .returned (.int .i64 ((sp p).length : Int)) ∧ w' = w := by
  have hcount := fun w' => Tryz.strings_Count_one (bs p) 47 w'
  have hpos : 1 ≤ (sp p).length := List.length_pos_iff.2 (sp_ne p)
  have hsl := sp_len p
  rw [bs_data, show Lib.countByte p 47 = (sp p).length - 1 by rw [sp_count]; rfl] at hcount
  have hn : (((sp p).length - 1 : Nat) : Int) = ((sp p).length : Int) - 1 := by omega
  simp only [hn] at hcount
  generalize (sp p).length = n at *
  go_enter Tryz.func92, Tryz.ntmps92
  go_wp2_with (go_at_call 141; refine (hcount _).mono ?_; rintro e w' ⟨rfl, hw'⟩; rw [hw']; clear hw' w')
  go_ret
  exact ⟨ret_int (by omega), rfl⟩
set_option maxHeartbeats 1000000 in
theorem leads_any (p t : List UInt8) (w : World) (hg : GlobOk w) (hp : p.length ≤ 1100000) (hd1 : (sp p).length ≤ 100) (hl : t.length ≤ 1100000) :
    Calls Tryz.prog 102 #[.string (bs p), .string (bs t)] w fun e w' => e = .returned (.bool (outP (((sp p).length : Int) - 1) t)) ∧ Below w.heap.size w w' := by
  have hpre := Tryz.strings_HasPrefix (bs t) ⟨#[47]⟩ w
  have hdep := fun w => depth_any p w hp
  have hpos : 1 ≤ (sp p).length := List.length_pos_iff.2 (sp_ne p)
  rw [bs_data, show (⟨#[47]⟩ : ByteArray).data.toList = [47] from rfl, prefix_slash] at hpre
  by_cases h47 : t.head? = some 47
  · have ho : outP (((sp p).length : Int) - 1) t = true := by unfold outP; rw [if_pos h47]
    rw [decide_eq_true h47] at hpre
    rw [ho]
    go_enter Tryz.func102, Tryz.ntmps102
    go_wp2_with (go_at_call 151; refine hpre.mono ?_; rintro e w' ⟨rfl, hw'⟩; rw [hw']; clear hw' w')
    go_ret
    exact ⟨rfl, Below.refl _ _⟩
  · have ho : outP (((sp p).length : Int) - 1) t = outGo (((sp p).length : Int) - 1) (sp t) := by unfold outP; rw [if_neg h47]
    rw [decide_eq_false h47] at hpre
    have Ho := hide ho
    clear ho h47
    generalize hpn : (sp p).length = np at *
    clear hpn
    go_enter Tryz.func102, Tryz.ntmps102
    go_wp2_with (first
      | (go_at_call 151; refine hpre.mono ?_; rintro e w' ⟨rfl, hw'⟩; rw [hw']; clear hw' w')
      | (go_at_call 92; refine (hdep _).mono ?_; rintro e w' ⟨rfl, hw'⟩; rw [hw']; clear hw' w'))
    refine (split_law t w hg hl).mono ?_
    rintro e w1 ⟨rfl, ht1, hb1⟩
    have hsl := sp_len t
    clear hpre hdep
    generalize hS : sp t = S at *
    clear hS
    have hsl2 : S.length ≤ 1200000 := by omega
    clear hsl
    have HB := hide hb1
    clear hb1
    generalize hH : w.heap.size = H at ht1 ⊢
    clear hH
    go_wp2_with fail
    go_loop [5, 16] (fun dv i => ∃ (k : Nat) (e : Int), k ≤ S.length ∧ i = .int .i64 k ∧ dv = .int .i64 e ∧ 0 ≤ e ∧ e ≤ 100 + k ∧ outGo ((np : Int) - 1) S = outGo e (S.drop k)) (fun _ i => S.length - (intOf i).toNat)
    case atStart => exact ⟨0, (np : Int) - 1, Nat.zero_le _, rfl, by go_num, by omega, by omega, by simp⟩
    case round =>
      obtain ⟨k, e, hk, rfl, rfl, he0, he1, hgo⟩ := hrel
      have Hg := hide hgo
      clear hgo
      by_cases hlt : k < S.length
      · obtain ⟨b, o, hbo, hc⟩ : ∃ b o, some (⟨H, 0, none⟩ : Addr) = some ⟨b, o, none⟩ ∧ ∀ i (h : i < S.length), w1.cell? ⟨b, o + i, none⟩ = some (strVal S[i]) := by
          rcases ht1 with h | h
          · subst h; simp at hlt
          · exact h
        obtain ⟨rfl, rfl⟩ : b = H ∧ o = 0 := by simp at hbo; exact ⟨hbo.1.symm, hbo.2.symm⟩
        have ck := hc k hlt
        obtain ⟨x, hx⟩ : ∃ x, S[k] = x := ⟨_, rfl⟩
        rw [hx, Nat.zero_add] at ck
        unfold strVal at ck
        have hdr : S.drop k = x :: S.drop (k + 1) := by rw [List.drop_eq_getElem_cons hlt, hx]
        have Hdr := hide hdr
        have q2 : (k : Int) < (S.length : Int) := by omega
        have Hst := hide (out_step e x (S.drop (k + 1)))
        obtain ⟨bd0, bd1⟩ := downP_bd x
        have hdn := down_any x
        generalize downP x = dx at *
        clear hx hdr hc hbo ht1
        by_cases hneg : e + dx < 0
        · go_wp2_with (go_at_call 153; refine (hdn _).mono ?_; rintro e w' ⟨rfl, hw'⟩; rw [hw']; clear hw' w')
          go_ret
          exact ⟨ret_bool (by rw [unhide Ho, unhide Hg, unhide Hdr, unhide Hst, if_pos (by omega)]), unhide HB⟩
        · go_wp2_with (go_at_call 153; refine (hdn _).mono ?_; rintro e w' ⟨rfl, hw'⟩; rw [hw']; clear hw' w')
          go_round
          case rel => exact ⟨k + 1, e + dx, by omega, by go_num, by go_num, by omega, by omega, by rw [unhide Hg, unhide Hdr, unhide Hst, if_neg (by omega)]⟩
          case measure => simp [intOf]; omega
      · obtain rfl : k = S.length := by omega
        go_wp2_with fail
        go_ret
        exact ⟨ret_bool (by rw [unhide Ho, unhide Hg, List.drop_length]; rfl), unhide HB⟩
def pathOk (p : List UInt8) : Bool := decide ((sp p).length ≤ 5) && (sp p).all P.isName
set_option maxHeartbeats 1000000 in
theorem isPath_any (p : List UInt8) (w : World) (hg : GlobOk w) (hl : p.length ≤ 1100000) :
    Calls Tryz.prog 145 #[.string (bs p)] w fun e w' => e = .returned (.bool (pathOk p)) ∧ Below w.heap.size w w' := by
  have hsl := sp_len p
  have hpos : 1 ≤ (sp p).length := List.length_pos_iff.2 (sp_ne p)
  go_enter Tryz.func145, Tryz.ntmps145
  go_wp2_with fail
  refine (splitN_law p w hg hl).mono ?_
  rintro e w1 ⟨L, cap, rfl, ht1, hb1, hlen, hL⟩
  have HL := hide hL
  have hw := within_any (L.length : Int) 1 5 w1 (by decide)
  have hwd : P.within (L.length : Int) 1 5 = decide ((sp p).length ≤ 5) := by
    unfold P.within; rw [hlen]; congr 1; apply propext; omega
  rw [hwd] at hw
  clear hL hwd
  have HB := hide hb1
  clear hb1
  generalize hH : w.heap.size = H at ht1 ⊢
  by_cases h5 : (sp p).length ≤ 5
  · have hLs := unhide HL h5
    subst hLs
    have Hp := hide (show pathOk p = (sp p).all P.isName by unfold pathOk; rw [decide_eq_true h5, Bool.true_and])
    rw [decide_eq_true h5] at hw
    clear HL hlen hH
    have hpart := sp_part p
    generalize hS : sp p = S at *
    clear hS
    go_wp2_with (go_at_call 86; refine hw.mono ?_; rintro e w' ⟨rfl, hw'⟩; rw [hw']; clear hw' w')
    go_loop [14] (fun i => ∃ k : Nat, k ≤ S.length ∧ i = .int .i64 k ∧ S.all P.isName = (S.drop k).all P.isName) (fun i => S.length - (intOf i).toNat)
    case atStart => exact ⟨0, Nat.zero_le _, rfl, by simp⟩
    case round =>
      obtain ⟨k, hk, rfl, hall⟩ := hrel
      have Hg := hide hall
      clear hall
      by_cases hlt : k < S.length
      · obtain ⟨b, o, hbo, hc⟩ : ∃ b o, some (⟨H, 0, none⟩ : Addr) = some ⟨b, o, none⟩ ∧ ∀ i (h : i < S.length), w1.cell? ⟨b, o + i, none⟩ = some (strVal S[i]) := by
          rcases ht1 with h | h
          · subst h; simp at hlt
          · exact h
        obtain ⟨rfl, rfl⟩ : b = H ∧ o = 0 := by simp at hbo; exact ⟨hbo.1.symm, hbo.2.symm⟩
        have ck := hc k hlt
        obtain ⟨x, hx⟩ : ∃ x, S[k] = x := ⟨_, rfl⟩
        rw [hx, Nat.zero_add] at ck
        unfold strVal at ck
        have Hdr := hide (show S.drop k = x :: S.drop (k + 1) by rw [List.drop_eq_getElem_cons hlt, hx])
        have q2 : (k : Int) < (S.length : Int) := by omega
        have hnm := isName_any (bs x) w1 (by rw [bs_size]; have := hpart x (by rw [← hx]; exact List.getElem_mem hlt); unfold maxLen; omega)
        rw [bs_data] at hnm
        generalize hnx : P.isName x = nx at *
        have Hnx := hide hnx
        clear hx hc hbo ht1 hnx hw
        cases nx with
        | false =>
          go_wp2_with (go_at_call 170; refine hnm.mono ?_; rintro e w' ⟨rfl, hw'⟩; rw [hw']; clear hw' w')
          go_ret
          exact ⟨ret_bool (by rw [unhide Hp, unhide Hg, unhide Hdr, List.all_cons, unhide Hnx]; rfl), unhide HB⟩
        | true =>
          go_wp2_with (go_at_call 170; refine hnm.mono ?_; rintro e w' ⟨rfl, hw'⟩; rw [hw']; clear hw' w')
          go_round
          case rel => exact ⟨k + 1, by omega, by go_num, by rw [unhide Hg, unhide Hdr, List.all_cons, unhide Hnx, Bool.true_and]⟩
          case measure => simp [intOf]; omega
      · obtain rfl : k = S.length := by omega
        go_wp2_with fail
        go_ret
        exact ⟨ret_bool (by rw [unhide Hp, unhide Hg, List.drop_length]; rfl), unhide HB⟩
  · have Hp := hide (show pathOk p = false by unfold pathOk; rw [decide_eq_false h5, Bool.false_and])
    rw [decide_eq_false h5] at hw
    clear HL hlen hH h5 hpos hsl
    go_wp2_with (go_at_call 86; refine hw.mono ?_; rintro e w' ⟨rfl, hw'⟩; rw [hw']; clear hw' w')
    go_ret
    exact ⟨ret_bool (unhide Hp).symm, unhide HB⟩
def dataOk (k : Int) (d : List UInt8) : Bool := if k = 0 then d.isEmpty else if k = 1 ∨ k = 2 then decide ((d.length : Int) ≤ 60) else if k = 3 then P.isTarget d else false
set_option maxHeartbeats 1000000 in
theorem isData_any (k : Int) (d : List UInt8) (w : World) (hl : d.length ≤ maxLen) :
    Calls Tryz.prog 146 #[.int .i64 k, .string (bs d)] w fun e w' => e = .returned (.bool (dataOk k d)) ∧ w' = w := by
  have hsz := bs_size d
  by_cases h0 : k = 0
  · subst h0
    have s2 : (bs d).toList.isEmpty = d.isEmpty := by rw [ByteArray.toList_eq, bs_data]
    have hd : dataOk 0 d = d.isEmpty := rfl
    rw [hd]
    go_enter Tryz.func146, Tryz.ntmps146
    go_wp2
    go_ret
    exact ⟨rfl, rfl⟩
  · have b0 : (k == 0) = false := by simpa using h0
    by_cases h12 : k = 1 ∨ k = 2
    · have hd : dataOk k d = P.within (d.length : Int) 0 60 := by
        unfold dataOk P.within; rw [if_neg h0, if_pos h12]; congr 1; apply propext; omega
      rw [hd]
      have hw := within_any (d.length : Int) 0 60 w (by decide)
      generalize P.within (d.length : Int) 0 60 = B at *
      clear hd h0
      rcases h12 with rfl | rfl
      · go_enter Tryz.func146, Tryz.ntmps146
        go_wp2_with (go_at_call 86; refine hw.mono ?_; rintro e w' ⟨rfl, hw'⟩; rw [hw']; clear hw' w')
        go_ret
        exact ⟨rfl, rfl⟩
      · go_enter Tryz.func146, Tryz.ntmps146
        go_wp2_with (go_at_call 86; refine hw.mono ?_; rintro e w' ⟨rfl, hw'⟩; rw [hw']; clear hw' w')
        go_ret
        exact ⟨rfl, rfl⟩
    · have b1 : (k == 1) = false := by simp; exact fun h => h12 (.inl h)
      have b2 : (k == 2) = false := by simp; exact fun h => h12 (.inr h)
      by_cases h3 : k = 3
      · subst h3
        have hd : dataOk 3 d = P.isTarget d := rfl
        rw [hd]
        have ht := isTarget_any (bs d) w (by rw [hsz]; exact hl)
        rw [bs_data] at ht
        generalize P.isTarget d = B at *
        clear hd h0 h12
        go_enter Tryz.func146, Tryz.ntmps146
        go_wp2_with (go_at_call 172; refine ht.mono ?_; rintro e w' ⟨rfl, hw'⟩; rw [hw']; clear hw' w')
        go_ret
        exact ⟨rfl, rfl⟩
      · have b3 : (k == 3) = false := by simpa using h3
        have hd : dataOk k d = false := by unfold dataOk; rw [if_neg h0, if_neg h12, if_neg h3]
        rw [hd]
        clear hd h0 h12 h3
        go_enter Tryz.func146, Tryz.ntmps146
        go_wp2
        go_ret
        exact ⟨rfl, rfl⟩
def entV (x : En) : Value := .agg #[.string x.path, .int .i64 x.kind, .string x.data]
def entOk (x : En) : Bool := pathOk x.path.data.toList && dataOk x.kind x.data.data.toList
set_option maxHeartbeats 1000000 in
theorem isEntry_any (x : En) (w : World) (hg : GlobOk w) (hl : x.path.size ≤ 1100000) (hd : x.data.size ≤ maxLen) :
    Calls Tryz.prog 98 #[entV x] w fun e w' => e = .returned (.bool (entOk x)) ∧ Below w.heap.size w w' := by
  obtain ⟨pa, kd, dt⟩ := x
  unfold entV entOk
  simp only at hl hd ⊢
  have ep := bs_of pa
  have ed := bs_of dt
  have hp := fun w' hg' => isPath_any pa.data.toList w' hg' hl
  have hk := fun w' => isData_any kd dt.data.toList w' hd
  rw [ep] at hp
  rw [ed] at hk
  generalize pathOk pa.data.toList = A at *
  generalize dataOk kd dt.data.toList = B at *
  clear ep ed
  have hg1 : GlobOk (w.alloc (.cells #[.string pa, .int .i64 kd, .string dt] 32)) := hg.below ((Below.refl _ _).alloc (Nat.le_refl _) _) (Nat.le_refl _)
  cases A with
  | false =>
    go_enter Tryz.func98, Tryz.ntmps98
    go_wp2_with fail
    refine (hp _ hg1).mono ?_
    rintro e w1 ⟨rfl, hb1⟩
    have hbb : Below w.heap.size w w1 := ((Below.refl _ _).alloc (Nat.le_refl _) _).trans (hb1.mono (by simp))
    clear hb1
    go_wp2_with fail
    go_ret
    exact ⟨rfl, hbb⟩
  | true =>
    go_enter Tryz.func98, Tryz.ntmps98
    go_wp2_with fail
    refine (hp _ hg1).mono ?_
    rintro e w1 ⟨rfl, hb1⟩
    have hbb : Below w.heap.size w w1 := ((Below.refl _ _).alloc (Nat.le_refl _) _).trans (hb1.mono (by simp))
    have hcc := (bcell hb1).1 w.heap.size
    have c0 := (hcc 0 (by simp)).trans (by simp : _ = some (.string pa))
    have c1 := (hcc 1 (by simp)).trans (by simp : _ = some (.int .i64 kd))
    have c2 := (hcc 2 (by simp)).trans (by simp : _ = some (.string dt))
    clear hb1 hcc
    go_wp2_with (go_at_call 146; refine (hk _).mono ?_; rintro e w' ⟨rfl, hw'⟩; rw [hw']; clear hw' w')
    go_ret
    exact ⟨rfl, hbb⟩
end Go.Proofs.YtjmacegibchplaaGreatDoor

/-
  Maps by text that hold values as they are: made, looked up, stored.
-/
namespace Go.Proofs.YtjmacegibchplaaGreatDoor
open Go.RowKit Go.Maps Go.WideMaps
set_option linter.unusedVariables false
def rawElem (v : Value) : Option (DataW Value × List MemPlace) := some (.held v, [])
theorem strKeyed : Keyed Tryz.prog 9 := string_keyed Tryz.underlying9
theorem key_bs (k : List UInt8) (h : k.length ≤ maxLen) : keyOf Tryz.prog 9 (.string (bs k)) = some (.string k) := by
  rw [keyOf_string_mk Tryz.underlying9 (by rw [bs_size]; exact h), bs_data]
def MapIs (w : World) (b n : Nat) (f : List UInt8 → Option Value) : Prop :=
  ∃ D, w.ownsMap Tryz.prog 9 rawElem b n D ∧ ∀ k, Maps.has D (.string k) = (f k).isSome ∧ ∀ v, f k = some v → ∀ z, D.atKey (.string k) z = .held v
theorem MapIs.lt {w : World} {b n : Nat} {f : List UInt8 → Option Value} (h : MapIs w b n f) : b < w.heap.size := by
  obtain ⟨D, h, _⟩ := h
  exact h.lt
theorem MapIs.made (w : World) : MapIs (w.alloc (.map #[] 0)) w.heap.size 0 (fun _ => none) :=
  ⟨_, World.ownsMap_made w _ _ _, fun k => ⟨rfl, fun v hv => by simp at hv⟩⟩
theorem MapIs.kept {w w' : World} {b n : Nat} {f : List UInt8 → Option Value} {row : Option Nat} (h : MapIs w b n f) (hg : w.grownBy w' row) (hne : some b ≠ row) : MapIs w' b n f := by
  obtain ⟨D, h, hf⟩ := h
  exact ⟨D, h.kept hg hne, hf⟩
theorem MapIs.same {w w' : World} {b n : Nat} {f : List UInt8 → Option Value} (h : MapIs w b n f) (hg : w'.heap[b]? = w.heap[b]?) : MapIs w' b n f := by
  obtain ⟨D, ⟨es, clock, hb, F, hs, hD⟩, hf⟩ := h
  exact ⟨D, ⟨es, clock, hg.trans hb, F, hs, hD⟩, hf⟩
theorem MapIs.alloc {w : World} {b n : Nat} {f : List UInt8 → Option Value} (h : MapIs w b n f) (o : Obj) : MapIs (w.alloc o) b n f := h.kept (World.grownBy_alloc w o none) (by simp)
theorem MapIs.drew {w : World} {b n : Nat} {f : List UInt8 → Option Value} (h : MapIs w b n f) : MapIs w.drew b n f := h
theorem MapIs.at {w : World} {b n : Nat} {f : List UInt8 → Option Value} {D : DataW Value} (hf : ∀ k, Maps.has D (.string k) = (f k).isSome ∧ ∀ v, f k = some v → ∀ z, D.atKey (.string k) z = .held v) (k : List UInt8) (z : Value) : D.atKey (.string k) (.held z) = .held ((f k).getD z) := by
  cases hk : f k with
  | none =>
    have h1 := (hf k).1
    rw [hk] at h1
    rw [atKey_of_not_has h1]; rfl
  | some v => rw [(hf k).2 v hk]; rfl
theorem MapIs.look {w : World} {b n : Nat} {f : List UInt8 → Option Value} (h : MapIs w b n f) (t e : TypeId) (ht : Tryz.prog.underlying t = some (.map 9 e)) (z : Value) (hz : (zeroValue e).run Tryz.prog w = .ok z w) (k : List UInt8) (hk : k.length ≤ maxLen) :
    (Instr.lookup t (.map (some b)) (.string (bs k)) false).run Tryz.prog w = .ok ((f k).getD z) w := by
  obtain ⟨D, h, hf⟩ := h
  obtain ⟨v, ps, hrun, hv⟩ := h.lookup strKeyed ht hz (zd := .held z) (zp := []) rfl (key_bs k hk)
  rw [MapIs.at (w := w) (b := b) (n := n) hf] at hv
  simp only [rawElem, Option.some.injEq, Prod.mk.injEq, DataW.held.injEq] at hv
  rw [hrun, hv.1]
theorem MapIs.look_ok {w : World} {b n : Nat} {f : List UInt8 → Option Value} (h : MapIs w b n f) (t e : TypeId) (ht : Tryz.prog.underlying t = some (.map 9 e)) (z : Value) (hz : (zeroValue e).run Tryz.prog w = .ok z w) (k : List UInt8) (hk : k.length ≤ maxLen) :
    (Instr.lookup t (.map (some b)) (.string (bs k)) true).run Tryz.prog w = .ok (.tuple #[(f k).getD z, .bool (f k).isSome]) w := by
  obtain ⟨D, h, hf⟩ := h
  obtain ⟨v, ps, hrun, hv⟩ := h.look_ok strKeyed ht hz (zd := .held z) (zp := []) rfl (key_bs k hk)
  rw [MapIs.at (w := w) (b := b) (n := n) hf] at hv
  simp only [rawElem, Option.some.injEq, Prod.mk.injEq, DataW.held.injEq] at hv
  rw [hrun, hv.1, (hf k).1]
def updF (f : List UInt8 → Option Value) (k : List UInt8) (v : Value) : List UInt8 → Option Value := fun x => if x = k then some v else f x
theorem MapIs.store {w : World} {b n : Nat} {f : List UInt8 → Option Value} (h : MapIs w b n f) (t e : TypeId) (ht : Tryz.prog.underlying t = some (.map 9 e)) (hn : n < maxLen) (k : List UInt8) (hk : k.length ≤ maxLen) (v : Value) :
    ∃ w', (Instr.mapUpdate t (.map (some b)) (.string (bs k)) v).run Tryz.prog w = .ok () w' ∧ MapIs w' b (n + 1) (updF f k v) ∧ w.grownBy w' (some b) := by
  obtain ⟨D, h, hf⟩ := h
  have hM := h.isMap
  obtain ⟨w', hrun, h', hg⟩ := h.update strKeyed ht hn (d := .held v) (ps := []) (key_bs k hk) rfl
  refine ⟨w', hrun, ⟨_, h', fun x => ?_⟩, hg⟩
  unfold updF
  by_cases hx : x = k
  · subst hx
    rw [if_pos rfl]
    exact ⟨has_put_same (k := .string x) hM trivial _, fun u hu z => by simp at hu; subst hu; exact atKey_put_same (k := .string x) hM trivial _ _⟩
  · rw [if_neg hx]
    have hne : (Lit.string x) ≠ (Lit.string k) := by simpa using hx
    exact ⟨by rw [has_put_other hne]; exact (hf x).1, fun u hu z => by rw [atKey_put_other hne]; exact (hf x).2 u hu z⟩
end Go.Proofs.YtjmacegibchplaaGreatDoor
