import Derived.Test.YtjmacegibchplaaGreatDoorWalkP
import Derived.Test.YtjmacegibchplaaGreatDoorPathP
import Derived.Test.YtjmacegibchplaaGreatDoorItemO
import Derived.Maps.OwnSet
import Derived.Test.YtjmacegibchplaaGreatDoorTreeD
import Derived.Maps.OwnOps
/-
  The program's tests of an entry, further: LeadsOut, isPath, isData, isEntry; byPath.
-/
namespace Go.Proofs.YtjmacegibchplaaGreatDoor
open Go.RowKit
set_option linter.unusedVariables false

theorem out_step (e : Int) (x : List UInt8) (r : List (List UInt8)) : outGo e (x :: r) = if e + downP x < 0 then true else outGo (e + downP x) r := by
  by_cases h1 : x = [46, 46]
  · subst h1
    rw [show downP [46, 46] = -1 from rfl]
    simp only [outGo, if_pos]; rfl
  · by_cases h2 : x = [] ∨ x = [46]
    · have hd : downP x = 0 := by unfold downP; rw [if_pos h2]
      rw [hd]; simp only [outGo]; rw [if_neg h1, if_pos h2, Int.add_zero]
    · have hd : downP x = 1 := by unfold downP; rw [if_neg h2, if_neg h1]
      rw [hd]; simp only [outGo]; rw [if_neg h1, if_neg h2]
theorem downP_bd (x : List UInt8) : -1 ≤ downP x ∧ downP x ≤ 1 := by
  unfold downP
  split
  · decide
  · split <;> decide
set_option maxHeartbeats 1000000 in
theorem depth_any (p : List UInt8) (w : World) (hl : p.length ≤ 1100000) :
    Calls Tryz.prog 92 #[.string (bs p)] w fun e w' => e = .returned (.int .i64 ((sp p).length : Int)) ∧ w' = w := by
  have hcount := fun w' => Tryz.strings_Count_one (bs p) 47 w'
  have hpos : 1 ≤ (sp p).length := List.length_pos_iff.2 (sp_ne p)
  have hsl := sp_len p
  rw [bs_data, show Lib.countByte p 47 = (sp p).length - 1 by rw [sp_count]; rfl] at hcount
  have hn : (((sp p).length - 1 : Nat) : Int) = ((sp p).length : Int) - 1 := by omega
  simp only [hn] at hcount
  generalize (sp p).length = n at *
  go_enter Tryz.func92, Tryz.ntmps92
  go_wp2_with (go_at_call 141; refine (hcount _).mono ?_; rintro e w' ⟨rfl, hw'⟩; rw [hw']; clear hw' w')
  go_ret
  exact ⟨ret_int (by omega), rfl⟩
set_option maxHeartbeats 1000000 in
theorem leads_any (p t : List UInt8) (w : World) (hg : GlobOk w) (hp : p.length ≤ 1100000) (hd1 : (sp p).length ≤ 100) (hl : t.length ≤ 1100000) :
    Calls Tryz.prog 102 #[.string (bs p), .string (bs t)] w fun e w' => e = .returned (.bool (outP (((sp p).length : Int) - 1) t)) ∧ Below w.heap.size w w' := by
  have hpre := Tryz.strings_HasPrefix (bs t) ⟨#[47]⟩ w
  have hdep := fun w => depth_any p w hp
  have hpos : 1 ≤ (sp p).length := List.length_pos_iff.2 (sp_ne p)
  rw [bs_data, show (⟨#[47]⟩ : ByteArray).data.toList = [47] from rfl, prefix_slash] at hpre
  by_cases h47 : t.head? = some 47
  · have ho : outP (((sp p).length : Int) - 1) t = true := by unfold outP; rw [if_pos h47]
    rw [decide_eq_true h47] at hpre
    rw [ho]
    go_enter Tryz.func102, Tryz.ntmps102
    go_wp2_with (go_at_call 151; refine hpre.mono ?_; rintro e w' ⟨rfl, hw'⟩; rw [hw']; clear hw' w')
    go_ret
    exact ⟨rfl, Below.refl _ _⟩
  · have ho : outP (((sp p).length : Int) - 1) t = outGo (((sp p).length : Int) - 1) (sp t) := by unfold outP; rw [if_neg h47]
    rw [decide_eq_false h47] at hpre
    have Ho := hide ho
    clear ho h47
    generalize hpn : (sp p).length = np at *
    clear hpn
    go_enter Tryz.func102, Tryz.ntmps102
    go_wp2_with (first
      | (go_at_call 151; refine hpre.mono ?_; rintro e w' ⟨rfl, hw'⟩; rw [hw']; clear hw' w')
      | (go_at_call 92; refine (hdep _).mono ?_; rintro e w' ⟨rfl, hw'⟩; rw [hw']; clear hw' w'))
    refine (split_law t w hg hl).mono ?_
    rintro e w1 ⟨rfl, ht1, hb1⟩
    have hsl := sp_len t
    clear hpre hdep
    generalize hS : sp t = S at *
    clear hS
    have hsl2 : S.length ≤ 1200000 := by omega
    clear hsl
    have HB := hide hb1
    clear hb1
    generalize hH : w.heap.size = H at ht1 ⊢
    clear hH
    go_wp2_with fail
    go_loop [5, 16] (fun dv i => ∃ (k : Nat) (e : Int), k ≤ S.length ∧ i = .int .i64 k ∧ dv = .int .i64 e ∧ 0 ≤ e ∧ e ≤ 100 + k ∧ outGo ((np : Int) - 1) S = outGo e (S.drop k)) (fun _ i => S.length - (intOf i).toNat)
    case atStart => exact ⟨0, (np : Int) - 1, Nat.zero_le _, rfl, by go_num, by omega, by omega, by simp⟩
    case round =>
      obtain ⟨k, e, hk, rfl, rfl, he0, he1, hgo⟩ := hrel
      have Hg := hide hgo
      clear hgo
      by_cases hlt : k < S.length
      · obtain ⟨b, o, hbo, hc⟩ : ∃ b o, some (⟨H, 0, none⟩ : Addr) = some ⟨b, o, none⟩ ∧ ∀ i (h : i < S.length), w1.cell? ⟨b, o + i, none⟩ = some (strVal S[i]) := by
          rcases ht1 with h | h
          · subst h; simp at hlt
          · exact h
        obtain ⟨rfl, rfl⟩ : b = H ∧ o = 0 := by simp at hbo; exact ⟨hbo.1.symm, hbo.2.symm⟩
        have ck := hc k hlt
        obtain ⟨x, hx⟩ : ∃ x, S[k] = x := ⟨_, rfl⟩
        rw [hx, Nat.zero_add] at ck
        unfold strVal at ck
        have hdr : S.drop k = x :: S.drop (k + 1) := by rw [List.drop_eq_getElem_cons hlt, hx]
        have Hdr := hide hdr
        have q2 : (k : Int) < (S.length : Int) := by omega
        have Hst := hide (out_step e x (S.drop (k + 1)))
        obtain ⟨bd0, bd1⟩ := downP_bd x
        have hdn := down_any x
        generalize downP x = dx at *
        clear hx hdr hc hbo ht1
        by_cases hneg : e + dx < 0
        · go_wp2_with (go_at_call 153; refine (hdn _).mono ?_; rintro e w' ⟨rfl, hw'⟩; rw [hw']; clear hw' w')
          go_ret
          exact ⟨ret_bool (by rw [unhide Ho, unhide Hg, unhide Hdr, unhide Hst, if_pos (by omega)]), unhide HB⟩
        · go_wp2_with (go_at_call 153; refine (hdn _).mono ?_; rintro e w' ⟨rfl, hw'⟩; rw [hw']; clear hw' w')
          go_round
          case rel => exact ⟨k + 1, e + dx, by omega, by go_num, by go_num, by omega, by omega, by rw [unhide Hg, unhide Hdr, unhide Hst, if_neg (by omega)]⟩
          case measure => simp [intOf]; omega
      · obtain rfl : k = S.length := by omega
        go_wp2_with fail
        go_ret
        exact ⟨ret_bool (by rw [unhide Ho, unhide Hg, List.drop_length]; rfl), unhide HB⟩
def pathOk (p : List UInt8) : Bool := decide ((sp p).length ≤ 5) && (sp p).all P.isName
set_option maxHeartbeats 1000000 in
theorem isPath_any (p : List UInt8) (w : World) (hg : GlobOk w) (hl : p.length ≤ 1100000) :
    Calls Tryz.prog 145 #[.string (bs p)] w fun e w' => e = .returned (.bool (pathOk p)) ∧ Below w.heap.size w w' := by
  have hsl := sp_len p
  have hpos : 1 ≤ (sp p).length := List.length_pos_iff.2 (sp_ne p)
  go_enter Tryz.func145, Tryz.ntmps145
  go_wp2_with fail
  refine (splitN_law p w hg hl).mono ?_
  rintro e w1 ⟨L, cap, rfl, ht1, hb1, hlen, hL⟩
  have HL := hide hL
  have hw := within_any (L.length : Int) 1 5 w1 (by decide)
  have hwd : P.within (L.length : Int) 1 5 = decide ((sp p).length ≤ 5) := by
    unfold P.within; rw [hlen]; congr 1; apply propext; omega
  rw [hwd] at hw
  clear hL hwd
  have HB := hide hb1
  clear hb1
  generalize hH : w.heap.size = H at ht1 ⊢
  by_cases h5 : (sp p).length ≤ 5
  · have hLs := unhide HL h5
    subst hLs
    have Hp := hide (show pathOk p = (sp p).all P.isName by unfold pathOk; rw [decide_eq_true h5, Bool.true_and])
    rw [decide_eq_true h5] at hw
    clear HL hlen hH
    have hpart := sp_part p
    generalize hS : sp p = S at *
    clear hS
    go_wp2_with (go_at_call 86; refine hw.mono ?_; rintro e w' ⟨rfl, hw'⟩; rw [hw']; clear hw' w')
    go_loop [14] (fun i => ∃ k : Nat, k ≤ S.length ∧ i = .int .i64 k ∧ S.all P.isName = (S.drop k).all P.isName) (fun i => S.length - (intOf i).toNat)
    case atStart => exact ⟨0, Nat.zero_le _, rfl, by simp⟩
    case round =>
      obtain ⟨k, hk, rfl, hall⟩ := hrel
      have Hg := hide hall
      clear hall
      by_cases hlt : k < S.length
      · obtain ⟨b, o, hbo, hc⟩ : ∃ b o, some (⟨H, 0, none⟩ : Addr) = some ⟨b, o, none⟩ ∧ ∀ i (h : i < S.length), w1.cell? ⟨b, o + i, none⟩ = some (strVal S[i]) := by
          rcases ht1 with h | h
          · subst h; simp at hlt
          · exact h
        obtain ⟨rfl, rfl⟩ : b = H ∧ o = 0 := by simp at hbo; exact ⟨hbo.1.symm, hbo.2.symm⟩
        have ck := hc k hlt
        obtain ⟨x, hx⟩ : ∃ x, S[k] = x := ⟨_, rfl⟩
        rw [hx, Nat.zero_add] at ck
        unfold strVal at ck
        have Hdr := hide (show S.drop k = x :: S.drop (k + 1) by rw [List.drop_eq_getElem_cons hlt, hx])
        have q2 : (k : Int) < (S.length : Int) := by omega
        have hnm := isName_any (bs x) w1 (by rw [bs_size]; have := hpart x (by rw [← hx]; exact List.getElem_mem hlt); unfold maxLen; omega)
        rw [bs_data] at hnm
        generalize hnx : P.isName x = nx at *
        have Hnx := hide hnx
        clear hx hc hbo ht1 hnx hw
        cases nx with
        | false =>
          go_wp2_with (go_at_call 170; refine hnm.mono ?_; rintro e w' ⟨rfl, hw'⟩; rw [hw']; clear hw' w')
          go_ret
          exact ⟨ret_bool (by rw [unhide Hp, unhide Hg, unhide Hdr, List.all_cons, unhide Hnx]; rfl), unhide HB⟩
        | true =>
          go_wp2_with (go_at_call 170; refine hnm.mono ?_; rintro e w' ⟨rfl, hw'⟩; rw [hw']; clear hw' w')
          go_round
          case rel => exact ⟨k + 1, by omega, by go_num, by rw [unhide Hg, unhide Hdr, List.all_cons, unhide Hnx, Bool.true_and]⟩
          case measure => simp [intOf]; omega
      · obtain rfl : k = S.length := by omega
        go_wp2_with fail
        go_ret
        exact ⟨ret_bool (by rw [unhide Hp, unhide Hg, List.drop_length]; rfl), unhide HB⟩
  · have Hp := hide (show pathOk p = false by unfold pathOk; rw [decide_eq_false h5, Bool.false_and])
    rw [decide_eq_false h5] at hw
    clear HL hlen hH h5 hpos hsl
    go_wp2_with (go_at_call 86; refine hw.mono ?_; rintro e w' ⟨rfl, hw'⟩; rw [hw']; clear hw' w')
    go_ret
    exact ⟨ret_bool (unhide Hp).symm, unhide HB⟩
def dataOk (k : Int) (d : List UInt8) : Bool := if k = 0 then d.isEmpty else if k = 1 ∨ k = 2 then decide ((d.length : Int) ≤ 60) else if k = 3 then P.isTarget d else false
set_option maxHeartbeats 1000000 in
theorem isData_any (k : Int) (d : List UInt8) (w : World) (hl : d.length ≤ maxLen) :
    Calls Tryz.prog 146 #[.int .i64 k, .string (bs d)] w fun e w' => e = .returned (.bool (dataOk k d)) ∧ w' = w := by
  have hsz := bs_size d
  by_cases h0 : k = 0
  · subst h0
    have s2 : (bs d).toList.isEmpty = d.isEmpty := by rw [ByteArray.toList_eq, bs_data]
    have hd : dataOk 0 d = d.isEmpty := rfl
    rw [hd]
    go_enter Tryz.func146, Tryz.ntmps146
    go_wp2
    go_ret
    exact ⟨rfl, rfl⟩
  · have b0 : (k == 0) = false := by simpa using h0
    by_cases h12 : k = 1 ∨ k = 2
    · have hd : dataOk k d = P.within (d.length : Int) 0 60 := by
        unfold dataOk P.within; rw [if_neg h0, if_pos h12]; congr 1; apply propext; omega
      rw [hd]
      have hw := within_any (d.length : Int) 0 60 w (by decide)
      generalize P.within (d.length : Int) 0 60 = B at *
      clear hd h0
      rcases h12 with rfl | rfl
      · go_enter Tryz.func146, Tryz.ntmps146
        go_wp2_with (go_at_call 86; refine hw.mono ?_; rintro e w' ⟨rfl, hw'⟩; rw [hw']; clear hw' w')
        go_ret
        exact ⟨rfl, rfl⟩
      · go_enter Tryz.func146, Tryz.ntmps146
        go_wp2_with (go_at_call 86; refine hw.mono ?_; rintro e w' ⟨rfl, hw'⟩; rw [hw']; clear hw' w')
        go_ret
        exact ⟨rfl, rfl⟩
    · have b1 : (k == 1) = false := by simp; exact fun h => h12 (.inl h)
      have b2 : (k == 2) = false := by simp; exact fun h => h12 (.inr h)
      by_cases h3 : k = 3
      · subst h3
        have hd : dataOk 3 d = P.isTarget d := rfl
        rw [hd]
        have ht := isTarget_any (bs d) w (by rw [hsz]; exact hl)
        rw [bs_data] at ht
        generalize P.isTarget d = B at *
        clear hd h0 h12
        go_enter Tryz.func146, Tryz.ntmps146
        go_wp2_with (go_at_call 172; refine ht.mono ?_; rintro e w' ⟨rfl, hw'⟩; rw [hw']; clear hw' w')
        go_ret
        exact ⟨rfl, rfl⟩
      · have b3 : (k == 3) = false := by simpa using h3
        have hd : dataOk k d = false := by unfold dataOk; rw [if_neg h0, if_neg h12, if_neg h3]
        rw [hd]
        clear hd h0 h12 h3
        go_enter Tryz.func146, Tryz.ntmps146
        go_wp2
        go_ret
        exact ⟨rfl, rfl⟩
def entV (x : En) : Value := .agg #[.string x.path, .int .i64 x.kind, .string x.data]
def entOk (x : En) : Bool := pathOk x.path.data.toList && dataOk x.kind x.data.data.toList
set_option maxHeartbeats 1000000 in
theorem isEntry_any (x : En) (w : World) (hg : GlobOk w) (hl : x.path.size ≤ 1100000) (hd : x.data.size ≤ maxLen) :
    Calls Tryz.prog 98 #[entV x] w fun e w' => e = .returned (.bool (entOk x)) ∧ Below w.heap.size w w' := by
  obtain ⟨pa, kd, dt⟩ := x
  unfold entV entOk
  simp only at hl hd ⊢
  have ep := bs_of pa
  have ed := bs_of dt
  have hp := fun w' hg' => isPath_any pa.data.toList w' hg' hl
  have hk := fun w' => isData_any kd dt.data.toList w' hd
  rw [ep] at hp
  rw [ed] at hk
  generalize pathOk pa.data.toList = A at *
  generalize dataOk kd dt.data.toList = B at *
  clear ep ed
  have hg1 : GlobOk (w.alloc (.cells #[.string pa, .int .i64 kd, .string dt] 32)) := hg.below ((Below.refl _ _).alloc (Nat.le_refl _) _) (Nat.le_refl _)
  cases A with
  | false =>
    go_enter Tryz.func98, Tryz.ntmps98
    go_wp2_with fail
    refine (hp _ hg1).mono ?_
    rintro e w1 ⟨rfl, hb1⟩
    have hbb : Below w.heap.size w w1 := ((Below.refl _ _).alloc (Nat.le_refl _) _).trans (hb1.mono (by simp))
    clear hb1
    go_wp2_with fail
    go_ret
    exact ⟨rfl, hbb⟩
  | true =>
    go_enter Tryz.func98, Tryz.ntmps98
    go_wp2_with fail
    refine (hp _ hg1).mono ?_
    rintro e w1 ⟨rfl, hb1⟩
    have hbb : Below w.heap.size w w1 := ((Below.refl _ _).alloc (Nat.le_refl _) _).trans (hb1.mono (by simp))
    have hcc := (bcell hb1).1 w.heap.size
    have c0 := (hcc 0 (by simp)).trans (by simp : _ = some (.string pa))
    have c1 := (hcc 1 (by simp)).trans (by simp : _ = some (.int .i64 kd))
    have c2 := (hcc 2 (by simp)).trans (by simp : _ = some (.string dt))
    clear hb1 hcc
    go_wp2_with (go_at_call 146; refine (hk _).mono ?_; rintro e w' ⟨rfl, hw'⟩; rw [hw']; clear hw' w')
    go_ret
    exact ⟨rfl, hbb⟩
end Go.Proofs.YtjmacegibchplaaGreatDoor

/-
  Maps by text that hold values as they are: made, looked up, stored.
-/
namespace Go.Proofs.YtjmacegibchplaaGreatDoor
open Go.RowKit Go.Maps Go.WideMaps
set_option linter.unusedVariables false

def rawElem (v : Value) : Option (DataW Value × List MemPlace) := some (.held v, [])
theorem strKeyed : Keyed Tryz.prog 9 := string_keyed Tryz.underlying9
theorem key_bs (k : List UInt8) (h : k.length ≤ maxLen) : keyOf Tryz.prog 9 (.string (bs k)) = some (.string k) := by
  rw [keyOf_string_mk Tryz.underlying9 (by rw [bs_size]; exact h), bs_data]
/-- block b is a map of at most n texts that holds f -/
def MapIs (w : World) (b n : Nat) (f : List UInt8 → Option Value) : Prop :=
  ∃ D, w.ownsMap Tryz.prog 9 rawElem b n D ∧ ∀ k, Maps.has D (.string k) = (f k).isSome ∧ ∀ v, f k = some v → ∀ z, D.atKey (.string k) z = .held v
theorem MapIs.lt {w : World} {b n : Nat} {f : List UInt8 → Option Value} (h : MapIs w b n f) : b < w.heap.size := by
  obtain ⟨D, h, _⟩ := h
  exact h.lt
theorem MapIs.made (w : World) : MapIs (w.alloc (.map #[] 0)) w.heap.size 0 (fun _ => none) :=
  ⟨_, World.ownsMap_made w _ _ _, fun k => ⟨rfl, fun v hv => by simp at hv⟩⟩
theorem MapIs.kept {w w' : World} {b n : Nat} {f : List UInt8 → Option Value} {row : Option Nat} (h : MapIs w b n f) (hg : w.grownBy w' row) (hne : some b ≠ row) : MapIs w' b n f := by
  obtain ⟨D, h, hf⟩ := h
  exact ⟨D, h.kept hg hne, hf⟩
theorem MapIs.same {w w' : World} {b n : Nat} {f : List UInt8 → Option Value} (h : MapIs w b n f) (hg : w'.heap[b]? = w.heap[b]?) : MapIs w' b n f := by
  obtain ⟨D, ⟨es, clock, hb, F, hs, hD⟩, hf⟩ := h
  exact ⟨D, ⟨es, clock, hg.trans hb, F, hs, hD⟩, hf⟩
theorem MapIs.alloc {w : World} {b n : Nat} {f : List UInt8 → Option Value} (h : MapIs w b n f) (o : Obj) : MapIs (w.alloc o) b n f := h.kept (World.grownBy_alloc w o none) (by simp)
theorem MapIs.drew {w : World} {b n : Nat} {f : List UInt8 → Option Value} (h : MapIs w b n f) : MapIs w.drew b n f := h
theorem MapIs.at {w : World} {b n : Nat} {f : List UInt8 → Option Value} {D : DataW Value} (hf : ∀ k, Maps.has D (.string k) = (f k).isSome ∧ ∀ v, f k = some v → ∀ z, D.atKey (.string k) z = .held v) (k : List UInt8) (z : Value) : D.atKey (.string k) (.held z) = .held ((f k).getD z) := by
  cases hk : f k with
  | none =>
    have h1 := (hf k).1
    rw [hk] at h1
    rw [atKey_of_not_has h1]; rfl
  | some v => rw [(hf k).2 v hk]; rfl
theorem MapIs.look {w : World} {b n : Nat} {f : List UInt8 → Option Value} (h : MapIs w b n f) (t e : TypeId) (ht : Tryz.prog.underlying t = some (.map 9 e)) (z : Value) (hz : (zeroValue e).run Tryz.prog w = .ok z w) (k : List UInt8) (hk : k.length ≤ maxLen) :
    (Instr.lookup t (.map (some b)) (.string (bs k)) false).run Tryz.prog w = .ok ((f k).getD z) w := by
  obtain ⟨D, h, hf⟩ := h
  obtain ⟨v, ps, hrun, hv⟩ := h.lookup strKeyed ht hz (zd := .held z) (zp := []) rfl (key_bs k hk)
  rw [MapIs.at (w := w) (b := b) (n := n) hf] at hv
  simp only [rawElem, Option.some.injEq, Prod.mk.injEq, DataW.held.injEq] at hv
  rw [hrun, hv.1]
theorem MapIs.look_ok {w : World} {b n : Nat} {f : List UInt8 → Option Value} (h : MapIs w b n f) (t e : TypeId) (ht : Tryz.prog.underlying t = some (.map 9 e)) (z : Value) (hz : (zeroValue e).run Tryz.prog w = .ok z w) (k : List UInt8) (hk : k.length ≤ maxLen) :
    (Instr.lookup t (.map (some b)) (.string (bs k)) true).run Tryz.prog w = .ok (.tuple #[(f k).getD z, .bool (f k).isSome]) w := by
  obtain ⟨D, h, hf⟩ := h
  obtain ⟨v, ps, hrun, hv⟩ := h.look_ok strKeyed ht hz (zd := .held z) (zp := []) rfl (key_bs k hk)
  rw [MapIs.at (w := w) (b := b) (n := n) hf] at hv
  simp only [rawElem, Option.some.injEq, Prod.mk.injEq, DataW.held.injEq] at hv
  rw [hrun, hv.1, (hf k).1]
def updF (f : List UInt8 → Option Value) (k : List UInt8) (v : Value) : List UInt8 → Option Value := fun x => if x = k then some v else f x
theorem MapIs.store {w : World} {b n : Nat} {f : List UInt8 → Option Value} (h : MapIs w b n f) (t e : TypeId) (ht : Tryz.prog.underlying t = some (.map 9 e)) (hn : n < maxLen) (k : List UInt8) (hk : k.length ≤ maxLen) (v : Value) :
    ∃ w', (Instr.mapUpdate t (.map (some b)) (.string (bs k)) v).run Tryz.prog w = .ok () w' ∧ MapIs w' b (n + 1) (updF f k v) ∧ w.grownBy w' (some b) := by
  obtain ⟨D, h, hf⟩ := h
  have hM := h.isMap
  obtain ⟨w', hrun, h', hg⟩ := h.update strKeyed ht hn (d := .held v) (ps := []) (key_bs k hk) rfl
  refine ⟨w', hrun, ⟨_, h', fun x => ?_⟩, hg⟩
  unfold updF
  by_cases hx : x = k
  · subst hx
    rw [if_pos rfl]
    exact ⟨has_put_same (k := .string x) hM trivial _, fun u hu z => by simp at hu; subst hu; exact atKey_put_same (k := .string x) hM trivial _ _⟩
  · rw [if_neg hx]
    have hne : (Lit.string x) ≠ (Lit.string k) := by simpa using hx
    exact ⟨by rw [has_put_other hne]; exact (hf x).1, fun u hu z => by rw [atKey_put_other hne]; exact (hf x).2 u hu z⟩
end Go.Proofs.YtjmacegibchplaaGreatDoor

/-
  The program's tree.Is: which lists of entries are trees.
-/
namespace Go.Proofs.YtjmacegibchplaaGreatDoor
open Go.RowKit
set_option linter.unusedVariables false

theorem wp_look_ok {w : World} {ops : Array Oper} {rest : List Oper} {o : Oper} {a : Act} {Q : Exit → Act → World → Prop} (hg : o.guard = none) (m x : Operand) (t : TypeId) (hop : o.op = Op.lookup t m x true)
    (e : TypeId) (ht : Tryz.prog.underlying t = some (.map 9 e)) (z : Value) (hz : (zeroValue e).run Tryz.prog w = .ok z w) (b n : Nat) (f : List UInt8 → Option Value) (hm : a.eval m = .map (some b)) (h : MapIs w b n f) (k : List UInt8) (hx : a.eval x = .string (bs k)) (hk : k.length ≤ maxLen)
    (hK : wpList Tryz.prog ops Q rest (a.put o.dst (.tuple #[(f k).getD z, .bool (f k).isSome])) w) : wpList Tryz.prog ops Q (o :: rest) a w := by
  refine wpList_plain hg fun K' hK' => ?_
  have hrun := h.look_ok t e ht z hz k hk
  unfold Oper.wp
  simp [execOp, hop, hm, hx, hrun, Result.andThen]
  exact hK' _ _ hK
theorem wp_look {w : World} {ops : Array Oper} {rest : List Oper} {o : Oper} {a : Act} {Q : Exit → Act → World → Prop} (hg : o.guard = none) (m x : Operand) (t : TypeId) (hop : o.op = Op.lookup t m x false)
    (e : TypeId) (ht : Tryz.prog.underlying t = some (.map 9 e)) (z : Value) (hz : (zeroValue e).run Tryz.prog w = .ok z w) (b n : Nat) (f : List UInt8 → Option Value) (hm : a.eval m = .map (some b)) (h : MapIs w b n f) (k : List UInt8) (hx : a.eval x = .string (bs k)) (hk : k.length ≤ maxLen)
    (hK : wpList Tryz.prog ops Q rest (a.put o.dst ((f k).getD z)) w) : wpList Tryz.prog ops Q (o :: rest) a w := by
  refine wpList_plain hg fun K' hK' => ?_
  have hrun := h.look t e ht z hz k hk
  unfold Oper.wp
  simp [execOp, hop, hm, hx, hrun, Result.andThen]
  exact hK' _ _ hK
theorem wp_store {w : World} {ops : Array Oper} {rest : List Oper} {o : Oper} {a : Act} {Q : Exit → Act → World → Prop} (hg : o.guard = none) (m x v : Operand) (t : TypeId) (hop : o.op = Op.mapUpdate t m x v)
    (e : TypeId) (ht : Tryz.prog.underlying t = some (.map 9 e)) (b n : Nat) (f : List UInt8 → Option Value) (hm : a.eval m = .map (some b)) (h : MapIs w b n f) (hn : n < maxLen) (k : List UInt8) (hx : a.eval x = .string (bs k)) (hk : k.length ≤ maxLen) (val : Value) (hv : a.eval v = val)
    (hK : ∀ w', MapIs w' b (n + 1) (updF f k val) → w.grownBy w' (some b) → wpList Tryz.prog ops Q rest (a.put o.dst undef) w') : wpList Tryz.prog ops Q (o :: rest) a w := by
  refine wpList_plain hg fun K' hK' => ?_
  obtain ⟨w', hrun, r1, r2⟩ := h.store t e ht hn k hk val
  unfold Oper.wp
  simp [execOp, hop, hm, hx, hv, hrun, Result.andThen]
  exact hK' _ _ (hK w' r1 r2)
def kindOf (l : List En) (p : List UInt8) : Option Int := (l.find? (fun e => e.path.data.toList == p)).map (·.kind)
def kindsF (l : List En) : List UInt8 → Option Value := fun p => (kindOf l p).map (Value.int .i64)
theorem kindsF_snoc (l : List En) (x : En) (h : kindOf l x.path.data.toList = none) : updF (kindsF l) x.path.data.toList (.int .i64 x.kind) = kindsF (l ++ [x]) := by
  funext p
  unfold updF kindsF kindOf
  rw [List.find?_append]
  by_cases hp : p = x.path.data.toList
  · subst hp
    have hn : l.find? (fun e => e.path.data.toList == x.path.data.toList) = none := by
      unfold kindOf at h
      simpa using h
    rw [if_pos rfl, hn]
    simp
  · rw [if_neg hp]
    have : ([x].find? fun e => e.path.data.toList == p) = none := by simp; exact fun e => hp e.symm
    rw [this]; simp
def ok1 (l : List En) (i : Nat) : Bool := (kindOf (l.take i) (pathAt l i)).isNone && entOk (l.getD i en0)
def ok2 (l : List En) (i : Nat) : Bool := (upAt l i).isEmpty || (kindOf l (upAt l i) == some 0)
def treeB (l : List En) : Bool := decide (l.length ≤ 40) && (List.range l.length).all (ok1 l) && (List.range l.length).all (ok2 l)
theorem zero_int (w : World) : (zeroValue 3).run Tryz.prog w = .ok (.int .i64 0) w := by kernel_rfl
theorem all_range_false {p : Nat → Bool} {n k : Nat} (h : k < n) (hp : p k = false) : (List.range n).all p = false := by
  rw [List.all_eq_false]
  exact ⟨k, by simpa using h, by simp [hp]⟩
theorem all_range_succ {p : Nat → Bool} {k : Nat} (h : (List.range k).all p = true) (hp : p k = true) : (List.range (k + 1)).all p = true := by
  rw [List.range_succ, List.all_append, h]; simp [hp]
theorem under64 : Tryz.prog.underlying 144 = some (.map 9 3) := by kernel_rfl
set_option maxRecDepth 100000 in
set_option maxHeartbeats 2000000 in
theorem is_any (l : List En) (a : Option Addr) (c : Nat) (w : World) (hl : l.length ≤ maxLen) (hi : LiesE w a l) (hf : TFit l) (hg : GlobOk w) :
    Calls Tryz.prog 62 #[.slice a l.length c] w fun e w' => e = .returned (.bool (treeB l)) ∧ Below w.heap.size w w' := by
  have hmm := @run_makeMap Tryz.prog
  have hw := within_any (l.length : Int) 0 40 w (by decide)
  have hwd : P.within (l.length : Int) 0 40 = decide (l.length ≤ 40) := by
    unfold P.within; congr 1; apply propext; omega
  rw [hwd] at hw
  by_cases h40 : l.length ≤ 40
  · rw [decide_eq_true h40] at hw
    have HT := hide (show treeB l = ((List.range l.length).all (ok1 l) && (List.range l.length).all (ok2 l)) by unfold treeB; rw [decide_eq_true h40, Bool.true_and])
    clear hwd
    go_enter Tryz.func62, Tryz.ntmps62
    go_wp2_with (go_at_call 86; refine hw.mono ?_; rintro e w' ⟨rfl, hw'⟩; rw [hw']; clear hw' w')
    clear hmm hw
    go_loopw [21] (fun i wr => ∃ k : Nat, k ≤ l.length ∧ i = .int .i64 k ∧ MapIs wr w.heap.size k (kindsF (l.take k)) ∧ Below w.heap.size w wr ∧ (List.range k).all (ok1 l) = true) (fun i _ => l.length - (intOf i).toNat)
    case atStart => exact ⟨0, Nat.zero_le _, rfl, MapIs.made w, (Below.refl _ _).alloc (Nat.le_refl _) _, rfl⟩
    case round =>
      obtain ⟨k, hk, rfl, hmap, hb, hall⟩ := hrel
      have Hall := hide hall
      clear hall
      by_cases hlt : k < l.length
      · obtain ⟨b, o, rfl, i1⟩ : ∃ b o, a = some ⟨b, o, none⟩ ∧ EntsAt wr b o l := by
          rcases hi.below hb (Nat.le_refl _) with h | h
          · subst h; simp at hlt
          · exact h
        obtain ⟨c0, c1, c2⟩ := i1 k hlt
        have hfk := hf k hlt
        have Hx := hide (show l.getD k en0 = l[k] from en_getD l k hlt)
        obtain ⟨x, hx⟩ : ∃ x, l[k] = x := ⟨_, rfl⟩
        have Ht := hide (show l.take (k + 1) = l.take k ++ [x] by rw [← hx]; exact (List.take_succ_eq_append_getElem hlt))
        rw [hx] at c0 c1 c2 hfk Hx
        have he := fun w' hg' => isEntry_any x w' hg' hfk.1 hfk.2
        have hgl := hg.below hb (Nat.le_refl _)
        clear hx i1
        obtain ⟨pa, kd, dt⟩ := x
        obtain ⟨p, rfl⟩ : ∃ p, pa = bs p := ⟨pa.data.toList, (bs_of pa).symm⟩
        have hpl : p.length ≤ 1100000 := by have := hfk.1; simpa [bs_size] using this
        have hpm : p.length ≤ maxLen := by unfold maxLen; omega
        have Hpa := hide (show pathAt l k = p by unfold pathAt; rw [unhide Hx]; exact bs_data p)
        simp only at c0 c1 c2
        have hlt' : (k : Int) < (l.length : Int) := by omega
        unfold entV at he
        simp only at he
        generalize hA : entOk ⟨bs p, kd, dt⟩ = A at *
        have HA := hide hA
        clear hA hfk
        have hg1 : GlobOk (wr.alloc (.cells #[.string (bs p), .int .i64 kd, .string dt] 32)) := hgl.below ((Below.refl _ _).alloc (Nat.le_refl _) _) (Nat.le_refl _)
        generalize hF : kindsF (l.take k) = F at *
        have HF := hide hF
        cases hkf : F p with
        | some v =>
          have Hko := hide (show ok1 l k = false by
            unfold ok1; rw [unhide Hpa]
            rw [← hF] at hkf
            unfold kindsF at hkf
            cases hko : kindOf (l.take k) p with
            | none => rw [hko] at hkf; simp at hkf
            | some _ => rfl)
          clear hF
          go_wp2_with (at_lookup; refine wp_look_ok rfl _ _ 144 rfl 3 under64 (.int .i64 0) (zero_int _) w.heap.size k F rfl (hmap.alloc _) p rfl hpm ?_; rw [hkf])
          go_ret
          exact ⟨ret_bool (by rw [unhide HT, all_range_false hlt (unhide Hko), Bool.false_and]), hb.alloc hb.size _⟩
        | none =>
          have Hno := hide (show kindOf (l.take k) p = none by
            rw [← hF] at hkf
            unfold kindsF at hkf
            simpa using hkf)
          clear hF
          go_wp2_with (at_lookup; refine wp_look_ok rfl _ _ 144 rfl 3 under64 (.int .i64 0) (zero_int _) w.heap.size k F rfl (hmap.alloc _) p rfl hpm ?_; rw [hkf])
          refine (he _ hg1).mono ?_
          rintro e w2 ⟨rfl, hb2⟩
          have hbw : Below w.heap.size w w2 := (hb.alloc hb.size _).trans (hb2.mono (hb.alloc hb.size _).size)
          have hmw : w.heap.size < (wr.alloc (.cells #[.string (bs p), .int .i64 kd, .string dt] 32)).heap.size := (hmap.alloc _).lt
          have hm2 : MapIs w2 w.heap.size k F := (hmap.alloc _).same (hb2.block _ hmw)
          have hcc := (bcell hb2).1 wr.heap.size
          have d0 := (hcc 0 (by simp)).trans (by simp : _ = some (.string (bs p)))
          have d1 := (hcc 1 (by simp)).trans (by simp : _ = some (.int .i64 kd))
          have Hok := hide (show ok1 l k = A by unfold ok1; rw [unhide Hpa, unhide Hno, unhide Hx, unhide HA]; rfl)
          clear hb2 hcc hmw he hg1
          cases A with
          | false =>
            go_wp2_with fail
            go_ret
            exact ⟨ret_bool (by rw [unhide HT, all_range_false hlt (unhide Hok), Bool.false_and]), hbw⟩
          | true =>
            go_wp2_with (at_mapUpdate; refine wp_store rfl _ _ _ 144 rfl 3 under64 w.heap.size k F rfl hm2 (by unfold maxLen; omega) p rfl hpm _ rfl ?_; intro w3 hm3 hg3)
            have hb3 : Below w.heap.size w w3 := hbw.grown hg3 hbw.size (fun j hj => by cases hj; exact Nat.le_refl _)
            go_roundw
            case rel =>
              refine ⟨k + 1, by omega, by go_num, ?_, hb3, all_range_succ (unhide Hall) (unhide Hok)⟩
              rw [unhide Ht, ← kindsF_snoc _ _ (by simp only [bs_data]; exact unhide Hno), unhide HF]
              simp only [bs_data]
              exact hm3
            case measure => simp [intOf]; omega
      · obtain rfl : k = l.length := by omega
        rw [List.take_length] at hmap
        have HT2 := hide (show treeB l = (List.range l.length).all (ok2 l) by rw [unhide HT, unhide Hall, Bool.true_and])
        clear HT Hall
        obtain ⟨wm, rfl⟩ : ∃ wm, wm = wr := ⟨_, rfl⟩
        have hi1 := hi.below hb (Nat.le_refl _)
        have hbwr := hb
        generalize hF : kindsF l = F at *
        have HF := hide hF
        clear hF
        go_wp2_with fail
        go_loopw [46] (fun i wr => ∃ k : Nat, k ≤ l.length ∧ i = .int .i64 k ∧ Below wm.heap.size wm wr ∧ (List.range k).all (ok2 l) = true) (fun i _ => l.length - (intOf i).toNat)
        case atStart => exact ⟨0, Nat.zero_le _, rfl, Below.refl _ _, rfl⟩
        case round =>
          obtain ⟨k, hk, rfl, hb, hall⟩ := hrel
          have Hall := hide hall
          clear hall
          by_cases hlt : k < l.length
          · obtain ⟨b, o, rfl, i1⟩ : ∃ b o, a = some ⟨b, o, none⟩ ∧ EntsAt wr b o l := by
              rcases hi1.below hb (Nat.le_refl _) with h | h
              · subst h; simp at hlt
              · exact h
            obtain ⟨c0, c1, c2⟩ := i1 k hlt
            have hfk := hf k hlt
            have Hx := hide (show l.getD k en0 = l[k] from en_getD l k hlt)
            obtain ⟨x, hx⟩ : ∃ x, l[k] = x := ⟨_, rfl⟩
            rw [hx] at c0 c1 c2 hfk Hx
            clear hx i1
            obtain ⟨pa, kd, dt⟩ := x
            obtain ⟨p, rfl⟩ : ∃ p, pa = bs p := ⟨pa.data.toList, (bs_of pa).symm⟩
            have hpl : p.length ≤ 1100000 := by have := hfk.1; simpa [bs_size] using this
            have Hpa := hide (show pathAt l k = p by unfold pathAt; rw [unhide Hx]; exact bs_data p)
            have hsp := fun w' => tsplit p w' hpl
            have hul : (upPath p).length ≤ maxLen := by
              unfold upPath maxLen; rw [List.length_take]; omega
            have Hu := hide (show upAt l k = upPath p by unfold upAt; rw [unhide Hpa])
            generalize upPath p = u at *
            generalize nameOf p = nn at *
            simp only at c0 c1 c2
            have hlt' : (k : Int) < (l.length : Int) := by omega
            have hmx : MapIs wr w.heap.size l.length F := hmap.same (hb.block _ hmap.lt)
            have hbx : Below w.heap.size w wr := hbwr.trans (hb.mono hbwr.size)
            have s1 : (bs u).toList.isEmpty = u.isEmpty := by rw [ByteArray.toList_eq, bs_data]
            have Ho := hide (show ok2 l k = (u.isEmpty || (kindOf l u == some 0)) by unfold ok2; rw [unhide Hu])
            clear hfk
            go_wp2_with fail
            refine (hsp _).mono ?_
            rintro e w2 ⟨rfl, n2, hw2⟩
            have hbA : Below wm.heap.size wm w2 := by rw [hw2]; exact below_drewN (hb.alloc hb.size _) _
            have hbB : Below w.heap.size w w2 := hbwr.trans (hbA.mono hbwr.size)
            have hm2 : MapIs w2 w.heap.size l.length F := hmap.same (hbA.block _ hmap.lt)
            clear hw2 hsp c0 c1 c2 hmx hbx hmap hb
            generalize hkf : kindOf l u = kf at *
            have hFu : F u = kf.map (Value.int .i64) := by rw [← unhide HF]; unfold kindsF; rw [hkf]
            clear hkf
            by_cases hu0 : u = []
            · subst hu0
              have Hr := hide (show ok2 l k = true by rw [unhide Ho]; rfl)
              go_wp2_with (at_lookup; refine wp_look_ok rfl _ _ 144 rfl 3 under64 (.int .i64 0) (zero_int _) w.heap.size l.length F rfl hm2 [] rfl hul ?_)
              go_roundw
              case rel => exact ⟨k + 1, by omega, by go_num, hbA, all_range_succ (unhide Hall) (unhide Hr)⟩
              case measure => simp [intOf]; omega
            · have hue : u.isEmpty = false := by cases u <;> simp_all
              rw [hue] at s1
              cases kf with
              | none =>
                have Hr := hide (show ok2 l k = false by rw [unhide Ho, hue]; rfl)
                clear hu0 hue
                go_wp2_with (at_lookup; refine wp_look_ok rfl _ _ 144 rfl 3 under64 (.int .i64 0) (zero_int _) w.heap.size l.length F rfl hm2 u rfl hul ?_; rw [hFu])
                go_ret
                exact ⟨ret_bool (by rw [unhide HT2, all_range_false hlt (unhide Hr)]), hbB⟩
              | some kk =>
                by_cases hk0 : kk = 0
                · subst hk0
                  have Hr := hide (show ok2 l k = true by rw [unhide Ho, hue]; rfl)
                  clear hu0 hue
                  go_wp2_with (at_lookup; refine wp_look_ok rfl _ _ 144 rfl 3 under64 (.int .i64 0) (zero_int _) w.heap.size l.length F rfl hm2 u rfl hul ?_; rw [hFu])
                  go_roundw
                  case rel => exact ⟨k + 1, by omega, by go_num, hbA, all_range_succ (unhide Hall) (unhide Hr)⟩
                  case measure => simp [intOf]; omega
                · have b0 : (kk == 0) = false := by simpa using hk0
                  have Hr := hide (show ok2 l k = false by rw [unhide Ho, hue]; simpa using hk0)
                  clear hu0 hue hk0
                  go_wp2_with (at_lookup; refine wp_look_ok rfl _ _ 144 rfl 3 under64 (.int .i64 0) (zero_int _) w.heap.size l.length F rfl hm2 u rfl hul ?_; rw [hFu])
                  go_ret
                  exact ⟨ret_bool (by rw [unhide HT2, all_range_false hlt (unhide Hr)]), hbB⟩
          · obtain rfl : k = l.length := by omega
            have hbx : Below w.heap.size w wr := hbwr.trans (hb.mono hbwr.size)
            go_wp2_with fail
            go_ret
            exact ⟨ret_bool (by rw [unhide HT2, unhide Hall]), hbx⟩
  · have HT := hide (show treeB l = false by unfold treeB; rw [decide_eq_false h40, Bool.false_and, Bool.false_and])
    rw [decide_eq_false h40] at hw
    clear hwd hmm
    go_enter Tryz.func62, Tryz.ntmps62
    go_wp2_with (go_at_call 86; refine hw.mono ?_; rintro e w' ⟨rfl, hw'⟩; rw [hw']; clear hw' w')
    go_ret
    exact ⟨ret_bool (unhide HT).symm, Below.refl _ _⟩
end Go.Proofs.YtjmacegibchplaaGreatDoor
