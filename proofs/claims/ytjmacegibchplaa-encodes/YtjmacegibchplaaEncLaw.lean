/-
  For every list of items the law on Encode returns true: the answer is the document's, and what was handed in is as it was. No condition.
-/
import Derived.Test.YtjmacegibchplaaRows
import Derived.Test.YtjmacegibchplaaRefEnc
import Derived.Test.YtjmacegibchplaaItemO
import Derived.ShutString
namespace Go.Proofs.Ytjmacegibchplaa.encodes
open Go.ChangeShapes Go.WideShapes Go.ChangeAt Go.RowKit
open Go.ChangeMaps (open_string shut_string)
set_option linter.unusedVariables false

theorem own : ownKnob Try.prog.godebug = none := by kernel_rfl
theorem laidOut : laidOutB Try.prog = true := by kernel_rfl

/-- the list handed over: a copy, or nothing -/
theorem copy_any (l : List P.It) (a : Option Addr) (c : Nat) (w : World) (hl : l.length * 64 ≤ 140737488351232) (hc : a = none → l.length = 0 ∧ c = 0) (hi : Lies w a l) :
    Calls Try.prog 9 #[.slice a l.length c] w fun e w' => ∃ a' c', e = .returned (.slice a' l.length c') ∧ Lies w' a' l ∧ Below w.heap.size w w' ∧
      ∀ w2, Below w'.heap.size w' w2 → Calls Try.prog 10 #[.slice a' l.length c', .slice a l.length c] w2 fun e w3 => e = .returned (.bool true) ∧ ∃ n, w3 = w2.drewN n := by
  cases a with
  | none =>
    obtain ⟨h0, rfl⟩ := hc rfl
    rw [h0]
    refine (itemsOf_nil w).mono ?_
    rintro e w' ⟨rfl, rfl⟩
    refine ⟨none, 0, rfl, .inl (List.eq_nil_of_length_eq_zero h0), Below.refl _ _, fun w2 _ => stillItems_nil w2⟩
  | some ad =>
    refine (itemsOf_some l ad c w hl hi).mono ?_
    rintro e w' ⟨rfl, hit, hb⟩
    have hlo : ItemsAt w' w.heap.size 0 l := fun i hi => by
      have := hit i (by rw [marked_len l 8 (by omega)]; omega)
      rw [marked_lo l i hi] at this
      exact this
    refine ⟨some ⟨w.heap.size, 0, none⟩, l.length + 8, rfl, .inr ⟨_, _, rfl, hlo⟩, hb, fun w2 hb2 => ?_⟩
    refine stillItems_some l w.heap.size (some ad) c w2 hl (hit.below hb2 (Nat.le_refl _)) ?_
    exact (hi.below hb (Nat.le_refl _)).below hb2 (Nat.le_refl _)
theorem enc_none : encS [] = ⟨#[84, 0]⟩ ∧ encE [] = 0 := by decide
set_option maxHeartbeats 1000000 in
theorem walk (l : List P.It) (a : Option Addr) (c : Nat) (w : World) (hl : l.length * 64 ≤ 140737488351232) (hc : a = none → l.length = 0 ∧ c = 0) (hi : Lies w a l) (hf : FitAll l) :
    Calls Try.prog 4 #[.slice a l.length c] w fun e w' => e = .returned (.bool true) ∧ Below w.heap.size w w' := by
  have hlm : l.length ≤ maxLen := by unfold maxLen; omega
  go_enter Try.func4, Try.ntmps4
  go_wp2_with fail
  refine (cellarEncode [] none 0 w (by decide) (.inl rfl) (fun i hi => absurd hi (by simp))).mono ?_
  rintro e w1 ⟨rfl, hb1⟩
  rw [enc_none.1, enc_none.2]
  go_wp2_with fail
  refine (copy_any l a c w1 hl hc (hi.below hb1 (Nat.le_refl _))).mono ?_
  rintro e w2 ⟨a', c', rfl, hi2, hb2, hstill⟩
  have Hst := hide hstill
  clear hstill
  go_wp2_with fail
  refine (cellarEncode l a' c' w2 hlm hi2 hf).mono ?_
  rintro e w3 ⟨rfl, hb3⟩
  have Hc := hide (And.intro (show encS l = if dirOk l = true then ⟨(dirBytes l).toArray⟩ else ⟨#[]⟩ from rfl) (show encE l = if dirOk l = true then 0 else 4 from rfl))
  generalize encS l = es at *
  generalize encE l = ee at *
  go_wp2_with fail
  refine (unhide Hst w3 hb3).mono ?_
  rintro e w4 ⟨rfl, n4, hw4⟩
  subst hw4
  have hw : Below w.heap.size w (w3.drewN n4) := below_drewN (hb1.trans ((hb2.mono hb1.size).trans (hb3.mono (Nat.le_trans hb1.size hb2.size)))) n4
  go_wp2_with fail
  refine (refDirectory_any l a c _ hlm (hi.below hw (Nat.le_refl _)) hf).mono ?_
  rintro e w5 ⟨rfl, hb5⟩
  have hw5 := hw.trans (hb5.mono hw.size)
  obtain ⟨h1, h2⟩ := unhide Hc
  cases hd : dirOk l with
  | true =>
    rw [hd, if_pos rfl] at h1 h2
    subst h1 h2
    have Hd := hide hd
    clear hd Hc Hst
    go_wp2_with fail
    refine (refEncode_any l a c w5 (hi.below hw5 (Nat.le_refl _)) (unhide Hd)).mono ?_
    rintro e w6 ⟨rfl, hb6⟩
    generalize (⟨(dirBytes l).toArray⟩ : ByteArray) = s
    go_wp2_with fail
    go_ret
    exact ⟨ret_bool (by simp), hw5.trans (hb6.mono hw5.size)⟩
  | false =>
    rw [hd, if_neg (by simp)] at h1 h2
    subst h1 h2
    clear hd Hc Hst
    go_wp2_with fail
    go_ret
    exact ⟨rfl, hw5⟩

theorem bytes_item : Try.checked.prog.bytesOf 35 = 64 := by kernel_rfl
set_option maxRecDepth 100000 in
theorem lifted (os : Os) (started : os.Started) (H : Type) (enc : TypeId × Value → H) :
    ReturnsInHanded {} Try.checked os 4 .any (Rows.encodesSpec.pre6 enc Try.prog Try.f4 Rows.encodesRow.domain false) (Rows.encodesSpec.post enc Try.prog Try.f4 false true false false) := by
  refine returnsInHanded_of_change_sized (C := Try.checked) own started (by kernel_rfl) Try.func4
    (ChangeSpec.witness6 (enc := enc) (C := Try.checked) false ⟨#[], #[.slice none 0 0], []⟩ 8 (by kernel_rfl) (by kernel_rfl) (by kernel_rfl) (by kernel_rfl)) ?_
  intro W base args ds gs before hval0 hW hcnd hsz0 _
  have hval : ∀ (j : Nat) t v, Try.f4.params[j]? = some t → args[j]? = some v → Value.okWide Try.prog W .any base t v := hval0
  have hsz : (DataW.weightsEach Try.prog (Try.f4.params.toList ++ Rows.encodesSpec.plain.varTypes Try.prog) (ds ++ gs)).all (· ≤ reachBytes) = true := hsz0
  have hW' := hW
  obtain ⟨p, q, hA0, hV, rfl, hfz, hnd⟩ := hW
  have hA : DataW.TrodAll enc Try.prog W 0 (fun _ => true) true Try.f4.params.toList args.toList ds p := hA0
  rw [Try.params4] at hA hval hsz
  obtain ⟨v0, vs0, d0, ds0, p0, q0, hargs, rfl, rfl, h0, r0⟩ := trodAll_cons hA
  obtain ⟨rfl, rfl, rfl⟩ := trodAll_nil r0
  obtain rfl : args = #[v0] := by cases args; simp_all
  obtain ⟨rfl, rfl⟩ := trodVars_none hV
  obtain ⟨a0, len0, cap0, rfl⟩ := okWide_slice Try.underlying24 (hval 0 24 v0 rfl rfl)
  have k0 := h0
  have lt0 : ∀ x ∈ p0, x.block < W.heap.size := by obtain ⟨m, hm⟩ := k0; exact DataW.trod_lt m _ _ _ hm
  obtain ⟨fuel, hf⟩ := h0
  obtain ⟨l, hl, hlies, hfit, hmax, hcap, hx⟩ := open_items hf
  subst hl
  have hreach : l.length * 64 ≤ 140737488351232 := by
    rcases hx with ⟨_, _, h⟩ | ⟨elems, spare, hd, he⟩
    · omega
    · simp only at hd
      subst hd
      have := sized_slice hsz (j := 0) (t := 24) (e := 35) rfl rfl Try.underlying24
      have hb : Try.prog.bytesOf 35 = 64 := bytes_item
      rw [hb] at this
      unfold reachBytes at this
      omega
  have hnone : a0 = none → l.length = 0 ∧ cap0 = 0 := fun h => by
    rcases hx with ⟨_, _, h2⟩ | ⟨elems, spare, hd, he⟩
    · exact ⟨h2, hcap h⟩
    · refine ⟨?_, hcap h⟩
      rcases hlies with h3 | ⟨b, o, h3, _⟩
      · rw [h3]; rfl
      · rw [h] at h3; simp at h3
  clear hA0 hval0
  refine (walk l a0 cap0 W hreach hnone hlies hfit).mono fun e W' ⟨he, bel⟩ => ?_
  subst he
  exact ⟨_, rfl, _, _, _, [], _, [], hW', trodAll_mk1 (shut_bool Try.underlying4 _), (trodAll_cons_mk (Below.trod laidOut (by kernel_rfl) (of_decide_eq_true (by kernel_rfl)) k0 bel lt0) trodAll_mk0), rfl, bel.frame _, fun h => by cases h⟩

theorem over : Rows.encodesRow.holds Try.pinned (OpenSpec.ofChange Rows.encodesSpec) :=
  OpenClaim.holds_of_wide 4 Try.f4 rfl rfl rfl rfl rfl rfl rfl ⟨rfl, rfl, rfl, rfl, rfl⟩ rfl rfl rfl rfl rfl (by kernel_rfl) Try.func4 (by kernel_rfl)
    (of_decide_eq_true (by kernel_rfl)) (by unfold Func.isWrapper; first | (rw [if_pos (by decide +kernel)]; kernel_rfl) | (rw [if_neg (by decide +kernel)]; exact ⟨rfl, rfl⟩))
    (fun os started H enc _ => lifted os started H enc)
end Go.Proofs.Ytjmacegibchplaa.encodes
namespace Go.Proofs.Ytjmacegibchplaa
/-- For every list of items: Encode answers as the document asks. -/
theorem encodes_hold : Rows.EncodesSaid := encodes.over
#print axioms encodes_hold
end Go.Proofs.Ytjmacegibchplaa
