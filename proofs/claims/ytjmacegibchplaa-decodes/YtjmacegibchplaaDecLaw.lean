/-
  For every text the law on Decode returns true: the answer is the document's. No condition.
-/
import Derived.Test.YtjmacegibchplaaRows
import Derived.Test.YtjmacegibchplaaRefDec
import Derived.Test.YtjmacegibchplaaItemC
import Derived.ProofKit
import Derived.OpenShut
import Derived.ShutString
import Derived.SizedLaws
namespace Go.Proofs.Ytjmacegibchplaa
open Go.RowKit
set_option linter.unusedVariables false
set_option maxHeartbeats 1000000 in
/-- the statements' own 'decoded': true; the list is what Decode gave -/
theorem decoded_any (L : List UInt8) (w : World) (hl : L.length ≤ 140737488351232) :
    Calls Try.prog 13 #[.string (bs L)] w fun e w' => ∃ v, e = .returned (.tuple #[v, .bool true]) ∧ Below w.heap.size w w'
      ∧ ((decOk L = none ∧ v = .slice none 0 0) ∨ ∃ items, decOk L = some items ∧ OwnsIt w' w.heap.size v items) := by
  go_enter Try.func13, Try.ntmps13
  go_wp2_with fail
  refine (cellarDecode L w (by unfold maxLen; omega)).mono ?_
  rintro e w1 ⟨hb1, ⟨hd, rfl⟩ | ⟨items, v, hd, hf, hl2, rfl, ho1⟩⟩
  · have Hd := hide hd
    clear hd
    go_wp2_with fail
    refine (refDecode_loop L w1 hl).mono ?_
    rintro e w2 ⟨hb2, ⟨hd2, rfl⟩ | ⟨items, v, hd2, rfl, ho2⟩⟩
    · clear hd2
      go_wp2_with fail
      go_ret2
      exact ⟨_, rfl, hb1.trans (hb2.mono hb1.size), .inl ⟨unhide Hd, rfl⟩⟩
    · rw [unhide Hd] at hd2; simp at hd2
  · have Hd := hide hd
    clear hd
    go_wp2_with fail
    refine (refDecode_loop L w1 hl).mono ?_
    rintro e w2 ⟨hb2, ⟨hd2, rfl⟩ | ⟨items2, v2, hd2, rfl, ho2⟩⟩
    · rw [unhide Hd] at hd2; simp at hd2
    · rw [unhide Hd] at hd2
      simp at hd2
      subst hd2
      obtain ⟨a1, c1, hv1, l1, _⟩ := ho1.lies
      obtain ⟨a2, c2, hv2, l2, _⟩ := ho2.lies
      have ho1' : OwnsIt w2 w.heap.size v items := World.ownsRow.kept (row := none) ho1 ⟨hb2.os, hb2.tape, hb2.output, hb2.size, fun k hk _ => hb2.block k hk⟩ (by cases v.ownBlock <;> simp)
      subst hv1 hv2
      go_wp2_with fail
      refine (sameItems_same items a1 a2 c1 c2 w2 (by unfold maxLen; omega) (l1.below hb2 (Nat.le_refl _)) l2).mono ?_
      rintro e w3 ⟨rfl, n, hw3⟩
      subst hw3
      go_wp2_with fail
      go_ret2
      exact ⟨_, rfl, below_drewN (hb1.trans (hb2.mono hb1.size)) n, .inr ⟨items, unhide Hd, ho1'⟩⟩
end Go.Proofs.Ytjmacegibchplaa
namespace Go.Proofs.Ytjmacegibchplaa.decodes
open Go.ChangeShapes Go.WideShapes Go.ChangeAt Go.RowKit
open Go.ChangeMaps (open_string shut_string)
set_option linter.unusedVariables false
theorem own : ownKnob Try.prog.godebug = none := by kernel_rfl
theorem laidOut : laidOutB Try.prog = true := by kernel_rfl
theorem first : decOk [84, 1, 3, 1, 108, 1, 120] = some [⟨bs [108], 3, ⟨#[]⟩, 0, bs [120]⟩] := (decOk_iff _ _).2 ⟨by decide +kernel, by decide +kernel⟩
set_option maxHeartbeats 1000000 in
theorem walk (L : List UInt8) (w : World) (hl : L.length ≤ 140737488351232) :
    Calls Try.prog 5 #[.string (bs L)] w fun e w' => e = .returned (.bool true) ∧ Below w.heap.size w w' := by
  have hc : (⟨#[84, 1, 3, 1, 108, 1, 120]⟩ : ByteArray) = bs [84, 1, 3, 1, 108, 1, 120] := rfl
  go_enter Try.func5, Try.ntmps5
  go_wp2_with fail
  refine (decoded_any [84, 1, 3, 1, 108, 1, 120] w (by decide)).mono ?_
  rintro e w1 ⟨v, rfl, hb1, ⟨hd, _⟩ | ⟨items, hd, ho⟩⟩
  · rw [first] at hd; simp at hd
  · rw [first] at hd
    simp at hd
    subst hd
    obtain ⟨a1, c1, rfl, _, _⟩ := ho.lies
    clear hc
    go_wp2_with fail
    refine (decoded_any L w1 hl).mono ?_
    rintro e w2 ⟨v2, rfl, hb2, hrest⟩
    clear hrest
    go_wp2_with fail
    go_ret
    exact ⟨rfl, hb1.trans (hb2.mono hb1.size)⟩
set_option maxRecDepth 100000 in
theorem lifted (os : Os) (started : os.Started) (H : Type) (enc : TypeId × Value → H) :
    ReturnsInHanded {} Try.checked os 5 .any (Rows.decodesSpec.pre6 enc Try.prog Try.f5 Rows.decodesRow.domain false) (Rows.decodesSpec.post enc Try.prog Try.f5 false true false false) := by
  refine returnsInHanded_of_change_sized (C := Try.checked) own started (by kernel_rfl) Try.func5
    (ChangeSpec.witness6 (enc := enc) (C := Try.checked) false ⟨#[], #[.string ByteArray.empty], []⟩ 8 (by kernel_rfl) (by kernel_rfl) (by kernel_rfl) (by kernel_rfl)) ?_
  intro W base args ds gs before hval0 hW hcnd hsz0 _
  have hval : ∀ (j : Nat) t v, Try.f5.params[j]? = some t → args[j]? = some v → Value.okWide Try.prog W .any base t v := hval0
  have hsz : (DataW.weightsEach Try.prog (Try.f5.params.toList ++ Rows.decodesSpec.plain.varTypes Try.prog) (ds ++ gs)).all (· ≤ reachBytes) = true := hsz0
  have hW' := hW
  obtain ⟨p, q, hA0, hV, rfl, hfz, hnd⟩ := hW
  have hA : DataW.TrodAll enc Try.prog W 0 (fun _ => true) true Try.f5.params.toList args.toList ds p := hA0
  rw [Try.params5] at hA hval hsz
  obtain ⟨v0, vs0, d0, ds0, p0, q0, hargs, rfl, rfl, h0, r0⟩ := trodAll_cons hA
  obtain ⟨rfl, rfl, rfl⟩ := trodAll_nil r0
  obtain rfl : args = #[v0] := by cases args; simp_all
  obtain ⟨rfl, rfl⟩ := trodVars_none hV
  obtain ⟨a0, rfl, rfl, rfl, w0⟩ := open_string Try.underlying9 (hval 0 9 v0 rfl rfl) h0
  have hreach : a0.data.toList.length ≤ 140737488351232 := by
    have := sized_string hsz (j := 0) (t := 9) rfl rfl
    unfold reachBytes at this
    omega
  clear hA0 hval0
  simp only [List.append_nil] at hW'
  have hwalk := walk a0.data.toList W hreach
  rw [bs_of] at hwalk
  refine hwalk.mono fun e W' ⟨he, bel⟩ => ?_
  subst he
  exact ⟨_, rfl, _, _, _, [], _, [], hW', trodAll_mk1 (shut_bool Try.underlying4 _), (trodAll_cons_mk (shut_string Try.underlying9 w0) trodAll_mk0), rfl, bel.frame _, fun h => by cases h⟩
theorem over : Rows.decodesRow.holds Try.pinned (OpenSpec.ofChange Rows.decodesSpec) :=
  OpenClaim.holds_of_wide 5 Try.f5 rfl rfl rfl rfl rfl rfl rfl ⟨rfl, rfl, rfl, rfl, rfl⟩ rfl rfl rfl rfl rfl (by kernel_rfl) Try.func5 (by kernel_rfl)
    (of_decide_eq_true (by kernel_rfl)) (by unfold Func.isWrapper; first | (rw [if_pos (by decide +kernel)]; kernel_rfl) | (rw [if_neg (by decide +kernel)]; exact ⟨rfl, rfl⟩))
    (fun os started H enc _ => lifted os started H enc)
end Go.Proofs.Ytjmacegibchplaa.decodes
namespace Go.Proofs.Ytjmacegibchplaa
/-- For every text: Decode answers as the document asks. -/
theorem decodes_hold : Rows.DecodesSaid := decodes.over
#print axioms decodes_hold
end Go.Proofs.Ytjmacegibchplaa
