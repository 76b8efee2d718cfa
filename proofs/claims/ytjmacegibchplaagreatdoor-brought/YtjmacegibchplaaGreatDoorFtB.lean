import Derived.Test.YtjmacegibchplaaGreatDoorFetR
import Derived.Test.YtjmacegibchplaaGreatDoorFtA
/-
  Fetch over plain lists, step by step as the program goes. No walk.
-/
namespace Go.Proofs.YtjmacegibchplaaGreatDoor
set_option linter.unusedVariables false
def contE (S : List UInt8 → Option (List UInt8)) (deep : Int) (x : P.It) : Int :=
  if x.kind = 3 then (if outP (deep - 1) x.tgt.data.toList = true then 8 else 0)
  else if (blobS S x.dig.data.toList).1 ≠ 0 then (blobS S x.dig.data.toList).1
  else if ((blobS S x.dig.data.toList).2.length : Int) ≠ x.size ∨ (x.kind ≠ 0 ∧ 60 < (blobS S x.dig.data.toList).2.length) then 8
  else if x.kind = 0 then (if (decOk (blobS S x.dig.data.toList).2).isSome then 0 else 8) else 0
def contD (S : List UInt8 → Option (List UInt8)) (x : P.It) : ByteArray := if x.kind = 3 then x.tgt else if x.kind = 0 then ⟨#[]⟩ else bs (blobS S x.dig.data.toList).2
def contI (S : List UInt8 → Option (List UInt8)) (x : P.It) : List P.It := if x.kind = 0 then (decOk (blobS S x.dig.data.toList).2).getD [] else []
def budQ (n : Nat) (ents dep deep : Int) : Bool := decide (min ents 40 < (n : Int) + 1) || decide (min dep 5 < deep)
theorem bud_iff (n : Nat) (ents dep deep : Int) (hn : n ≤ 40) : (ents < (n : Int) + 1 ∨ dep < deep ∨ n = 40 ∨ 5 < deep) ↔ budQ n ents dep deep = true := by
  unfold budQ
  rw [Bool.or_eq_true, decide_eq_true_eq, decide_eq_true_eq]
  omega
theorem fet_bud (S : List UInt8 → Option (List UInt8)) (ents dep : Int) (rec : List UInt8 → List UInt8 → List En → Int × List En) (d : List UInt8) (deep : Int) (x : P.It) (r : List P.It) (out : List En) (hn : out.length ≤ 40) (hb : budQ out.length ents dep deep = true) : fetItems S ents dep rec d deep (x :: r) out = (9, out) := by
  rw [fetItems, if_pos ((bud_iff _ _ _ _ hn).2 hb)]
theorem fet_err (S : List UInt8 → Option (List UInt8)) (ents dep : Int) (f : Nat) (d : List UInt8) (deep : Int) (x : P.It) (r : List P.It) (out : List En) (hn : out.length ≤ 40) (hb : budQ out.length ents dep deep = false) (hc : contE S deep x ≠ 0) : (fetItems S ents dep (belowF S ents dep (f + 1) (deep + 1)) d deep (x :: r) out).1 = contE S deep x := by
  have hb2 : ¬ (ents < (out.length : Int) + 1 ∨ dep < deep ∨ out.length = 40 ∨ 5 < deep) := fun h => by rw [(bud_iff _ _ _ _ hn).1 h] at hb; simp at hb
  rw [fetItems, if_neg hb2]
  unfold contE at hc ⊢
  by_cases h3 : x.kind = 3
  · rw [if_pos h3] at hc ⊢
    rw [if_pos h3]
    by_cases ho : outP (deep - 1) x.tgt.data.toList = true
    · rw [if_pos ho, if_pos ho]
    · rw [if_neg ho] at hc; exact absurd rfl hc
  · rw [if_neg h3] at hc ⊢
    rw [if_neg h3]
    by_cases h1 : (blobS S x.dig.data.toList).1 ≠ 0
    · rw [if_pos h1, if_pos h1]
    · rw [if_neg h1] at hc ⊢
      rw [if_neg h1]
      by_cases h2 : ((blobS S x.dig.data.toList).2.length : Int) ≠ x.size ∨ (x.kind ≠ 0 ∧ 60 < (blobS S x.dig.data.toList).2.length)
      · rw [if_pos h2, if_pos h2]
      · rw [if_neg h2] at hc ⊢
        rw [if_neg h2]
        by_cases h0 : x.kind = 0
        · rw [if_pos h0] at hc ⊢
          rw [if_neg (by simpa using h0)]
          cases hd : decOk (blobS S x.dig.data.toList).2 with
          | some l => rw [hd] at hc; simp at hc
          | none => simp [belowF, hd]
        · rw [if_neg h0] at hc; exact absurd rfl hc
theorem fet_step (S : List UInt8 → Option (List UInt8)) (ents dep : Int) (f : Nat) (d : List UInt8) (deep : Int) (x : P.It) (r : List P.It) (out : List En) (hn : out.length ≤ 40) (hb : budQ out.length ents dep deep = false) (hc : contE S deep x = 0) (hx : P.itemOk x = true) :
    fetItems S ents dep (belowF S ents dep (f + 1) (deep + 1)) d deep (x :: r) out =
      (if (fetItems S ents dep (belowF S ents dep f (deep + 1 + 1)) (pre d ++ x.name.data.toList) (deep + 1) (contI S x) (out ++ [⟨bs (pre d ++ x.name.data.toList), x.kind, contD S x⟩])).1 ≠ 0
        then fetItems S ents dep (belowF S ents dep f (deep + 1 + 1)) (pre d ++ x.name.data.toList) (deep + 1) (contI S x) (out ++ [⟨bs (pre d ++ x.name.data.toList), x.kind, contD S x⟩])
        else fetItems S ents dep (belowF S ents dep (f + 1) (deep + 1)) d deep r (fetItems S ents dep (belowF S ents dep f (deep + 1 + 1)) (pre d ++ x.name.data.toList) (deep + 1) (contI S x) (out ++ [⟨bs (pre d ++ x.name.data.toList), x.kind, contD S x⟩])).2) := by
  have hb2 : ¬ (ents < (out.length : Int) + 1 ∨ dep < deep ∨ out.length = 40 ∨ 5 < deep) := fun h => by rw [(bud_iff _ _ _ _ hn).1 h] at hb; simp at hb
  rw [fetItems, if_neg hb2]
  unfold contE at hc
  by_cases h3 : x.kind = 3
  · rw [if_pos h3] at hc ⊢
    have ho : ¬ outP (deep - 1) x.tgt.data.toList = true := fun h => by rw [if_pos h] at hc; simp at hc
    rw [if_neg ho]
    have hI : contI S x = [] := by unfold contI; rw [if_neg (by omega)]
    have hD : contD S x = x.tgt := by unfold contD; rw [if_pos h3]
    rw [hI, hD, h3]
    simp [fetItems]
  · rw [if_neg h3] at hc ⊢
    have h1 : ¬ (blobS S x.dig.data.toList).1 ≠ 0 := fun h => by rw [if_pos h] at hc; exact h hc
    rw [if_neg h1] at hc ⊢
    have h2 : ¬ (((blobS S x.dig.data.toList).2.length : Int) ≠ x.size ∨ (x.kind ≠ 0 ∧ 60 < (blobS S x.dig.data.toList).2.length)) := fun h => by rw [if_pos h] at hc; simp at hc
    rw [if_neg h2] at hc ⊢
    by_cases h0 : x.kind = 0
    · rw [if_pos h0] at hc
      rw [if_neg (by simpa using h0)]
      have htg := (ok_plain x hx h3).1
      have hD : contD S x = ⟨#[]⟩ := by unfold contD; rw [if_neg h3, if_pos h0]
      cases hd : decOk (blobS S x.dig.data.toList).2 with
      | none => rw [hd] at hc; simp at hc
      | some l =>
        have hI : contI S x = l := by unfold contI; rw [if_pos h0, hd]; rfl
        rw [hI, hD, h0, htg]
        simp only [belowF, hd]
    · rw [if_pos (by simpa using h0)]
      have hI : contI S x = [] := by unfold contI; rw [if_neg h0]
      have hD : contD S x = bs (blobS S x.dig.data.toList).2 := by unfold contD; rw [if_neg h3, if_neg h0]
      rw [hI, hD]
      simp [fetItems]
theorem contI_ok (S : List UInt8 → Option (List UInt8)) (x y : P.It) (h : y ∈ contI S x) : P.itemOk y = true := by
  unfold contI at h
  split at h
  · cases hd : decOk (blobS S x.dig.data.toList).2 with
    | none => rw [hd] at h; simp at h
    | some l =>
      rw [hd] at h
      exact dir_each l ((decOk_iff _ _).1 hd).1 y h
  · simp at h
end Go.Proofs.YtjmacegibchplaaGreatDoor

/-
  The program's Fetch: what an item tells of.
-/
namespace Go.Proofs.YtjmacegibchplaaGreatDoor
open Go.RowKit Go.Maps Go.WideMaps
set_option linter.unusedVariables false
def ContEnd (S : List UInt8 → Option (List UInt8)) (deep : Int) (x : P.It) (w : World) (e : Ending) (w' : World) : Prop :=
  Below w.heap.size w w' ∧ ((contE S deep x ≠ 0 ∧ e = .returned (.tuple #[.string ⟨#[]⟩, .slice none 0 0, .int .i64 (contE S deep x)])) ∨ (contE S deep x = 0 ∧ ∃ v, e = .returned (.tuple #[.string (contD S x), v, .int .i64 0]) ∧ OwnsIt w' w.heap.size v (contI S x) ∧ FitAll (contI S x)))
set_option maxRecDepth 100000 in
set_option maxHeartbeats 2000000 in
theorem content_any (st : List (List UInt8 × List UInt8)) (pb um n : Nat) (room : Int) (p : List UInt8) (x : P.It) (w : World) (h : PStore w pb um n room st) (hg : GlobOk w) (hp : p.length ≤ 1100000) (hd1 : (sp p).length ≤ 100) (hl : x.tgt.size ≤ 1100000) (hdg : x.dig.size ≤ maxLen) (hsz : ∀ d b, atP st d = some b → b.length ≤ 10000000) :
    Calls Tryz.prog 93 #[.pointer (some ⟨pb, 0, none⟩), .string (bs p), itV x] w fun e w' => ContEnd (atP st) ((sp p).length : Int) x w e w' := by
  obtain ⟨nm, kd, dg, sz, tg⟩ := x
  obtain ⟨dl, rfl⟩ : ∃ dl, dg = bs dl := ⟨dg.data.toList, (bs_of dg).symm⟩
  simp only at hl hdg
  rw [bs_size] at hdg
  have hbA : Below w.heap.size w (w.alloc (.cells #[.string nm, .int .i64 kd, .string (bs dl), .int .i64 sz, .string tg] 47)) := (Below.refl _ _).alloc (Nat.le_refl _) _
  have hbk := heap_alloc_new w (.cells #[.string nm, .int .i64 kd, .string (bs dl), .int .i64 sz, .string tg] 47)
  by_cases h3 : kd = 3
  · subst h3
    have htg := target_any p ⟨nm, 3, bs dl, sz, tg⟩ _ (hg.below hbA (Nat.le_refl _)) hp hd1 hl
    unfold itV at htg ⊢
    have HE := hide (show contE (atP st) ((sp p).length : Int) ⟨nm, 3, bs dl, sz, tg⟩ = (if outP (((sp p).length : Int) - 1) tg.data.toList = true then 8 else 0) from rfl)
    have HD := hide (show contD (atP st) ⟨nm, 3, bs dl, sz, tg⟩ = tg ∧ contI (atP st) ⟨nm, 3, bs dl, sz, tg⟩ = [] from ⟨rfl, rfl⟩)
    simp only at htg
    have Ht := hide htg
    clear htg hbk h hsz
    generalize hB : outP (((sp p).length : Int) - 1) tg.data.toList = B at *
    cases B with
    | true =>
      go_enter Tryz.func93, Tryz.ntmps93
      go_wp2_with fail
      refine (unhide Ht).mono ?_
      rintro e w1 ⟨hb1, rfl⟩
      have hbb := hbA.trans (hb1.mono hbA.size)
      clear Ht hb1
      simp only [if_true]
      go_wp2_with fail
      go_ret3
      exact ⟨hbb, .inl ⟨by rw [unhide HE]; simp, by rw [unhide HE]; rfl⟩⟩
    | false =>
      go_enter Tryz.func93, Tryz.ntmps93
      go_wp2_with fail
      refine (unhide Ht).mono ?_
      rintro e w1 ⟨hb1, rfl⟩
      have hbb := hbA.trans (hb1.mono hbA.size)
      clear Ht hb1
      simp only [Bool.false_eq_true, if_false]
      go_wp2_with fail
      go_ret3
      exact ⟨hbb, .inr ⟨by rw [unhide HE]; simp, _, by (rw [(unhide HD).1]; first | done | rfl), by rw [(unhide HD).2]; exact World.ownsRow_nil _ _ _ _, by rw [(unhide HD).2]; intro i hi; simp at hi⟩⟩
  · have b3 : (kd == 3) = false := by simpa using h3
    have hbu := blobUnder_any st pb um n room dl _ (h.below hbA (Nat.le_refl _)) hdg (hsz dl)
    have HE := hide (show contE (atP st) ((sp p).length : Int) ⟨nm, kd, bs dl, sz, tg⟩ = (if (blobS (atP st) dl).1 ≠ 0 then (blobS (atP st) dl).1
      else if ((blobS (atP st) dl).2.length : Int) ≠ sz ∨ (kd ≠ 0 ∧ 60 < (blobS (atP st) dl).2.length) then 8
      else if kd = 0 then (if (decOk (blobS (atP st) dl).2).isSome then 0 else 8) else 0) by unfold contE; simp only [bs_data]; rw [if_neg h3])
    have HD := hide (show contD (atP st) ⟨nm, kd, bs dl, sz, tg⟩ = (if kd = 0 then ⟨#[]⟩ else bs (blobS (atP st) dl).2) ∧ contI (atP st) ⟨nm, kd, bs dl, sz, tg⟩ = (if kd = 0 then (decOk (blobS (atP st) dl).2).getD [] else []) by unfold contD contI; simp only [bs_data]; rw [if_neg h3]; simp)
    have hbl : (blobS (atP st) dl).2.length ≤ 10000000 := by
      unfold blobS
      cases ha : atP st dl with
      | none => simp
      | some b =>
        simp only
        split
        · exact hsz dl b ha
        · simp
    unfold itV
    have Hbu := hide hbu
    have Hh := hide h
    clear hbu h hsz h3 hdg
    generalize blobS (atP st) dl = bb at *
    obtain ⟨be, b⟩ := bb
    simp only at hbl HE HD Hbu
    have hbz := bs_size b
    go_enter Tryz.func93, Tryz.ntmps93
    go_wp2_with fail
    refine (unhide Hbu).mono ?_
    rintro e w1 ⟨rfl, hb1⟩
    have hbt := (hb1.block w.heap.size (by simp)).trans hbk
    have k1 := cell_of_block (j := 1) hbt
    have k3 := cell_of_block (j := 3) hbt
    simp only [List.getElem?_toArray, List.getElem?_cons_zero, List.getElem?_cons_succ] at k1 k3
    have hbb : Below w.heap.size w w1 := hbA.trans (hb1.mono hbA.size)
    clear hbA hb1 hbk Hbu hbt
    by_cases he : be = 0
    · subst he
      by_cases hs : (b.length : Int) = sz
      · subst hs
        by_cases hk0 : kd = 0
        · subst hk0
          have hit := itemsOf_any b w1 (by unfold maxLen; omega)
          go_wp2_with fail
          refine hit.mono ?_
          rintro e w2 ⟨hb2, ⟨hd, rfl⟩ | ⟨items, v, hd, hf, hl2, rfl, ho⟩⟩
          · have hb3 := hbb.trans (hb2.mono hbb.size)
            have Hr := hide (show contE (atP st) ((sp p).length : Int) ⟨nm, 0, bs dl, (b.length : Int), tg⟩ = 8 by rw [unhide HE, hd]; simp)
            clear hd hit hb2
            go_wp2_with fail
            go_ret3
            exact ⟨hb3, .inl ⟨by rw [unhide Hr]; decide, by (rw [unhide Hr]; first | done | rfl)⟩⟩
          · have hb3 := hbb.trans (hb2.mono hbb.size)
            have Hr := hide (show contE (atP st) ((sp p).length : Int) ⟨nm, 0, bs dl, (b.length : Int), tg⟩ = 0 by rw [unhide HE, hd]; simp)
            have HI := hide (show contI (atP st) ⟨nm, 0, bs dl, (b.length : Int), tg⟩ = items by rw [(unhide HD).2, hd]; simp)
            have ho' : OwnsIt w2 w.heap.size v items := ⟨ho.1, ho.2.imp id (fun ⟨g, cap, cur, h1, h2, h3⟩ => ⟨g, cap, cur, h1, Nat.le_trans hbb.size h2, h3⟩)⟩
            clear hd hit hb2 ho
            go_wp2_with fail
            go_ret3
            exact ⟨hb3, .inr ⟨unhide Hr, v, by (rw [(unhide HD).1]; first | done | rfl), by rw [unhide HI]; exact ho', by rw [unhide HI]; exact hf⟩⟩
        · have b0 : (kd == 0) = false := by simpa using hk0
          have hwin := fun w' => within_any (b.length : Int) 0 60 w' (by decide)
          by_cases h60 : 60 < b.length
          · rw [show P.within (b.length : Int) 0 60 = false by unfold P.within; simp; omega] at hwin
            have Hr := hide (show contE (atP st) ((sp p).length : Int) ⟨nm, kd, bs dl, (b.length : Int), tg⟩ = 8 by rw [unhide HE, if_neg (by simp), if_pos (.inr ⟨hk0, h60⟩)])
            go_wp2_with (go_at_call 86; refine (hwin _).mono ?_; rintro e w' ⟨rfl, hw'⟩; rw [hw']; clear hw' w')
            go_ret3
            exact ⟨hbb, .inl ⟨by rw [unhide Hr]; decide, by (rw [unhide Hr]; first | done | rfl)⟩⟩
          · rw [show P.within (b.length : Int) 0 60 = true by unfold P.within; simp; omega] at hwin
            have Hr := hide (show contE (atP st) ((sp p).length : Int) ⟨nm, kd, bs dl, (b.length : Int), tg⟩ = 0 by rw [unhide HE, if_neg (by simp), if_neg (by rintro (h | h); exact h rfl; omega), if_neg hk0])
            have HI := hide (show contI (atP st) ⟨nm, kd, bs dl, (b.length : Int), tg⟩ = [] ∧ contD (atP st) ⟨nm, kd, bs dl, (b.length : Int), tg⟩ = bs b by rw [(unhide HD).2, (unhide HD).1, if_neg hk0, if_neg hk0]; exact ⟨rfl, rfl⟩)
            go_wp2_with (go_at_call 86; refine (hwin _).mono ?_; rintro e w' ⟨rfl, hw'⟩; rw [hw']; clear hw' w')
            go_ret3
            exact ⟨hbb, .inr ⟨unhide Hr, _, by (rw [(unhide HI).2]; first | done | rfl), by rw [(unhide HI).1]; exact World.ownsRow_nil _ _ _ _, by rw [(unhide HI).1]; intro i hi; simp at hi⟩⟩
      · have bs0 : ((b.length : Int) == sz) = false := by simpa using hs
        have Hr := hide (show contE (atP st) ((sp p).length : Int) ⟨nm, kd, bs dl, sz, tg⟩ = 8 by rw [unhide HE, if_neg (by simp), if_pos (.inl hs)])
        go_wp2_with fail
        go_ret3
        exact ⟨hbb, .inl ⟨by rw [unhide Hr]; decide, by (rw [unhide Hr]; first | done | rfl)⟩⟩
    · have be0 : (be == 0) = false := by simpa using he
      have Hr := hide (show contE (atP st) ((sp p).length : Int) ⟨nm, kd, bs dl, sz, tg⟩ = be by rw [unhide HE, if_pos he])
      go_wp2_with fail
      go_ret3
      exact ⟨hbb, .inl ⟨by rw [unhide Hr]; exact he, by (rw [unhide Hr]; first | done | rfl)⟩⟩
end Go.Proofs.YtjmacegibchplaaGreatDoor
