import Derived.Test.YtjmacegibchplaaGreatDoorPrD
import Derived.Test.YtjmacegibchplaaGreatDoorKeepD
import Derived.Test.YtjmacegibchplaaGreatDoorOfB
import Derived.Test.YtjmacegibchplaaGreatDoorFetR
import Derived.Test.YtjmacegibchplaaGreatDoorUpA
/-
  The program's Fetch: paths, and what stands under a digest.
-/
namespace Go.Proofs.YtjmacegibchplaaGreatDoor
open Go.RowKit Go.Maps Go.WideMaps
set_option linter.unusedVariables false

/-- what a directory's path is ahead of a name -/
theorem join_any (d n : List UInt8) (w : World) (hd : d.length ≤ 100000) (hn : n.length ≤ 100000) :
    Calls Tryz.prog 140 #[.string (bs d), .string (bs n)] w fun e w' => e = .returned (.string (bs (pre d ++ n))) ∧ w' = w := by
  by_cases h : d = []
  · subst h
    have e2 : (bs ([] : List UInt8)).toList.isEmpty = true := by rw [ByteArray.toList_eq, bs_data]; rfl
    have Hr := hide (show bs (pre [] ++ n) = bs n by rfl)
    go_enter Tryz.func140, Tryz.ntmps140
    go_wp2_with fail
    go_ret
    exact ⟨ret_string (unhide Hr).symm, rfl⟩
  · have e1 : ((bs d).toList == (⟨#[]⟩ : ByteArray).toList) = false := by
      have := str_eq2 d []
      rw [show (d == ([] : List UInt8)) = false by simpa using h] at this
      exact this
    have e2 : (bs d).toList.isEmpty = false := by rw [ByteArray.toList_eq, bs_data]; simpa using h
    have Hr := hide (show bs (pre d ++ n) = (bs d ++ (⟨#[47]⟩ : ByteArray)) ++ bs n by
      apply ByteArray.ext
      unfold pre
      rw [if_neg h]
      simp [bs, ByteArray.data_append])
    have hz1 := bs_size d
    have hz2 := bs_size n
    clear h
    go_enter Tryz.func140, Tryz.ntmps140
    go_wp2_with fail
    go_ret
    exact ⟨ret_string (unhide Hr).symm, rfl⟩
set_option maxRecDepth 100000 in
set_option maxHeartbeats 1000000 in
theorem blobUnder_any (st : List (List UInt8 × List UInt8)) (pb um n : Nat) (room : Int) (d : List UInt8) (w : World) (h : PStore w pb um n room st) (hd : d.length ≤ maxLen) (hsz : ∀ b, atP st d = some b → b.length ≤ 10000000) :
    Calls Tryz.prog 138 #[.pointer (some ⟨pb, 0, none⟩), .string (bs d)] w fun e w' => e = .returned (.tuple #[.string (bs (blobS (atP st) d).2), .int .i64 (blobS (atP st) d).1]) ∧ Below w.heap.size w w' := by
  have hget := get_any st pb um n room d w h hd hsz
  cases ha : atP st d with
  | none =>
    have h1 : getB st d = [] := by unfold getB; rw [ha]; rfl
    have h2 : getE st d = 7 := by unfold getE; rw [ha]; rfl
    have Hr := hide (show blobS (atP st) d = (7, []) by unfold blobS; rw [ha])
    rw [h1, h2] at hget
    clear ha h1 h2 hsz h
    go_enter Tryz.func138, Tryz.ntmps138
    go_wp2_with fail
    refine hget.mono ?_
    rintro e w1 ⟨rfl, hb1⟩
    go_wp2_with fail
    go_ret2
    exact ⟨by rw [unhide Hr]; rfl, hb1⟩
  | some b =>
    have h1 : getB st d = b := by unfold getB; rw [ha]; rfl
    have h2 : getE st d = 0 := by unfold getE; rw [ha]; rfl
    have hdg := fun w => tdig b w (hsz b ha)
    rw [h1, h2] at hget
    have hx := str_eq2 (P.digest b) d
    by_cases he : P.digest b = d
    · have Hr := hide (show blobS (atP st) d = (0, b) by unfold blobS; rw [ha]; simp [he])
      rw [show (P.digest b == d) = true by simpa using he] at hx
      clear ha h1 h2 hsz h he
      generalize P.digest b = D at *
      go_enter Tryz.func138, Tryz.ntmps138
      go_wp2_with fail
      refine hget.mono ?_
      rintro e w1 ⟨rfl, hb1⟩
      clear hget
      go_wp2_with fail
      refine (hdg _).mono ?_
      rintro e w2 ⟨rfl, hb2⟩
      have hbb := hb1.trans (hb2.mono hb1.size)
      clear hb1 hb2
      go_wp2_with fail
      go_ret2
      exact ⟨by rw [unhide Hr]; rfl, hbb⟩
    · have Hr := hide (show blobS (atP st) d = (8, []) by unfold blobS; rw [ha]; simp [he])
      rw [show (P.digest b == d) = false by simpa using he] at hx
      clear ha h1 h2 hsz h he
      generalize P.digest b = D at *
      go_enter Tryz.func138, Tryz.ntmps138
      go_wp2_with fail
      refine hget.mono ?_
      rintro e w1 ⟨rfl, hb1⟩
      clear hget
      go_wp2_with fail
      refine (hdg _).mono ?_
      rintro e w2 ⟨rfl, hb2⟩
      have hbb := hb1.trans (hb2.mono hb1.size)
      clear hb1 hb2
      go_wp2_with fail
      go_ret2
      exact ⟨by rw [unhide Hr]; rfl, hbb⟩
theorem itemsOf_any (l : List UInt8) (w : World) (hl : l.length ≤ maxLen) :
    Calls Tryz.prog 139 #[.string (bs l)] w fun e w' => Below w.heap.size w w' ∧ ((decOk l = none ∧ e = .returned (.tuple #[.slice none 0 0, .int .i64 8]))
      ∨ ∃ items v, decOk l = some items ∧ FitAll items ∧ items.length ≤ 255 ∧ e = .returned (.tuple #[v, .int .i64 0]) ∧ OwnsIt w' w.heap.size v items) := by
  go_enter Tryz.func139, Tryz.ntmps139
  go_wp2_with fail
  refine (dirDecode_any l w hl).mono ?_
  rintro e w1 ⟨hb, ⟨hd, rfl⟩ | ⟨items, v, hd, hf, hl2, rfl, ho⟩⟩
  · have Hd := hide hd
    clear hd
    go_wp2_with fail
    go_ret2
    exact ⟨hb, .inl ⟨unhide Hd, rfl⟩⟩
  · have Hd := hide hd
    clear hd
    go_wp2_with fail
    go_ret2
    exact ⟨hb, .inr ⟨items, _, unhide Hd, hf, hl2, rfl, ho⟩⟩
/-- what an item is in a call -/
def itV (x : P.It) : Value := .agg #[.string x.name, .int .i64 x.kind, .string x.dig, .int .i64 x.size, .string x.tgt]
set_option maxHeartbeats 1000000 in
theorem target_any (p : List UInt8) (x : P.It) (w : World) (hg : GlobOk w) (hp : p.length ≤ 1100000) (hd1 : (sp p).length ≤ 100) (hl : x.tgt.size ≤ 1100000) :
    Calls Tryz.prog 142 #[.string (bs p), itV x] w fun e w' => Below w.heap.size w w' ∧ e = .returned (if outP (((sp p).length : Int) - 1) x.tgt.data.toList = true then .tuple #[.string ⟨#[]⟩, .slice none 0 0, .int .i64 8] else .tuple #[.string x.tgt, .slice none 0 0, .int .i64 0]) := by
  obtain ⟨nm, kd, dg, sz, tg⟩ := x
  obtain ⟨t, rfl⟩ : ∃ t, tg = bs t := ⟨tg.data.toList, (bs_of tg).symm⟩
  simp only [bs_data, bs_size] at hl ⊢
  have hbA : Below w.heap.size w (w.alloc (.cells #[.string nm, .int .i64 kd, .string dg, .int .i64 sz, .string (bs t)] 47)) := (Below.refl _ _).alloc (Nat.le_refl _) _
  have hle := leads_any p t _ (hg.below hbA (Nat.le_refl _)) hp hd1 hl
  have hbk := heap_alloc_new w (.cells #[.string nm, .int .i64 kd, .string dg, .int .i64 sz, .string (bs t)] 47)
  unfold itV
  generalize hB : outP (((sp p).length : Int) - 1) t = B at *
  clear hB
  have Hle := hide hle
  clear hle
  go_enter Tryz.func142, Tryz.ntmps142
  go_wp2_with fail
  refine (unhide Hle).mono ?_
  rintro e w1 ⟨rfl, hb1⟩
  have k4 := cell_of_block (j := 4) ((hb1.block w.heap.size (by simp)).trans hbk)
  simp only [List.getElem?_toArray, List.getElem?_cons_zero, List.getElem?_cons_succ] at k4
  have hbb : Below w.heap.size w w1 := hbA.trans (hb1.mono hbA.size)
  clear hbA hb1 hbk Hle
  cases B with
  | true =>
    go_wp2_with fail
    go_ret3
    exact ⟨hbb, rfl⟩
  | false =>
    go_wp2_with fail
    go_ret3
    exact ⟨hbb, rfl⟩
end Go.Proofs.YtjmacegibchplaaGreatDoor

/-
  Fetch over plain lists, step by step as the program goes. No walk.
-/
namespace Go.Proofs.YtjmacegibchplaaGreatDoor
set_option linter.unusedVariables false

def contE (S : List UInt8 → Option (List UInt8)) (deep : Int) (x : P.It) : Int :=
  if x.kind = 3 then (if outP (deep - 1) x.tgt.data.toList = true then 8 else 0)
  else if (blobS S x.dig.data.toList).1 ≠ 0 then (blobS S x.dig.data.toList).1
  else if ((blobS S x.dig.data.toList).2.length : Int) ≠ x.size ∨ (x.kind ≠ 0 ∧ 60 < (blobS S x.dig.data.toList).2.length) then 8
  else if x.kind = 0 then (if (decOk (blobS S x.dig.data.toList).2).isSome then 0 else 8) else 0
def contD (S : List UInt8 → Option (List UInt8)) (x : P.It) : ByteArray := if x.kind = 3 then x.tgt else if x.kind = 0 then ⟨#[]⟩ else bs (blobS S x.dig.data.toList).2
def contI (S : List UInt8 → Option (List UInt8)) (x : P.It) : List P.It := if x.kind = 0 then (decOk (blobS S x.dig.data.toList).2).getD [] else []
def budQ (n : Nat) (ents dep deep : Int) : Bool := decide (min ents 40 < (n : Int) + 1) || decide (min dep 5 < deep)
theorem bud_iff (n : Nat) (ents dep deep : Int) (hn : n ≤ 40) : (ents < (n : Int) + 1 ∨ dep < deep ∨ n = 40 ∨ 5 < deep) ↔ budQ n ents dep deep = true := by
  unfold budQ
  rw [Bool.or_eq_true, decide_eq_true_eq, decide_eq_true_eq]
  omega
theorem fet_bud (S : List UInt8 → Option (List UInt8)) (ents dep : Int) (rec : List UInt8 → List UInt8 → List En → Int × List En) (d : List UInt8) (deep : Int) (x : P.It) (r : List P.It) (out : List En) (hn : out.length ≤ 40) (hb : budQ out.length ents dep deep = true) : fetItems S ents dep rec d deep (x :: r) out = (9, out) := by
  rw [fetItems, if_pos ((bud_iff _ _ _ _ hn).2 hb)]
theorem fet_err (S : List UInt8 → Option (List UInt8)) (ents dep : Int) (f : Nat) (d : List UInt8) (deep : Int) (x : P.It) (r : List P.It) (out : List En) (hn : out.length ≤ 40) (hb : budQ out.length ents dep deep = false) (hc : contE S deep x ≠ 0) : (fetItems S ents dep (belowF S ents dep (f + 1) (deep + 1)) d deep (x :: r) out).1 = contE S deep x := by
  have hb2 : ¬ (ents < (out.length : Int) + 1 ∨ dep < deep ∨ out.length = 40 ∨ 5 < deep) := fun h => by rw [(bud_iff _ _ _ _ hn).1 h] at hb; simp at hb
  rw [fetItems, if_neg hb2]
  unfold contE at hc ⊢
  by_cases h3 : x.kind = 3
  · rw [if_pos h3] at hc ⊢
    rw [if_pos h3]
    by_cases ho : outP (deep - 1) x.tgt.data.toList = true
    · rw [if_pos ho, if_pos ho]
    · rw [if_neg ho] at hc; exact absurd rfl hc
  · rw [if_neg h3] at hc ⊢
    rw [if_neg h3]
    by_cases h1 : (blobS S x.dig.data.toList).1 ≠ 0
    · rw [if_pos h1, if_pos h1]
    · rw [if_neg h1] at hc ⊢
      rw [if_neg h1]
      by_cases h2 : ((blobS S x.dig.data.toList).2.length : Int) ≠ x.size ∨ (x.kind ≠ 0 ∧ 60 < (blobS S x.dig.data.toList).2.length)
      · rw [if_pos h2, if_pos h2]
      · rw [if_neg h2] at hc ⊢
        rw [if_neg h2]
        by_cases h0 : x.kind = 0
        · rw [if_pos h0] at hc ⊢
          rw [if_neg (by simpa using h0)]
          cases hd : decOk (blobS S x.dig.data.toList).2 with
          | some l => rw [hd] at hc; simp at hc
          | none => simp [belowF, hd]
        · rw [if_neg h0] at hc; exact absurd rfl hc
theorem fet_step (S : List UInt8 → Option (List UInt8)) (ents dep : Int) (f : Nat) (d : List UInt8) (deep : Int) (x : P.It) (r : List P.It) (out : List En) (hn : out.length ≤ 40) (hb : budQ out.length ents dep deep = false) (hc : contE S deep x = 0) (hx : P.itemOk x = true) :
    fetItems S ents dep (belowF S ents dep (f + 1) (deep + 1)) d deep (x :: r) out =
      (if (fetItems S ents dep (belowF S ents dep f (deep + 1 + 1)) (pre d ++ x.name.data.toList) (deep + 1) (contI S x) (out ++ [⟨bs (pre d ++ x.name.data.toList), x.kind, contD S x⟩])).1 ≠ 0
        then fetItems S ents dep (belowF S ents dep f (deep + 1 + 1)) (pre d ++ x.name.data.toList) (deep + 1) (contI S x) (out ++ [⟨bs (pre d ++ x.name.data.toList), x.kind, contD S x⟩])
        else fetItems S ents dep (belowF S ents dep (f + 1) (deep + 1)) d deep r (fetItems S ents dep (belowF S ents dep f (deep + 1 + 1)) (pre d ++ x.name.data.toList) (deep + 1) (contI S x) (out ++ [⟨bs (pre d ++ x.name.data.toList), x.kind, contD S x⟩])).2) := by
  have hb2 : ¬ (ents < (out.length : Int) + 1 ∨ dep < deep ∨ out.length = 40 ∨ 5 < deep) := fun h => by rw [(bud_iff _ _ _ _ hn).1 h] at hb; simp at hb
  rw [fetItems, if_neg hb2]
  unfold contE at hc
  by_cases h3 : x.kind = 3
  · rw [if_pos h3] at hc ⊢
    have ho : ¬ outP (deep - 1) x.tgt.data.toList = true := fun h => by rw [if_pos h] at hc; simp at hc
    rw [if_neg ho]
    have hI : contI S x = [] := by unfold contI; rw [if_neg (by omega)]
    have hD : contD S x = x.tgt := by unfold contD; rw [if_pos h3]
    rw [hI, hD, h3]
    simp [fetItems]
  · rw [if_neg h3] at hc ⊢
    have h1 : ¬ (blobS S x.dig.data.toList).1 ≠ 0 := fun h => by rw [if_pos h] at hc; exact h hc
    rw [if_neg h1] at hc ⊢
    have h2 : ¬ (((blobS S x.dig.data.toList).2.length : Int) ≠ x.size ∨ (x.kind ≠ 0 ∧ 60 < (blobS S x.dig.data.toList).2.length)) := fun h => by rw [if_pos h] at hc; simp at hc
    rw [if_neg h2] at hc ⊢
    by_cases h0 : x.kind = 0
    · rw [if_pos h0] at hc
      rw [if_neg (by simpa using h0)]
      have htg := (ok_plain x hx h3).1
      have hD : contD S x = ⟨#[]⟩ := by unfold contD; rw [if_neg h3, if_pos h0]
      cases hd : decOk (blobS S x.dig.data.toList).2 with
      | none => rw [hd] at hc; simp at hc
      | some l =>
        have hI : contI S x = l := by unfold contI; rw [if_pos h0, hd]; rfl
        rw [hI, hD, h0, htg]
        simp only [belowF, hd]
    · rw [if_pos (by simpa using h0)]
      have hI : contI S x = [] := by unfold contI; rw [if_neg h0]
      have hD : contD S x = bs (blobS S x.dig.data.toList).2 := by unfold contD; rw [if_neg h3, if_neg h0]
      rw [hI, hD]
      simp [fetItems]
/-- what is in a directory that was met is items -/
theorem contI_ok (S : List UInt8 → Option (List UInt8)) (x y : P.It) (h : y ∈ contI S x) : P.itemOk y = true := by
  unfold contI at h
  split at h
  · cases hd : decOk (blobS S x.dig.data.toList).2 with
    | none => rw [hd] at h; simp at h
    | some l =>
      rw [hd] at h
      exact dir_each l ((decOk_iff _ _).1 hd).1 y h
  · simp at h
end Go.Proofs.YtjmacegibchplaaGreatDoor

/-
  The program's Fetch: what an item tells of.
-/
namespace Go.Proofs.YtjmacegibchplaaGreatDoor
open Go.RowKit Go.Maps Go.WideMaps
set_option linter.unusedVariables false

def ContEnd (S : List UInt8 → Option (List UInt8)) (deep : Int) (x : P.It) (w : World) (e : Ending) (w' : World) : Prop :=
  Below w.heap.size w w' ∧ ((contE S deep x ≠ 0 ∧ e = .returned (.tuple #[.string ⟨#[]⟩, .slice none 0 0, .int .i64 (contE S deep x)])) ∨ (contE S deep x = 0 ∧ ∃ v, e = .returned (.tuple #[.string (contD S x), v, .int .i64 0]) ∧ OwnsIt w' w.heap.size v (contI S x) ∧ FitAll (contI S x)))
set_option maxRecDepth 100000 in
set_option maxHeartbeats 2000000 in
theorem content_any (st : List (List UInt8 × List UInt8)) (pb um n : Nat) (room : Int) (p : List UInt8) (x : P.It) (w : World) (h : PStore w pb um n room st) (hg : GlobOk w) (hp : p.length ≤ 1100000) (hd1 : (sp p).length ≤ 100) (hl : x.tgt.size ≤ 1100000) (hdg : x.dig.size ≤ maxLen) (hsz : ∀ d b, atP st d = some b → b.length ≤ 10000000) :
    Calls Tryz.prog 93 #[.pointer (some ⟨pb, 0, none⟩), .string (bs p), itV x] w fun e w' => ContEnd (atP st) ((sp p).length : Int) x w e w' := by
  obtain ⟨nm, kd, dg, sz, tg⟩ := x
  obtain ⟨dl, rfl⟩ : ∃ dl, dg = bs dl := ⟨dg.data.toList, (bs_of dg).symm⟩
  simp only at hl hdg
  rw [bs_size] at hdg
  have hbA : Below w.heap.size w (w.alloc (.cells #[.string nm, .int .i64 kd, .string (bs dl), .int .i64 sz, .string tg] 47)) := (Below.refl _ _).alloc (Nat.le_refl _) _
  have hbk := heap_alloc_new w (.cells #[.string nm, .int .i64 kd, .string (bs dl), .int .i64 sz, .string tg] 47)
  by_cases h3 : kd = 3
  · subst h3
    have htg := target_any p ⟨nm, 3, bs dl, sz, tg⟩ _ (hg.below hbA (Nat.le_refl _)) hp hd1 hl
    unfold itV at htg ⊢
    have HE := hide (show contE (atP st) ((sp p).length : Int) ⟨nm, 3, bs dl, sz, tg⟩ = (if outP (((sp p).length : Int) - 1) tg.data.toList = true then 8 else 0) from rfl)
    have HD := hide (show contD (atP st) ⟨nm, 3, bs dl, sz, tg⟩ = tg ∧ contI (atP st) ⟨nm, 3, bs dl, sz, tg⟩ = [] from ⟨rfl, rfl⟩)
    simp only at htg
    have Ht := hide htg
    clear htg hbk h hsz
    generalize hB : outP (((sp p).length : Int) - 1) tg.data.toList = B at *
    cases B with
    | true =>
      go_enter Tryz.func93, Tryz.ntmps93
      go_wp2_with fail
      refine (unhide Ht).mono ?_
      rintro e w1 ⟨hb1, rfl⟩
      have hbb := hbA.trans (hb1.mono hbA.size)
      clear Ht hb1
      simp only [if_true]
      go_wp2_with fail
      go_ret3
      exact ⟨hbb, .inl ⟨by rw [unhide HE]; simp, by rw [unhide HE]; rfl⟩⟩
    | false =>
      go_enter Tryz.func93, Tryz.ntmps93
      go_wp2_with fail
      refine (unhide Ht).mono ?_
      rintro e w1 ⟨hb1, rfl⟩
      have hbb := hbA.trans (hb1.mono hbA.size)
      clear Ht hb1
      simp only [Bool.false_eq_true, if_false]
      go_wp2_with fail
      go_ret3
      exact ⟨hbb, .inr ⟨by rw [unhide HE]; simp, _, by (rw [(unhide HD).1]; first | done | rfl), by rw [(unhide HD).2]; exact World.ownsRow_nil _ _ _ _, by rw [(unhide HD).2]; intro i hi; simp at hi⟩⟩
  · have b3 : (kd == 3) = false := by simpa using h3
    have hbu := blobUnder_any st pb um n room dl _ (h.below hbA (Nat.le_refl _)) hdg (hsz dl)
    have HE := hide (show contE (atP st) ((sp p).length : Int) ⟨nm, kd, bs dl, sz, tg⟩ = (if (blobS (atP st) dl).1 ≠ 0 then (blobS (atP st) dl).1
      else if ((blobS (atP st) dl).2.length : Int) ≠ sz ∨ (kd ≠ 0 ∧ 60 < (blobS (atP st) dl).2.length) then 8
      else if kd = 0 then (if (decOk (blobS (atP st) dl).2).isSome then 0 else 8) else 0) by unfold contE; simp only [bs_data]; rw [if_neg h3])
    have HD := hide (show contD (atP st) ⟨nm, kd, bs dl, sz, tg⟩ = (if kd = 0 then ⟨#[]⟩ else bs (blobS (atP st) dl).2) ∧ contI (atP st) ⟨nm, kd, bs dl, sz, tg⟩ = (if kd = 0 then (decOk (blobS (atP st) dl).2).getD [] else []) by unfold contD contI; simp only [bs_data]; rw [if_neg h3]; simp)
    have hbl : (blobS (atP st) dl).2.length ≤ 10000000 := by
      unfold blobS
      cases ha : atP st dl with
      | none => simp
      | some b =>
        simp only
        split
        · exact hsz dl b ha
        · simp
    unfold itV
    have Hbu := hide hbu
    have Hh := hide h
    clear hbu h hsz h3 hdg
    generalize blobS (atP st) dl = bb at *
    obtain ⟨be, b⟩ := bb
    simp only at hbl HE HD Hbu
    have hbz := bs_size b
    go_enter Tryz.func93, Tryz.ntmps93
    go_wp2_with fail
    refine (unhide Hbu).mono ?_
    rintro e w1 ⟨rfl, hb1⟩
    have hbt := (hb1.block w.heap.size (by simp)).trans hbk
    have k1 := cell_of_block (j := 1) hbt
    have k3 := cell_of_block (j := 3) hbt
    simp only [List.getElem?_toArray, List.getElem?_cons_zero, List.getElem?_cons_succ] at k1 k3
    have hbb : Below w.heap.size w w1 := hbA.trans (hb1.mono hbA.size)
    clear hbA hb1 hbk Hbu hbt
    by_cases he : be = 0
    · subst he
      by_cases hs : (b.length : Int) = sz
      · subst hs
        by_cases hk0 : kd = 0
        · subst hk0
          have hit := itemsOf_any b w1 (by unfold maxLen; omega)
          go_wp2_with fail
          refine hit.mono ?_
          rintro e w2 ⟨hb2, ⟨hd, rfl⟩ | ⟨items, v, hd, hf, hl2, rfl, ho⟩⟩
          · have hb3 := hbb.trans (hb2.mono hbb.size)
            have Hr := hide (show contE (atP st) ((sp p).length : Int) ⟨nm, 0, bs dl, (b.length : Int), tg⟩ = 8 by rw [unhide HE, hd]; simp)
            clear hd hit hb2
            go_wp2_with fail
            go_ret3
            exact ⟨hb3, .inl ⟨by rw [unhide Hr]; decide, by (rw [unhide Hr]; first | done | rfl)⟩⟩
          · have hb3 := hbb.trans (hb2.mono hbb.size)
            have Hr := hide (show contE (atP st) ((sp p).length : Int) ⟨nm, 0, bs dl, (b.length : Int), tg⟩ = 0 by rw [unhide HE, hd]; simp)
            have HI := hide (show contI (atP st) ⟨nm, 0, bs dl, (b.length : Int), tg⟩ = items by rw [(unhide HD).2, hd]; simp)
            have ho' : OwnsIt w2 w.heap.size v items := ⟨ho.1, ho.2.imp id (fun ⟨g, cap, cur, h1, h2, h3⟩ => ⟨g, cap, cur, h1, Nat.le_trans hbb.size h2, h3⟩)⟩
            clear hd hit hb2 ho
            go_wp2_with fail
            go_ret3
            exact ⟨hb3, .inr ⟨unhide Hr, v, by (rw [(unhide HD).1]; first | done | rfl), by rw [unhide HI]; exact ho', by rw [unhide HI]; exact hf⟩⟩
        · have b0 : (kd == 0) = false := by simpa using hk0
          have hwin := fun w' => within_any (b.length : Int) 0 60 w' (by decide)
          by_cases h60 : 60 < b.length
          · rw [show P.within (b.length : Int) 0 60 = false by unfold P.within; simp; omega] at hwin
            have Hr := hide (show contE (atP st) ((sp p).length : Int) ⟨nm, kd, bs dl, (b.length : Int), tg⟩ = 8 by rw [unhide HE, if_neg (by simp), if_pos (.inr ⟨hk0, h60⟩)])
            go_wp2_with (go_at_call 86; refine (hwin _).mono ?_; rintro e w' ⟨rfl, hw'⟩; rw [hw']; clear hw' w')
            go_ret3
            exact ⟨hbb, .inl ⟨by rw [unhide Hr]; decide, by (rw [unhide Hr]; first | done | rfl)⟩⟩
          · rw [show P.within (b.length : Int) 0 60 = true by unfold P.within; simp; omega] at hwin
            have Hr := hide (show contE (atP st) ((sp p).length : Int) ⟨nm, kd, bs dl, (b.length : Int), tg⟩ = 0 by rw [unhide HE, if_neg (by simp), if_neg (by rintro (h | h); exact h rfl; omega), if_neg hk0])
            have HI := hide (show contI (atP st) ⟨nm, kd, bs dl, (b.length : Int), tg⟩ = [] ∧ contD (atP st) ⟨nm, kd, bs dl, (b.length : Int), tg⟩ = bs b by rw [(unhide HD).2, (unhide HD).1, if_neg hk0, if_neg hk0]; exact ⟨rfl, rfl⟩)
            go_wp2_with (go_at_call 86; refine (hwin _).mono ?_; rintro e w' ⟨rfl, hw'⟩; rw [hw']; clear hw' w')
            go_ret3
            exact ⟨hbb, .inr ⟨unhide Hr, _, by (rw [(unhide HI).2]; first | done | rfl), by rw [(unhide HI).1]; exact World.ownsRow_nil _ _ _ _, by rw [(unhide HI).1]; intro i hi; simp at hi⟩⟩
      · have bs0 : ((b.length : Int) == sz) = false := by simpa using hs
        have Hr := hide (show contE (atP st) ((sp p).length : Int) ⟨nm, kd, bs dl, sz, tg⟩ = 8 by rw [unhide HE, if_neg (by simp), if_pos (.inl hs)])
        go_wp2_with fail
        go_ret3
        exact ⟨hbb, .inl ⟨by rw [unhide Hr]; decide, by (rw [unhide Hr]; first | done | rfl)⟩⟩
    · have be0 : (be == 0) = false := by simpa using he
      have Hr := hide (show contE (atP st) ((sp p).length : Int) ⟨nm, kd, bs dl, sz, tg⟩ = be by rw [unhide HE, if_pos he])
      go_wp2_with fail
      go_ret3
      exact ⟨hbb, .inl ⟨by rw [unhide Hr]; exact he, by (rw [unhide Hr]; first | done | rfl)⟩⟩
end Go.Proofs.YtjmacegibchplaaGreatDoor

/-
  The program's Fetch: an item is visited (the closure of Tree).
-/
namespace Go.Proofs.YtjmacegibchplaaGreatDoor
open Go.RowKit Go.Maps Go.WideMaps
set_option linter.unusedVariables false

/-- what a fetch holds in memory: the list, its bounds, the store -/
structure FSt (w : World) (base bl be bd bf : Nat) (v : Value) (out : List En) (ents dep : Int) (pb um n : Nat) (room : Int) (st : List (List UInt8 × List UInt8)) : Prop where
  l : w.heap[bl]? = some (.cells #[v] 22 (0, 0))
  own : OwnsE w base v out
  e : w.heap[be]? = some (.cells #[.int .i64 (min ents 40)] 3 (0, 0))
  d : w.heap[bd]? = some (.cells #[.int .i64 (min dep 5)] 3 (0, 0))
  f : w.heap[bf]? = some (.cells #[.pointer (some ⟨pb, 0, none⟩)] 95 (0, 0))
  s : PStore w pb um n room st
  g : GlobOk w
  len : out.length ≤ 40
  bas : base ≤ w.heap.size
  gb : 0 < base
  bb : base ≤ bl
section
variable {w w' : World} {base bl be bd bf : Nat} {v : Value} {out : List En} {ents dep : Int} {pb um n : Nat} {room : Int} {st : List (List UInt8 × List UInt8)}
theorem FSt.below (h : FSt w base bl be bd bf v out ents dep pb um n room st) (hb : Below w.heap.size w w') : FSt w' base bl be bd bf v out ents dep pb um n room st :=
  ⟨(hb.block _ (Array.getElem?_eq_some_iff.1 h.l).1).trans h.l, ownsRow_same h.own (fun g hg => hb.block g (own_lt h.own hg)), (hb.block _ (Array.getElem?_eq_some_iff.1 h.e).1).trans h.e, (hb.block _ (Array.getElem?_eq_some_iff.1 h.d).1).trans h.d, (hb.block _ (Array.getElem?_eq_some_iff.1 h.f).1).trans h.f, h.s.below hb (Nat.le_refl _), h.g.below hb (Nat.le_refl _), h.len, Nat.le_trans h.bas hb.size, h.gb, h.bb⟩
/-- an entry more -/
theorem FSt.push {w4 : World} {v4 : Value} {y : En} (o : Obj) (h : FSt w base bl be bd bf v out ents dep pb um n room st) (hlt : out.length + 1 ≤ 40) (hg4 : (w.alloc o).grownBy w4 v.ownBlock) (ho : OwnsE w4 base v4 (out ++ [y])) :
    FSt (w4.setCell ⟨bl, 0, none⟩ v4) base bl be bd bf v4 (out ++ [y]) ents dep pb um n room st ∧ Fr (fun b => b = bl ∨ v.ownBlock = some b) w (w4.setCell ⟨bl, 0, none⟩ v4) := by
  have hfr : Fr (fun b => b = bl ∨ v.ownBlock = some b) w (w4.setCell ⟨bl, 0, none⟩ v4) := by
    refine ⟨?_, ?_, ?_, ?_, fun b hb hn => ?_⟩
    · exact hg4.os
    · exact hg4.tape
    · exact hg4.output
    · have := hg4.size; simp at this ⊢; omega
    · refine (Below.heap_setCell _ _ _ _ (fun e => hn (.inl e))).trans ((hg4.block b (by simp; omega) (fun e => hn (.inr e.symm))).trans (Below.heap_alloc w o b hb))
  have keep : ∀ (b : Nat) (t : TypeId) (cur : Array Value), w.heap[b]? = some (Obj.cells cur t (0, 0)) → t ≠ 22 → t ≠ 32 → (w4.setCell ⟨bl, 0, none⟩ v4).heap[b]? = some (Obj.cells cur t (0, 0)) := by
    intro b t cur hb h1 h2
    refine (hfr.block b (Array.getElem?_eq_some_iff.1 hb).1 ?_).trans hb
    rintro (e | e)
    · rw [e, h.l] at hb; simp at hb; exact h1 hb.2.symm
    · exact own_cells h.own e hb h2 rfl
  have hbl4 : w4.heap[bl]? = some (.cells #[v] 22 (0, 0)) := (hg4.block bl (by have := (Array.getElem?_eq_some_iff.1 h.l).1; simp; omega) (fun e => own_cells h.own e.symm h.l (by decide) rfl)).trans ((Below.heap_alloc w o bl (Array.getElem?_eq_some_iff.1 h.l).1).trans h.l)
  have hums : (w4.setCell ⟨bl, 0, none⟩ v4).heap[um]? = w.heap[um]? := by
    refine hfr.block um (h.s.lt um (.inr rfl)) ?_
    rintro (e | e)
    · exact map_ne_cells h.s.m h.l e.symm
    · exact map_not_row h.s.m h.own e.symm
  refine ⟨⟨heap_set0 _ hbl4, ?_, keep _ _ _ h.e (by decide) (by decide), keep _ _ _ h.d (by decide) (by decide), keep _ _ _ h.f (by decide) (by decide), ⟨keep _ _ _ h.s.s (by decide) (by decide), h.s.m.same hums, h.s.k⟩, ?_, by simpa using hlt, Nat.le_trans h.bas hfr.size, h.gb, h.bb⟩, hfr⟩
  · refine ownsRow_same ho (fun g hg => Below.heap_setCell _ _ _ _ ?_)
    exact own_cells ho hg hbl4 (by decide)
  · obtain ⟨m, hm⟩ := h.g
    refine ⟨m, cell_fr hfr hm ?_⟩
    rintro (e | e)
    · have := h.gb; have := h.bb; omega
    · have := (World.ownsRow.lt h.own _ e).1; have := h.gb; omega
end
def budP (out : List En) (ents dep : Int) (p : List UInt8) : Bool := budQ out.length ents dep ((sp p).length : Int)
def VisEnd (w : World) (base bl be bd bf : Nat) (v : Value) (out : List En) (ents dep : Int) (pb um n : Nat) (room : Int) (st : List (List UInt8 × List UInt8)) (p : List UInt8) (x : P.It) (e : Ending) (w' : World) : Prop :=
  (budP out ents dep p = true ∧ e = .returned (.tuple #[.slice none 0 0, .int .i64 9]) ∧ Below w.heap.size w w') ∨
  (budP out ents dep p = false ∧ contE (atP st) ((sp p).length : Int) x ≠ 0 ∧ e = .returned (.tuple #[.slice none 0 0, .int .i64 (contE (atP st) ((sp p).length : Int) x)]) ∧ Below w.heap.size w w') ∨
  (budP out ents dep p = false ∧ contE (atP st) ((sp p).length : Int) x = 0 ∧ ∃ vi v', e = .returned (.tuple #[vi, .int .i64 0]) ∧ OwnsIt w' w.heap.size vi (contI (atP st) x) ∧ FitAll (contI (atP st) x) ∧
    FSt w' base bl be bd bf v' (out ++ [⟨bs p, x.kind, contD (atP st) x⟩]) ents dep pb um n room st ∧ Fr (fun b => b = bl ∨ v.ownBlock = some b) w w' ∧ (v'.ownBlock = v.ownBlock ∨ ∃ g, v'.ownBlock = some g ∧ w.heap.size ≤ g))
/-- 'append(l, e)', l the call's own entries; where the new row lies -/
theorem app_entry_at {w : World} {ops : Array Oper} {rest : List Oper} {o : Oper} {a : Act} {Q : Exit → Act → World → Prop} (hgd : o.guard = none) (s x : Operand)
    (ho : o.op = .call { callee := .builtin .append, args := #[s, x], argTypes := #[22, 22] }) (base : Nat) (v : Value) (l : List En) (hs : a.eval s = v) (hown : OwnsE w base v l)
    (ad : Addr) (y : En) (hx : a.eval x = .slice (some ad) 1 1) (hnews : ∀ j u, (enCells y)[j]? = some u → w.cell? (ad.add j) = some u)
    (hlen : l.length ≤ 1000000) (hbase : base ≤ w.heap.size)
    (h : ∀ v' w', OwnsE w' base v' (l ++ [y]) → w.grownBy w' v.ownBlock → (v'.ownBlock = v.ownBlock ∨ v'.ownBlock = some w.heap.size) → wpList Tryz.prog ops Q rest (a.put o.dst v') w') : wpList Tryz.prog ops Q (o :: rest) a w := by
  obtain ⟨i0, hi, hz0, hz1, hz2⟩ := info_parts info_ent
  refine wpList_plain hgd fun K' hK' => ?_
  obtain ⟨v', w', hrun, r1, r2, _, r4⟩ := run_append_own_at (P := Tryz.prog) w base 22 o.type 32 i0 _ 3 40 Tryz.underlying22 hi hz0 hz1 hz2 rfl (by decide) v l.length (rowCells enCells l) hown ad 1 1 (enCells y) rfl hnews (fun u hu => enCells_one [y] u (by simpa [rowCells] using hu)) (by unfold maxLen; omega) (by omega) hbase
  unfold Oper.wp
  simp [execOp, ho, resolve, invoke, builtin, hs, hx, hrun, Result.andThen]
  refine hK' _ _ (h v' w' ?_ r2 r4)
  unfold OwnsE
  rw [show rowCells enCells (l ++ [y]) = rowCells enCells l ++ enCells y by simp [rowCells], List.length_append]
  exact r1
set_option maxRecDepth 100000 in
set_option maxHeartbeats 4000000 in
theorem visit_any (w : World) (base bl be bd bf : Nat) (v : Value) (out : List En) (ents dep : Int) (pb um n : Nat) (room : Int) (st : List (List UInt8 × List UInt8)) (p : List UInt8) (x : P.It) (h : FSt w base bl be bd bf v out ents dep pb um n room st) (hp : p.length ≤ 100000) (hd1 : (sp p).length ≤ 100) (hl : x.tgt.size ≤ 1100000) (hdg : x.dig.size ≤ maxLen) (hsz : ∀ d b, atP st d = some b → b.length ≤ 10000000) :
    Calls Tryz.prog 91 #[.string (bs p), itV x, ptr bl, ptr be, ptr bd, ptr bf] w fun e w' => VisEnd w base bl be bd bf v out ents dep pb um n room st p x e w' := by
  obtain ⟨a0, c0, rfl⟩ := row_shape h.own
  obtain ⟨xn, xk, xd, xs, xt⟩ := x
  simp only at hl hdg
  have hbA : Below w.heap.size w (w.alloc (.cells #[.string xn, .int .i64 xk, .string xd, .int .i64 xs, .string xt] 47)) := (Below.refl _ _).alloc (Nat.le_refl _) _
  have hbk := heap_alloc_new w (.cells #[.string xn, .int .i64 xk, .string xd, .int .i64 xs, .string xt] 47)
  have hA := h.below hbA
  have hdp := fun w' => depth_any p w' (by omega)
  have hlen := h.len
  have hct := fun W (hW : FSt W base bl be bd bf (.slice a0 out.length c0) out ents dep pb um n room st) => content_any st pb um n room p ⟨xn, xk, xd, xs, xt⟩ W hW.s hW.g (by omega) hd1 hl hdg hsz
  have k0 := cell_of_block (j := 0) hA.l
  have k1 := cell_of_block (j := 0) hA.e
  have k2 := cell_of_block (j := 0) hA.d
  have k3 := cell_of_block (j := 0) hA.f
  simp only [List.getElem?_toArray, List.getElem?_cons_zero] at k0 k1 k2 k3
  have hmin1 : min ents 40 ≤ 40 := by omega
  have hbs := h.bas
  unfold ContEnd at hct
  unfold itV at hct ⊢
  unfold VisEnd budP budQ
  simp only at hct ⊢
  generalize hce : contE (atP st) ((sp p).length : Int) ⟨xn, xk, xd, xs, xt⟩ = ce at *
  generalize hcd : contD (atP st) ⟨xn, xk, xd, xs, xt⟩ = cd at *
  generalize hci : contI (atP st) ⟨xn, xk, xd, xs, xt⟩ = ci at *
  have Hct := hide hct
  have HA := hide hA
  clear hct hA h hsz hce hcd hci
  generalize hq : (sp p).length = dq at *
  clear hq
  unfold ptr
  by_cases c1 : min ents 40 < (out.length : Int) + 1
  · rw [decide_eq_true c1, Bool.true_or]
    generalize min ents 40 = me at *
    generalize min dep 5 = md at *
    go_enter Tryz.func91, Tryz.ntmps91
    go_wp2_with fail
    go_quiet (fail)
    go_wp2_with fail
    go_ret2
    exact .inl ⟨by first | trivial | rfl, rfl, below_drewN hbA _⟩
  · have hwr : IntKind.i64.wrap ((out.length : Int) + 1) = (out.length : Int) + 1 := by rw [IntKind.wrap_i64]; omega
    have g1 : decide (min ents 40 < (out.length : Int) + 1) = false := decide_eq_false c1
    have g2 : decide (min ents 40 < IntKind.i64.wrap ((out.length : Int) + 1)) = false := by rw [hwr]; exact g1
    clear hwr
    rw [decide_eq_false c1, Bool.false_or]
    by_cases c2 : min dep 5 < (dq : Int)
    · rw [decide_eq_true c2]
      generalize min ents 40 = me at *
      generalize min dep 5 = md at *
      go_enter Tryz.func91, Tryz.ntmps91
      go_wp2_with fail
      go_quiet ((go_at_call 92; exact Calls.quiet_of_same (hdp _)))
      go_wp2_with fail
      go_ret2
      exact .inl ⟨by first | trivial | rfl, rfl, below_drewN hbA _⟩
    · rw [decide_eq_false c2]
      have hlt : out.length + 1 ≤ 40 := by omega
      generalize min ents 40 = me at *
      generalize min dep 5 = md at *
      go_enter Tryz.func91, Tryz.ntmps91
      go_wp2_with fail
      go_quiet ((go_at_call 92; exact Calls.quiet_of_same (hdp _)))
      obtain ⟨W8, hW8⟩ : ∃ W8, (w.alloc (.cells #[.string xn, .int .i64 xk, .string xd, .int .i64 xs, .string xt] 47)).drewN nq = W8 := ⟨_, rfl⟩
      have hF8 : FSt W8 base bl be bd bf (.slice a0 out.length c0) out ents dep pb um n room st := by rw [← hW8]; exact (unhide HA).below (below_drewN (Below.refl _ _) _)
      have hb8 : Below w.heap.size w W8 := by rw [← hW8]; exact below_drewN hbA _
      have hk8 : W8.heap[w.heap.size]? = some (.cells #[.string xn, .int .i64 xk, .string xd, .int .i64 xs, .string xt] 47 (0, 0)) := by rw [← hW8]; exact hbk
      rw [hW8]
      clear hW8 HA hbA hbk k0 k1 k2 k3 hdp
      have j0 := cell_of_block (j := 0) hk8
      have j1 := cell_of_block (j := 1) hk8
      have j2 := cell_of_block (j := 2) hk8
      have j3 := cell_of_block (j := 3) hk8
      have j4 := cell_of_block (j := 4) hk8
      have k3 := cell_of_block (j := 0) hF8.f
      simp only [List.getElem?_toArray, List.getElem?_cons_zero, List.getElem?_cons_succ] at j0 j1 j2 j3 j4 k3
      go_wp2_with fail
      refine (unhide Hct W8 hF8).mono ?_
      rintro e w2 ⟨hb2, ⟨hce, rfl⟩ | ⟨hce, vi, rfl, hoi, hfi⟩⟩
      · have hbb := hb8.trans (hb2.mono hb8.size)
        have bce : (ce == 0) = false := by simpa using hce
        clear hF8 hb8 hk8 j0 j1 j2 j3 j4 k3 hb2 Hct
        go_wp2_with fail
        go_ret2
        exact .inr (.inl ⟨by first | trivial | rfl, hce, rfl, hbb⟩)
      · have hF2 := hF8.below hb2
        have hk2 := (hb2.block _ (Array.getElem?_eq_some_iff.1 hk8).1).trans hk8
        have hbb := hb8.trans (hb2.mono hb8.size)
        have i1 := cell_of_block (j := 1) hk2
        have l0 := cell_of_block (j := 0) hF2.l
        simp only [List.getElem?_toArray, List.getElem?_cons_zero, List.getElem?_cons_succ] at i1 l0
        have hz2 := hF2.bas
        have H2 := hide (And.intro hF2 (And.intro hoi (And.intro hfi hb8)))
        have hown2 := hF2.own
        clear hF8 hk8 j0 j1 j2 j3 j4 k3 hb2 Hct hF2 hoi hfi hb8
        subst hce
        go_wp2_with (at_builtin; refine app_entry_at rfl (.tmp 35) (.tmp 41) rfl base _ out rfl (World.ownsRow.alloc hown2 _) ⟨w2.heap.size, 0, none⟩ ⟨bs p, xk, cd⟩ rfl ?qa ?qb ?qc ?_)
        case qa =>
          intro j u hu
          have hbk := heap_alloc_new w2 (.cells #[.string (bs p), .int .i64 xk, .string cd] 32)
          rw [add_off0]
          match j, hu with
          | 0, hu => simp [enCells] at hu; subst hu; exact cell_of_block hbk
          | 1, hu => simp [enCells] at hu; subst hu; exact cell_of_block hbk
          | 2, hu => simp [enCells] at hu; subst hu; exact cell_of_block hbk
          | j + 3, hu => simp [enCells] at hu
        case qb => omega
        case qc => simp; omega
        intro v4 w4 ho4 g4 hloc
        obtain ⟨a4, c4, hv4⟩ := row_shape ho4
        rw [List.length_append, List.length_singleton] at hv4
        subst hv4
        obtain ⟨hF2, hoi, hfi, hb8⟩ := unhide H2
        have hbl4 : w4.heap[bl]? = some (.cells #[.slice a0 out.length c0] 22 (0, 0)) := (g4.block bl (by have := (Array.getElem?_eq_some_iff.1 hF2.l).1; simp; omega) (fun e => own_cells hF2.own e.symm hF2.l (by decide) rfl)).trans ((Below.heap_alloc w2 _ bl (Array.getElem?_eq_some_iff.1 hF2.l).1).trans hF2.l)
        have m0 := cell_of_block (j := 0) hbl4
        have f0 := free_block (j := 0) hbl4
        simp only [List.getElem?_toArray, List.getElem?_cons_zero] at m0
        obtain ⟨hP, hPf⟩ := hF2.push _ hlt g4 ho4
        have hoi4 : OwnsIt (w4.setCell ⟨bl, 0, none⟩ (.slice a4 (out.length + 1) c4)) w.heap.size vi ci := by
          have h1 : OwnsIt (w4.setCell ⟨bl, 0, none⟩ (.slice a4 (out.length + 1) c4)) W8.heap.size vi ci := own_fr hoi hPf (by
            rintro g hg (e | e)
            · exact own_cells hoi hg hF2.l (by decide) e
            · exact own_types hoi hF2.own (by decide) hg e)
          exact ⟨h1.1, h1.2.imp id (fun ⟨g, cap, cur, q1, q2, q3⟩ => ⟨g, cap, cur, q1, Nat.le_trans hb8.size q2, q3⟩)⟩
        have hloc4 : (Value.slice a4 (out.length + 1) c4).ownBlock = (Value.slice a0 out.length c0).ownBlock ∨ ∃ g, (Value.slice a4 (out.length + 1) c4).ownBlock = some g ∧ w.heap.size ≤ g := hloc.imp id (fun e => ⟨_, e, by have := hbb.size; simp; omega⟩)
        have hfr4 : Fr (fun b => b = bl ∨ (Value.slice a0 out.length c0).ownBlock = some b) w (w4.setCell ⟨bl, 0, none⟩ (.slice a4 (out.length + 1) c4)) := (Fr.below hbb).trans hPf
        have HP := hide (And.intro hP (And.intro hoi4 (And.intro hfr4 hloc4)))
        clear hP hPf hoi4 hfr4 hloc4 hF2 hoi hb8 H2 g4 ho4 hloc hbl4 hown2 l0 i1 hk2
        go_wp2_with fail
        go_ret2
        obtain ⟨hP, hoi4, hfr4, hloc4⟩ := unhide HP
        exact ⟨vi, rfl, hoi4, _, hP, hfr4, hloc4⟩
end Go.Proofs.YtjmacegibchplaaGreatDoor
