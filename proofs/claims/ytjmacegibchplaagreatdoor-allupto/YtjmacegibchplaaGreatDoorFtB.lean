import Derived.Test.YtjmacegibchplaaGreatDoorBldLaw
import Derived.Test.YtjmacegibchplaaGreatDoorUpE
import Derived.Test.YtjmacegibchplaaGreatDoorUplP
import Derived.Test.YtjmacegibchplaaGreatDoorEntB
import Derived.Deep.RegionHeld3
import Derived.Test.YtjmacegibchplaaGreatDoorMapV
import Derived.Test.YtjmacegibchplaaGreatDoorPrC
import Derived.Test.YtjmacegibchplaaGreatDoorOfB
namespace Go.Proofs.YtjmacegibchplaaGreatDoor
open Go.RowKit
set_option linter.unusedVariables false
theorem outOf_len (l : List En) : (outOf l).length ≤ 100 := by
 unfold outOf
 split
 ·rename_i hw
  cases hb : builtP l with
  | none => simp
  | some out => exact builtP_len l (tree_of l hw) out hb
 ·simp
end Go.Proofs.YtjmacegibchplaaGreatDoor
namespace Go.Proofs.YtjmacegibchplaaGreatDoor
set_option linter.unusedVariables false
def pickP (c n : Int) : Int := (if c < 0 then -(c + 1) else c) % n
end Go.Proofs.YtjmacegibchplaaGreatDoor
namespace Go.Proofs.YtjmacegibchplaaGreatDoor
open Go.RowKit
set_option linter.unusedVariables false
def OwnsE (w : World) (base : Nat) (v : Value) (l : List En) : Prop := w.ownsRow base 32 3 v l.length (rowCells enCells l)
theorem entsGet {w : World} {a : Option Addr} {l : List En} (h : LiesE w a l) {k : Nat} (hk : k < l.length) : ∃ b o, a = some ⟨b, o, none⟩ ∧ EntsAt w b o l := by
 rcases h with h | h
 ·subst h; simp at hk
 ·exact h
theorem entAt_lt {w : World} {b p : Nat} {x : En} (h : EntAt w b p x) : b < w.heap.size := block_lt h.1
theorem EntAt.below {B : Nat} {w w' : World} {b p : Nat} {x : En} (h : EntAt w b p x) (hb : Below B w w') (hB : b < B) : EntAt w' b p x := by
 obtain ⟨c0, c1, c2⟩ := h
 exact ⟨(hb.cell (p := ⟨b, _, none⟩) hB).trans c0, (hb.cell (p := ⟨b, _, none⟩) hB).trans c1, (hb.cell (p := ⟨b, _, none⟩) hB).trans c2⟩
def dq (q : List UInt8) : Nat := if q = [] then 0 else (sp q).length
def lenOf (v : Value) : Nat := match v with
 | .string b => b.size
 | _ => 0
end Go.Proofs.YtjmacegibchplaaGreatDoor
namespace Go.Proofs.YtjmacegibchplaaGreatDoor
set_option linter.unusedVariables false
theorem sum_put_le (room : Int) (st : List (List UInt8 × List UInt8)) (b : List UInt8) : sumP (putP room st b).2 ≤ sumP st + b.length := by
 unfold putP
 split
 ·simp
 ·split
  ·simp
  ·simp only [sumP_app]; omega
theorem sum_app (a b : List (List UInt8 × List UInt8)) : sumP (a ++ b) = sumP a + sumP b := by
 induction a with
 | nil => simp [sumP]
 | cons x r ih => obtain ⟨k, v⟩ := x; simp only [List.cons_append, sumP, ih]; omega
theorem sum_filtL (f : List UInt8 × List UInt8 → Bool) (a : List (List UInt8 × List UInt8)) : sumP (a.filter f) ≤ sumP a := by
 induction a with
 | nil => simp [sumP]
 | cons x r ih =>
  obtain ⟨k, v⟩ := x
  rw [List.filter_cons]
  split
  ·simp only [sumP]; omega
  ·simp only [sumP]; omega
theorem sum_plant_le (st : List (List UInt8 × List UInt8)) (d b : List UInt8) : sumP (plantP st d b) ≤ sumP st + b.length := by
 unfold plantP
 rw [sum_app]
 have := sum_filtL (fun p => !(p.1 == d)) st
 split
 ·simp only [sumP]; omega
 ·simp only [sumP]; omega
section
variable {room : Int} {Q : List (List UInt8 × List UInt8) → Prop} (hQ : ∀ st b, Q st → Q (putP room st b).2)
include hQ
end
end Go.Proofs.YtjmacegibchplaaGreatDoor
namespace Go.Proofs.YtjmacegibchplaaGreatDoor
open Go.RowKit Go.Maps Go.WideMaps
set_option linter.unusedVariables false
theorem join_any (d n : List UInt8) (w : World) (hd : d.length ≤ 100000) (hn : n.length ≤ 100000) :
  Calls Tryz.prog 140 #[.string (bs d), .string (bs n)] w fun e w' => e = .returned (.string (bs (pre d ++ n))) ∧ w' = w := by
 by_cases h : d = []
 ·subst h
  have e2 : (bs ([] : List UInt8)).toList.isEmpty = true := by rw [ByteArray.toList_eq, bs_data]; rfl
  have Hr := hide (show bs (pre [] ++ n) = bs n by rfl)
  go_enter Tryz.func140, Tryz.ntmps140
  go_wp2_with fail
  go_ret
  exact ⟨ret_string (unhide Hr).symm, rfl⟩
 ·have e1 : ((bs d).toList == (⟨#[]⟩ : ByteArray).toList) = false := by
   have := str_eq2 d []
   rw [show (d == ([] : List UInt8)) = false by simpa using h] at this
   exact this
  have e2 : (bs d).toList.isEmpty = false := by rw [ByteArray.toList_eq, bs_data]; simpa using h
  have Hr := hide (show bs (pre d ++ n) = (bs d ++ (⟨#[47]⟩ : ByteArray)) ++ bs n by
   apply ByteArray.ext
   unfold pre
   rw [if_neg h]
   simp [bs, ByteArray.data_append])
  have hz1 := bs_size d
  have hz2 := bs_size n
  clear h
  go_enter Tryz.func140, Tryz.ntmps140
  go_wp2_with fail
  go_ret
  exact ⟨ret_string (unhide Hr).symm, rfl⟩
set_option maxRecDepth 100000 in
set_option maxHeartbeats 1000000 in
theorem blobUnder_any (st : List (List UInt8 × List UInt8)) (pb um n : Nat) (room : Int) (d : List UInt8) (w : World) (h : PStore w pb um n room st) (hd : d.length ≤ maxLen) (hsz : ∀ b, atP st d = some b → b.length ≤ 10000000) :
  Calls Tryz.prog 138 #[.pointer (some ⟨pb, 0, none⟩), .string (bs d)] w fun e w' => e = .returned (.tuple #[.string (bs (blobS (atP st) d).2), .int .i64 (blobS (atP st) d).1]) ∧ Below w.heap.size w w' := by
 have hget := get_any st pb um n room d w h hd hsz
 cases ha : atP st d with
 | none =>
  have h1 : getB st d = [] := by unfold getB; rw [ha]; rfl
  have h2 : getE st d = 7 := by unfold getE; rw [ha]; rfl
  have Hr := hide (show blobS (atP st) d = (7, []) by unfold blobS; rw [ha])
  rw [h1, h2] at hget
  clear ha h1 h2 hsz h
  go_enter Tryz.func138, Tryz.ntmps138
  go_wp2_with fail
  refine hget.mono ?_
  rintro e w1 ⟨rfl, hb1⟩
  go_wp2_with fail
  go_ret2
  exact ⟨by rw [unhide Hr]; rfl, hb1⟩
 | some b =>
  have h1 : getB st d = b := by unfold getB; rw [ha]; rfl
  have h2 : getE st d = 0 := by unfold getE; rw [ha]; rfl
  have hdg := fun w => tdig b w (hsz b ha)
  rw [h1, h2] at hget
  have hx := str_eq2 (P.digest b) d
  by_cases he : P.digest b = d
  ·have Hr := hide (show blobS (atP st) d = (0, b) by unfold blobS; rw [ha]; simp [he])
   rw [show (P.digest b == d) = true by simpa using he] at hx
   clear ha h1 h2 hsz h he
   generalize P.digest b = D at *
   go_enter Tryz.func138, Tryz.ntmps138
   go_wp2_with fail
   refine hget.mono ?_
   rintro e w1 ⟨rfl, hb1⟩
   clear hget
   go_wp2_with fail
   refine (hdg _).mono ?_
   rintro e w2 ⟨rfl, hb2⟩
   have hbb := hb1.trans (hb2.mono hb1.size)
   clear hb1 hb2
   go_wp2_with fail
   go_ret2
   exact ⟨by rw [unhide Hr]; rfl, hbb⟩
  ·have Hr := hide (show blobS (atP st) d = (8, []) by unfold blobS; rw [ha]; simp [he])
   rw [show (P.digest b == d) = false by simpa using he] at hx
   clear ha h1 h2 hsz h he
   generalize P.digest b = D at *
   go_enter Tryz.func138, Tryz.ntmps138
   go_wp2_with fail
   refine hget.mono ?_
   rintro e w1 ⟨rfl, hb1⟩
   clear hget
   go_wp2_with fail
   refine (hdg _).mono ?_
   rintro e w2 ⟨rfl, hb2⟩
   have hbb := hb1.trans (hb2.mono hb1.size)
   clear hb1 hb2
   go_wp2_with fail
   go_ret2
   exact ⟨by rw [unhide Hr]; rfl, hbb⟩
theorem itemsOf_any (l : List UInt8) (w : World) (hl : l.length ≤ maxLen) :
  Calls Tryz.prog 139 #[.string (bs l)] w fun e w' => Below w.heap.size w w' ∧ ((decOk l = none ∧ e = .returned (.tuple #[.slice none 0 0, .int .i64 8]))
   ∨ ∃ items v, decOk l = some items ∧ FitAll items ∧ items.length ≤ 255 ∧ e = .returned (.tuple #[v, .int .i64 0]) ∧ OwnsIt w' w.heap.size v items) := by
 go_enter Tryz.func139, Tryz.ntmps139
 go_wp2_with fail
 refine (dirDecode_any l w hl).mono ?_
 rintro e w1 ⟨hb, ⟨hd, rfl⟩ | ⟨items, v, hd, hf, hl2, rfl, ho⟩⟩
 ·have Hd := hide hd
  clear hd
  go_wp2_with fail
  go_ret2
  exact ⟨hb, .inl ⟨unhide Hd, rfl⟩⟩
 ·have Hd := hide hd
  clear hd
  go_wp2_with fail
  go_ret2
  exact ⟨hb, .inr ⟨items, _, unhide Hd, hf, hl2, rfl, ho⟩⟩
def itV (x : P.It) : Value := .agg #[.string x.name, .int .i64 x.kind, .string x.dig, .int .i64 x.size, .string x.tgt]
set_option maxHeartbeats 1000000 in
theorem target_any (p : List UInt8) (x : P.It) (w : World) (hg : GlobOk w) (hp : p.length ≤ 1100000) (hd1 : (sp p).length ≤ 100) (hl : x.tgt.size ≤ 1100000) :
  Calls Tryz.prog 142 #[.string (bs p), itV x] w fun e w' => Below w.heap.size w w' ∧ e = .returned (if outP (((sp p).length : Int) - 1) x.tgt.data.toList = true then .tuple #[.string ⟨#[]⟩, .slice none 0 0, .int .i64 8] else .tuple #[.string x.tgt, .slice none 0 0, .int .i64 0]) := by
 obtain ⟨nm, kd, dg, sz, tg⟩ := x
 obtain ⟨t, rfl⟩ : ∃ t, tg = bs t := ⟨tg.data.toList, (bs_of tg).symm⟩
 simp only [bs_data, bs_size] at hl ⊢
 have hbA : Below w.heap.size w (w.alloc (.cells #[.string nm, .int .i64 kd, .string dg, .int .i64 sz, .string (bs t)] 47)) := (Below.refl _ _).alloc (Nat.le_refl _) _
 have hle := leads_any p t _ (hg.below hbA (Nat.le_refl _)) hp hd1 hl
 have hbk := heap_alloc_new w (.cells #[.string nm, .int .i64 kd, .string dg, .int .i64 sz, .string (bs t)] 47)
 unfold itV
 generalize hB : outP (((sp p).length : Int) - 1) t = B at *
 clear hB
 have Hle := hide hle
 clear hle
 go_enter Tryz.func142, Tryz.ntmps142
 go_wp2_with fail
 refine (unhide Hle).mono ?_
 rintro e w1 ⟨rfl, hb1⟩
 have k4 := cell_of_block (j := 4) ((hb1.block w.heap.size (by simp)).trans hbk)
 simp only [List.getElem?_toArray, List.getElem?_cons_zero, List.getElem?_cons_succ] at k4
 have hbb : Below w.heap.size w w1 := hbA.trans (hb1.mono hbA.size)
 clear hbA hb1 hbk Hle
 cases B with
 | true =>
  go_wp2_with fail
  go_ret3
  exact ⟨hbb, rfl⟩
 | false =>
  go_wp2_with fail
  go_ret3
  exact ⟨hbb, rfl⟩
end Go.Proofs.YtjmacegibchplaaGreatDoor
namespace Go.Proofs.YtjmacegibchplaaGreatDoor
set_option linter.unusedVariables false
def contE (S : List UInt8 → Option (List UInt8)) (deep : Int) (x : P.It) : Int :=
 if x.kind = 3 then (if outP (deep - 1) x.tgt.data.toList = true then 8 else 0)
 else if (blobS S x.dig.data.toList).1 ≠ 0 then (blobS S x.dig.data.toList).1
 else if ((blobS S x.dig.data.toList).2.length : Int) ≠ x.size ∨ (x.kind ≠ 0 ∧ 60 < (blobS S x.dig.data.toList).2.length) then 8
 else if x.kind = 0 then (if (decOk (blobS S x.dig.data.toList).2).isSome then 0 else 8) else 0
def contD (S : List UInt8 → Option (List UInt8)) (x : P.It) : ByteArray := if x.kind = 3 then x.tgt else if x.kind = 0 then ⟨#[]⟩ else bs (blobS S x.dig.data.toList).2
def contI (S : List UInt8 → Option (List UInt8)) (x : P.It) : List P.It := if x.kind = 0 then (decOk (blobS S x.dig.data.toList).2).getD [] else []
def budQ (n : Nat) (ents dep deep : Int) : Bool := decide (min ents 40 < (n : Int) + 1) || decide (min dep 5 < deep)
theorem bud_iff (n : Nat) (ents dep deep : Int) (hn : n ≤ 40) : (ents < (n : Int) + 1 ∨ dep < deep ∨ n = 40 ∨ 5 < deep) ↔ budQ n ents dep deep = true := by
 unfold budQ
 rw [Bool.or_eq_true, decide_eq_true_eq, decide_eq_true_eq]
 omega
theorem fet_bud (S : List UInt8 → Option (List UInt8)) (ents dep : Int) (rec : List UInt8 → List UInt8 → List En → Int × List En) (d : List UInt8) (deep : Int) (x : P.It) (r : List P.It) (out : List En) (hn : out.length ≤ 40) (hb : budQ out.length ents dep deep = true) : fetItems S ents dep rec d deep (x :: r) out = (9, out) := by
 rw [fetItems, if_pos ((bud_iff _ _ _ _ hn).2 hb)]
theorem fet_err (S : List UInt8 → Option (List UInt8)) (ents dep : Int) (f : Nat) (d : List UInt8) (deep : Int) (x : P.It) (r : List P.It) (out : List En) (hn : out.length ≤ 40) (hb : budQ out.length ents dep deep = false) (hc : contE S deep x ≠ 0) : (fetItems S ents dep (belowF S ents dep (f + 1) (deep + 1)) d deep (x :: r) out).1 = contE S deep x := by
 have hb2 : ¬ (ents < (out.length : Int) + 1 ∨ dep < deep ∨ out.length = 40 ∨ 5 < deep) := fun h => by rw [(bud_iff _ _ _ _ hn).1 h] at hb; simp at hb
 rw [fetItems, if_neg hb2]
 unfold contE at hc ⊢
 by_cases h3 : x.kind = 3
 ·rw [if_pos h3] at hc ⊢
  rw [if_pos h3]
  by_cases ho : outP (deep - 1) x.tgt.data.toList = true
  ·rw [if_pos ho, if_pos ho]
  ·rw [if_neg ho] at hc; exact absurd rfl hc
 ·rw [if_neg h3] at hc ⊢
  rw [if_neg h3]
  by_cases h1 : (blobS S x.dig.data.toList).1 ≠ 0
  ·rw [if_pos h1, if_pos h1]
  ·rw [if_neg h1] at hc ⊢
   rw [if_neg h1]
   by_cases h2 : ((blobS S x.dig.data.toList).2.length : Int) ≠ x.size ∨ (x.kind ≠ 0 ∧ 60 < (blobS S x.dig.data.toList).2.length)
   ·rw [if_pos h2, if_pos h2]
   ·rw [if_neg h2] at hc ⊢
    rw [if_neg h2]
    by_cases h0 : x.kind = 0
    ·rw [if_pos h0] at hc ⊢
     rw [if_neg (by simpa using h0)]
     cases hd : decOk (blobS S x.dig.data.toList).2 with
     | some l => rw [hd] at hc; simp at hc
     | none => simp [belowF, hd]
    ·rw [if_neg h0] at hc; exact absurd rfl hc
theorem fet_step (S : List UInt8 → Option (List UInt8)) (ents dep : Int) (f : Nat) (d : List UInt8) (deep : Int) (x : P.It) (r : List P.It) (out : List En) (hn : out.length ≤ 40) (hb : budQ out.length ents dep deep = false) (hc : contE S deep x = 0) (hx : P.itemOk x = true) :
  fetItems S ents dep (belowF S ents dep (f + 1) (deep + 1)) d deep (x :: r) out =
   (if (fetItems S ents dep (belowF S ents dep f (deep + 1 + 1)) (pre d ++ x.name.data.toList) (deep + 1) (contI S x) (out ++ [⟨bs (pre d ++ x.name.data.toList), x.kind, contD S x⟩])).1 ≠ 0
    then fetItems S ents dep (belowF S ents dep f (deep + 1 + 1)) (pre d ++ x.name.data.toList) (deep + 1) (contI S x) (out ++ [⟨bs (pre d ++ x.name.data.toList), x.kind, contD S x⟩])
    else fetItems S ents dep (belowF S ents dep (f + 1) (deep + 1)) d deep r (fetItems S ents dep (belowF S ents dep f (deep + 1 + 1)) (pre d ++ x.name.data.toList) (deep + 1) (contI S x) (out ++ [⟨bs (pre d ++ x.name.data.toList), x.kind, contD S x⟩])).2) := by
 have hb2 : ¬ (ents < (out.length : Int) + 1 ∨ dep < deep ∨ out.length = 40 ∨ 5 < deep) := fun h => by rw [(bud_iff _ _ _ _ hn).1 h] at hb; simp at hb
 rw [fetItems, if_neg hb2]
 unfold contE at hc
 by_cases h3 : x.kind = 3
 ·rw [if_pos h3] at hc ⊢
  have ho : ¬ outP (deep - 1) x.tgt.data.toList = true := fun h => by rw [if_pos h] at hc; simp at hc
  rw [if_neg ho]
  have hI : contI S x = [] := by unfold contI; rw [if_neg (by omega)]
  have hD : contD S x = x.tgt := by unfold contD; rw [if_pos h3]
  rw [hI, hD, h3]
  simp [fetItems]
 ·rw [if_neg h3] at hc ⊢
  have h1 : ¬ (blobS S x.dig.data.toList).1 ≠ 0 := fun h => by rw [if_pos h] at hc; exact h hc
  rw [if_neg h1] at hc ⊢
  have h2 : ¬ (((blobS S x.dig.data.toList).2.length : Int) ≠ x.size ∨ (x.kind ≠ 0 ∧ 60 < (blobS S x.dig.data.toList).2.length)) := fun h => by rw [if_pos h] at hc; simp at hc
  rw [if_neg h2] at hc ⊢
  by_cases h0 : x.kind = 0
  ·rw [if_pos h0] at hc
   rw [if_neg (by simpa using h0)]
   have htg := (ok_plain x hx h3).1
   have hD : contD S x = ⟨#[]⟩ := by unfold contD; rw [if_neg h3, if_pos h0]
   cases hd : decOk (blobS S x.dig.data.toList).2 with
   | none => rw [hd] at hc; simp at hc
   | some l =>
    have hI : contI S x = l := by unfold contI; rw [if_pos h0, hd]; rfl
    rw [hI, hD, h0, htg]
    simp only [belowF, hd]
  ·rw [if_pos (by simpa using h0)]
   have hI : contI S x = [] := by unfold contI; rw [if_neg h0]
   have hD : contD S x = bs (blobS S x.dig.data.toList).2 := by unfold contD; rw [if_neg h3, if_neg h0]
   rw [hI, hD]
   simp [fetItems]
theorem contI_ok (S : List UInt8 → Option (List UInt8)) (x y : P.It) (h : y ∈ contI S x) : P.itemOk y = true := by
 unfold contI at h
 split at h
 ·cases hd : decOk (blobS S x.dig.data.toList).2 with
  | none => rw [hd] at h; simp at h
  | some l =>
   rw [hd] at h
   exact dir_each l ((decOk_iff _ _).1 hd).1 y h
 ·simp at h
end Go.Proofs.YtjmacegibchplaaGreatDoor
namespace Go.Proofs.YtjmacegibchplaaGreatDoor
open Go.RowKit Go.Maps Go.WideMaps
set_option linter.unusedVariables false
def ContEnd (S : List UInt8 → Option (List UInt8)) (deep : Int) (x : P.It) (w : World) (e : Ending) (w' : World) : Prop :=
 Below w.heap.size w w' ∧ ((contE S deep x ≠ 0 ∧ e = .returned (.tuple #[.string ⟨#[]⟩, .slice none 0 0, .int .i64 (contE S deep x)])) ∨ (contE S deep x = 0 ∧ ∃ v, e = .returned (.tuple #[.string (contD S x), v, .int .i64 0]) ∧ OwnsIt w' w.heap.size v (contI S x) ∧ FitAll (contI S x)))
set_option maxRecDepth 100000 in
set_option maxHeartbeats 2000000 in
theorem content_any (st : List (List UInt8 × List UInt8)) (pb um n : Nat) (room : Int) (p : List UInt8) (x : P.It) (w : World) (h : PStore w pb um n room st) (hg : GlobOk w) (hp : p.length ≤ 1100000) (hd1 : (sp p).length ≤ 100) (hl : x.tgt.size ≤ 1100000) (hdg : x.dig.size ≤ maxLen) (hsz : ∀ d b, atP st d = some b → b.length ≤ 10000000) :
  Calls Tryz.prog 93 #[.pointer (some ⟨pb, 0, none⟩), .string (bs p), itV x] w fun e w' => ContEnd (atP st) ((sp p).length : Int) x w e w' := by
 obtain ⟨nm, kd, dg, sz, tg⟩ := x
 obtain ⟨dl, rfl⟩ : ∃ dl, dg = bs dl := ⟨dg.data.toList, (bs_of dg).symm⟩
 simp only at hl hdg
 rw [bs_size] at hdg
 have hbA : Below w.heap.size w (w.alloc (.cells #[.string nm, .int .i64 kd, .string (bs dl), .int .i64 sz, .string tg] 47)) := (Below.refl _ _).alloc (Nat.le_refl _) _
 have hbk := heap_alloc_new w (.cells #[.string nm, .int .i64 kd, .string (bs dl), .int .i64 sz, .string tg] 47)
 by_cases h3 : kd = 3
 ·subst h3
  have htg := target_any p ⟨nm, 3, bs dl, sz, tg⟩ _ (hg.below hbA (Nat.le_refl _)) hp hd1 hl
  unfold itV at htg ⊢
  have HE := hide (show contE (atP st) ((sp p).length : Int) ⟨nm, 3, bs dl, sz, tg⟩ = (if outP (((sp p).length : Int) - 1) tg.data.toList = true then 8 else 0) from rfl)
  have HD := hide (show contD (atP st) ⟨nm, 3, bs dl, sz, tg⟩ = tg ∧ contI (atP st) ⟨nm, 3, bs dl, sz, tg⟩ = [] from ⟨rfl, rfl⟩)
  simp only at htg
  have Ht := hide htg
  clear htg hbk h hsz
  generalize hB : outP (((sp p).length : Int) - 1) tg.data.toList = B at *
  cases B with
  | true =>
   go_enter Tryz.func93, Tryz.ntmps93
   go_wp2_with fail
   refine (unhide Ht).mono ?_
   rintro e w1 ⟨hb1, rfl⟩
   have hbb := hbA.trans (hb1.mono hbA.size)
   clear Ht hb1
   simp only [if_true]
   go_wp2_with fail
   go_ret3
   exact ⟨hbb, .inl ⟨by rw [unhide HE]; simp, by rw [unhide HE]; rfl⟩⟩
  | false =>
   go_enter Tryz.func93, Tryz.ntmps93
   go_wp2_with fail
   refine (unhide Ht).mono ?_
   rintro e w1 ⟨hb1, rfl⟩
   have hbb := hbA.trans (hb1.mono hbA.size)
   clear Ht hb1
   simp only [Bool.false_eq_true, if_false]
   go_wp2_with fail
   go_ret3
   exact ⟨hbb, .inr ⟨by rw [unhide HE]; simp, _, by (rw [(unhide HD).1]; first | done | rfl), by rw [(unhide HD).2]; exact World.ownsRow_nil _ _ _ _, by rw [(unhide HD).2]; intro i hi; simp at hi⟩⟩
 ·have b3 : (kd == 3) = false := by simpa using h3
  have hbu := blobUnder_any st pb um n room dl _ (h.below hbA (Nat.le_refl _)) hdg (hsz dl)
  have HE := hide (show contE (atP st) ((sp p).length : Int) ⟨nm, kd, bs dl, sz, tg⟩ = (if (blobS (atP st) dl).1 ≠ 0 then (blobS (atP st) dl).1
   else if ((blobS (atP st) dl).2.length : Int) ≠ sz ∨ (kd ≠ 0 ∧ 60 < (blobS (atP st) dl).2.length) then 8
   else if kd = 0 then (if (decOk (blobS (atP st) dl).2).isSome then 0 else 8) else 0) by unfold contE; simp only [bs_data]; rw [if_neg h3])
  have HD := hide (show contD (atP st) ⟨nm, kd, bs dl, sz, tg⟩ = (if kd = 0 then ⟨#[]⟩ else bs (blobS (atP st) dl).2) ∧ contI (atP st) ⟨nm, kd, bs dl, sz, tg⟩ = (if kd = 0 then (decOk (blobS (atP st) dl).2).getD [] else []) by unfold contD contI; simp only [bs_data]; rw [if_neg h3]; simp)
  have hbl : (blobS (atP st) dl).2.length ≤ 10000000 := by
   unfold blobS
   cases ha : atP st dl with
   | none => simp
   | some b =>
    simp only
    split
    ·exact hsz dl b ha
    ·simp
  unfold itV
  have Hbu := hide hbu
  have Hh := hide h
  clear hbu h hsz h3 hdg
  generalize blobS (atP st) dl = bb at *
  obtain ⟨be, b⟩ := bb
  simp only at hbl HE HD Hbu
  have hbz := bs_size b
  go_enter Tryz.func93, Tryz.ntmps93
  go_wp2_with fail
  refine (unhide Hbu).mono ?_
  rintro e w1 ⟨rfl, hb1⟩
  have hbt := (hb1.block w.heap.size (by simp)).trans hbk
  have k1 := cell_of_block (j := 1) hbt
  have k3 := cell_of_block (j := 3) hbt
  simp only [List.getElem?_toArray, List.getElem?_cons_zero, List.getElem?_cons_succ] at k1 k3
  have hbb : Below w.heap.size w w1 := hbA.trans (hb1.mono hbA.size)
  clear hbA hb1 hbk Hbu hbt
  by_cases he : be = 0
  ·subst he
   by_cases hs : (b.length : Int) = sz
   ·subst hs
    by_cases hk0 : kd = 0
    ·subst hk0
     have hit := itemsOf_any b w1 (by unfold maxLen; omega)
     go_wp2_with fail
     refine hit.mono ?_
     rintro e w2 ⟨hb2, ⟨hd, rfl⟩ | ⟨items, v, hd, hf, hl2, rfl, ho⟩⟩
     ·have hb3 := hbb.trans (hb2.mono hbb.size)
      have Hr := hide (show contE (atP st) ((sp p).length : Int) ⟨nm, 0, bs dl, (b.length : Int), tg⟩ = 8 by rw [unhide HE, hd]; simp)
      clear hd hit hb2
      go_wp2_with fail
      go_ret3
      exact ⟨hb3, .inl ⟨by rw [unhide Hr]; decide, by (rw [unhide Hr]; first | done | rfl)⟩⟩
     ·have hb3 := hbb.trans (hb2.mono hbb.size)
      have Hr := hide (show contE (atP st) ((sp p).length : Int) ⟨nm, 0, bs dl, (b.length : Int), tg⟩ = 0 by rw [unhide HE, hd]; simp)
      have HI := hide (show contI (atP st) ⟨nm, 0, bs dl, (b.length : Int), tg⟩ = items by rw [(unhide HD).2, hd]; simp)
      have ho' : OwnsIt w2 w.heap.size v items := ⟨ho.1, ho.2.imp id (fun ⟨g, cap, cur, h1, h2, h3⟩ => ⟨g, cap, cur, h1, Nat.le_trans hbb.size h2, h3⟩)⟩
      clear hd hit hb2 ho
      go_wp2_with fail
      go_ret3
      exact ⟨hb3, .inr ⟨unhide Hr, v, by (rw [(unhide HD).1]; first | done | rfl), by rw [unhide HI]; exact ho', by rw [unhide HI]; exact hf⟩⟩
    ·have b0 : (kd == 0) = false := by simpa using hk0
     have hwin := fun w' => within_any (b.length : Int) 0 60 w' (by decide)
     by_cases h60 : 60 < b.length
     ·rw [show P.within (b.length : Int) 0 60 = false by unfold P.within; simp; omega] at hwin
      have Hr := hide (show contE (atP st) ((sp p).length : Int) ⟨nm, kd, bs dl, (b.length : Int), tg⟩ = 8 by rw [unhide HE, if_neg (by simp), if_pos (.inr ⟨hk0, h60⟩)])
      go_wp2_with (go_at_call 86; refine (hwin _).mono ?_; rintro e w' ⟨rfl, hw'⟩; rw [hw']; clear hw' w')
      go_ret3
      exact ⟨hbb, .inl ⟨by rw [unhide Hr]; decide, by (rw [unhide Hr]; first | done | rfl)⟩⟩
     ·rw [show P.within (b.length : Int) 0 60 = true by unfold P.within; simp; omega] at hwin
      have Hr := hide (show contE (atP st) ((sp p).length : Int) ⟨nm, kd, bs dl, (b.length : Int), tg⟩ = 0 by rw [unhide HE, if_neg (by simp), if_neg (by rintro (h | h); exact h rfl; omega), if_neg hk0])
      have HI := hide (show contI (atP st) ⟨nm, kd, bs dl, (b.length : Int), tg⟩ = [] ∧ contD (atP st) ⟨nm, kd, bs dl, (b.length : Int), tg⟩ = bs b by rw [(unhide HD).2, (unhide HD).1, if_neg hk0, if_neg hk0]; exact ⟨rfl, rfl⟩)
      go_wp2_with (go_at_call 86; refine (hwin _).mono ?_; rintro e w' ⟨rfl, hw'⟩; rw [hw']; clear hw' w')
      go_ret3
      exact ⟨hbb, .inr ⟨unhide Hr, _, by (rw [(unhide HI).2]; first | done | rfl), by rw [(unhide HI).1]; exact World.ownsRow_nil _ _ _ _, by rw [(unhide HI).1]; intro i hi; simp at hi⟩⟩
   ·have bs0 : ((b.length : Int) == sz) = false := by simpa using hs
    have Hr := hide (show contE (atP st) ((sp p).length : Int) ⟨nm, kd, bs dl, sz, tg⟩ = 8 by rw [unhide HE, if_neg (by simp), if_pos (.inl hs)])
    go_wp2_with fail
    go_ret3
    exact ⟨hbb, .inl ⟨by rw [unhide Hr]; decide, by (rw [unhide Hr]; first | done | rfl)⟩⟩
  ·have be0 : (be == 0) = false := by simpa using he
   have Hr := hide (show contE (atP st) ((sp p).length : Int) ⟨nm, kd, bs dl, sz, tg⟩ = be by rw [unhide HE, if_pos he])
   go_wp2_with fail
   go_ret3
   exact ⟨hbb, .inl ⟨by rw [unhide Hr]; exact he, by (rw [unhide Hr]; first | done | rfl)⟩⟩
end Go.Proofs.YtjmacegibchplaaGreatDoor