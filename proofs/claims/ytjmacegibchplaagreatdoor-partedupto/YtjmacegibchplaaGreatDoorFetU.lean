import Derived.Test.YtjmacegibchplaaGreatDoorUpE
import Derived.Test.YtjmacegibchplaaGreatDoorKeepD
import Derived.Test.YtjmacegibchplaaGreatDoorKeepG
import Derived.Test.YtjmacegibchplaaGreatDoorFetR
import Derived.Test.YtjmacegibchplaaGreatDoorPrD
import Derived.Test.YtjmacegibchplaaGreatDoorOfB
/-
  What a store holds is never more than its room by uploads; trees are of bounded size; links of a tree do not lead out. No walk.
-/
namespace Go.Proofs.YtjmacegibchplaaGreatDoor
set_option linter.unusedVariables false

theorem sum_put_le (room : Int) (st : List (List UInt8 × List UInt8)) (b : List UInt8) : sumP (putP room st b).2 ≤ sumP st + b.length := by
  unfold putP
  split
  · simp
  · split
    · simp
    · simp only [sumP_app]; omega
theorem sum_put_room (room : Int) (st : List (List UInt8 × List UInt8)) (b : List UInt8) (h : (sumP st : Int) ≤ room) : (sumP (putP room st b).2 : Int) ≤ room := by
  unfold putP
  split
  · exact h
  · split
    · exact h
    · simp only [sumP_app]; omega
theorem sum_app (a b : List (List UInt8 × List UInt8)) : sumP (a ++ b) = sumP a + sumP b := by
  induction a with
  | nil => simp [sumP]
  | cons x r ih => obtain ⟨k, v⟩ := x; simp only [List.cons_append, sumP, ih]; omega
theorem sum_filtL (f : List UInt8 × List UInt8 → Bool) (a : List (List UInt8 × List UInt8)) : sumP (a.filter f) ≤ sumP a := by
  induction a with
  | nil => simp [sumP]
  | cons x r ih =>
    obtain ⟨k, v⟩ := x
    rw [List.filter_cons]
    split
    · simp only [sumP]; omega
    · simp only [sumP]; omega
theorem sum_plant_le (st : List (List UInt8 × List UInt8)) (d b : List UInt8) : sumP (plantP st d b) ≤ sumP st + b.length := by
  unfold plantP
  rw [sum_app]
  have := sum_filtL (fun p => !(p.1 == d)) st
  split
  · simp only [sumP]; omega
  · simp only [sumP]; omega
section
variable {room : Int} {Q : List (List UInt8 × List UInt8) → Prop} (hQ : ∀ st b, Q st → Q (putP room st b).2)
include hQ
theorem putsP_keep : ∀ (l : List (List UInt8)) (st : List (List UInt8 × List UInt8)), Q st → Q (putsP room st l).2
  | [], st, h => h
  | b :: r, st, h => by
    simp only [putsP]
    split
    · exact hQ _ _ h
    · exact putsP_keep r _ (hQ _ _ h)
theorem tryP_keep (link : List Int) (l : List (List UInt8)) : ∀ (k : Nat) (st : List (List UInt8 × List UInt8)) (s : Nat × Nat × Nat), Q st → Q (tryP room link l k st s).2.1
  | 0, st, s, h => h
  | k + 1, st, s, h => by
    simp only [tryP]
    have h1 := putsP_keep hQ l st h
    have h2 := putsP_keep hQ l _ h1
    split
    · exact tryP_keep link l k _ _ h
    · split
      · split
        · exact h2
        · exact h1
      · refine tryP_keep link l k _ _ ?_
        split
        · exact h2
        · exact h1
theorem sendP_keep (batch : Int) (tries : Nat) (link : List Int) : ∀ (f : Nat) (miss : List (List UInt8)) (st : List (List UInt8 × List UInt8)) (s : Nat × Nat × Nat), Q st → Q (sendP room batch tries link f miss st s).2.1
  | 0, miss, st, s, h => h
  | f + 1, miss, st, s, h => by
    simp only [sendP]
    split
    · exact h
    · split
      · exact tryP_keep hQ _ _ _ _ _ h
      · exact sendP_keep batch tries link f _ _ _ (tryP_keep hQ _ _ _ _ _ h)
theorem bringP_keep (batch : Int) (tries : Nat) (link : List Int) (blobs : List (List UInt8)) (st : List (List UInt8 × List UInt8)) (h : Q st) : Q (bringP room batch tries link blobs st).2.1 := by
  simp only [bringP]
  split
  · exact tryP_keep hQ _ _ _ _ _ h
  · exact sendP_keep hQ _ _ _ _ _ _ _ (tryP_keep hQ _ _ _ _ _ h)
theorem upP_keep (l : List En) (tries batch : Int) (L : List Int) (st : List (List UInt8 × List UInt8)) (h : Q st) : Q (upP room l tries batch L st).2.2.2 := by
  unfold upP
  split
  · exact h
  · split
    · exact h
    · split
      · exact h
      · exact bringP_keep hQ _ _ _ _ _ h
end
theorem up_room (room : Int) (l : List En) (tries batch : Int) (L : List Int) (st : List (List UInt8 × List UInt8)) (h : (sumP st : Int) ≤ room) : (sumP (upP room l tries batch L st).2.2.2 : Int) ≤ room :=
  upP_keep (Q := fun st => (sumP st : Int) ≤ room) (fun st b h => sum_put_room room st b h) l tries batch L st h
/-- the sizes of a tree's entries -/
theorem tree_data (l : List En) (ht : Tree l) (i : Nat) (h : i < l.length) : l[i].data.size ≤ 60 := by
  have hk := fineP_kind l i h (ht.fine i h)
  rcases kind_cases hk with ⟨_, e⟩ | ⟨_, e⟩ | e
  · rw [e]; decide
  · exact e
  · have := fineP_link l i h (ht.fine i h) e
    unfold P.isTarget at this
    simp at this
    have h2 : l[i].data.data.toList.length = l[i].data.size := rfl
    have h3 : l[i].data.data.size = l[i].data.size := rfl
    omega
theorem tree_fit (l : List En) (ht : Tree l) : TFit l := fun i h => by
  have h1 := tree_path l ht i h
  have h2 := tree_data l ht i h
  have h3 : l[i].path.data.toList.length = l[i].path.size := rfl
  exact ⟨by omega, by unfold maxLen; omega⟩
theorem tree_lead (l : List En) (ht : Tree l) (hw : wrongP l = 0) (i : Nat) (h : i < l.length) (hk : l[i].kind = 3) : LeadOk (pth l[i]) l[i].data.data.toList := by
  have h1 := tree_path l ht i h
  have h2 := tree_data l ht i h
  have h3 := fineP_link l i h (ht.fine i h) hk
  have h4 := fineP_name l i h (ht.fine i h)
  refine ⟨fun x hx => ?_, ?_, ?_, ?_, ?_⟩
  · have := h4 x hx
    rintro rfl
    simp [P.isName] at this
  · show l[i].path.data.toList.length ≤ 1000
    omega
  · have h5 : l[i].data.data.toList.length = l[i].data.size := rfl
    omega
  · intro e
    rw [e] at h3
    simp [P.isTarget] at h3
  · have hwy := wrong_yes l ht
    rw [hw] at hwy
    have hany : l.any escP = false := by
      cases ha : l.any escP with
      | false => rfl
      | true => rw [ha] at hwy; simp at hwy
    have := List.any_eq_false.1 hany l[i] (List.getElem_mem h)
    unfold escP at this
    simp [hk] at this
    exact this
end Go.Proofs.YtjmacegibchplaaGreatDoor

/-
  The document's examples: the plain answers. No walk.
-/
namespace Go.Proofs.YtjmacegibchplaaGreatDoor
set_option linter.unusedVariables false

theorem kn_d0 : P.digest [] = [48, 48, 49] := by kernel_rfl
theorem kn_d1 : P.digest [97] = [49, 54, 57] := by kernel_rfl
theorem kn_d2 : P.digest [84, 0] = [53, 99, 55] := by kernel_rfl
theorem kn_e0 : errOf [] = 0 ∧ rootOf [] = [53, 99, 55] ∧ outOf [] = [[84, 0]] := ⟨by kernel_rfl, by kernel_rfl, by kernel_rfl⟩
def knL : List En := [⟨⟨#[97]⟩, 1, ⟨#[120]⟩⟩]
theorem kn_e1 : errOf knL = 0 ∧ (outOf knL).length = 2 := ⟨by kernel_rfl, by kernel_rfl⟩
theorem kn_c0 : decOk [84, 1, 3, 1, 108, 0] = none := by kernel_rfl
theorem kn_c1 : decOk [84, 1, 3, 1, 108, 1, 120] = some [⟨⟨#[108]⟩, 3, ⟨#[]⟩, 0, ⟨#[120]⟩⟩] := by kernel_rfl
def knA : List En := [⟨⟨#[100]⟩, 0, ⟨#[]⟩⟩, ⟨⟨#[100, 47, 108]⟩, 3, ⟨#[46, 46, 47, 120]⟩⟩]
def knB : List En := [⟨⟨#[100]⟩, 0, ⟨#[]⟩⟩, ⟨⟨#[100, 47, 108]⟩, 3, ⟨#[46, 46, 47, 46, 46, 47, 120]⟩⟩]
def knC : List En := [⟨⟨#[108]⟩, 3, ⟨#[120, 47, 46, 46, 47, 46, 46]⟩⟩]
theorem kn_e3 : errOf knA = 0 ∧ errOf knB = 2 ∧ errOf knC = 2 := ⟨by kernel_rfl, by kernel_rfl, by kernel_rfl⟩
def knU := upP 1000 knL 2 5000 [1, 2] []
def knV := upP 1000 knL 3 5000 [1, 2] knU.2.2.2
theorem kn_u : knU.1 = [] ∧ knU.2.1 = (2, 0, 0) ∧ knU.2.2.1 = 10 := ⟨by kernel_rfl, by kernel_rfl, by kernel_rfl⟩
theorem kn_us : sumP knU.2.2.2 ≤ 1000 := by decide +kernel
theorem kn_vs : sumP knV.2.2.2 ≤ 1000 := by decide +kernel
def knO : List (List UInt8) := outOf knL
theorem kn_v : knV.2.2.1 = 0 ∧ knV.2.1.1 = 4 ∧ knV.2.1.2.1 = 2 ∧ knV.2.1.2.2 = (knO.getD 0 []).length + (knO.getD 1 []).length := ⟨by kernel_rfl, by kernel_rfl, by kernel_rfl, by kernel_rfl⟩
theorem kn_o : outOf knL = [knO.getD 0 [], knO.getD 1 []] ∧ (knO.getD 0 []).length ≤ 2000 ∧ (knO.getD 1 []).length ≤ 2000 := ⟨by kernel_rfl, by decide +kernel, by decide +kernel⟩
theorem kn_f : fetchP (atP knV.2.2.2) (rootOf knL) 1 1 = (0, knL) := by kernel_rfl
end Go.Proofs.YtjmacegibchplaaGreatDoor

/-
  The program's Fetch: paths, and what stands under a digest.
-/
namespace Go.Proofs.YtjmacegibchplaaGreatDoor
open Go.RowKit Go.Maps Go.WideMaps
set_option linter.unusedVariables false

/-- what a directory's path is ahead of a name -/
theorem join_any (d n : List UInt8) (w : World) (hd : d.length ≤ 100000) (hn : n.length ≤ 100000) :
    Calls Tryz.prog 140 #[.string (bs d), .string (bs n)] w fun e w' => e = .returned (.string (bs (pre d ++ n))) ∧ w' = w := by
  by_cases h : d = []
  · subst h
    have e2 : (bs ([] : List UInt8)).toList.isEmpty = true := by rw [ByteArray.toList_eq, bs_data]; rfl
    have Hr := hide (show bs (pre [] ++ n) = bs n by rfl)
    go_enter Tryz.func140, Tryz.ntmps140
    go_wp2_with fail
    go_ret
    exact ⟨ret_string (unhide Hr).symm, rfl⟩
  · have e1 : ((bs d).toList == (⟨#[]⟩ : ByteArray).toList) = false := by
      have := str_eq2 d []
      rw [show (d == ([] : List UInt8)) = false by simpa using h] at this
      exact this
    have e2 : (bs d).toList.isEmpty = false := by rw [ByteArray.toList_eq, bs_data]; simpa using h
    have Hr := hide (show bs (pre d ++ n) = (bs d ++ (⟨#[47]⟩ : ByteArray)) ++ bs n by
      apply ByteArray.ext
      unfold pre
      rw [if_neg h]
      simp [bs, ByteArray.data_append])
    have hz1 := bs_size d
    have hz2 := bs_size n
    clear h
    go_enter Tryz.func140, Tryz.ntmps140
    go_wp2_with fail
    go_ret
    exact ⟨ret_string (unhide Hr).symm, rfl⟩
set_option maxRecDepth 100000 in
set_option maxHeartbeats 1000000 in
theorem blobUnder_any (st : List (List UInt8 × List UInt8)) (pb um n : Nat) (room : Int) (d : List UInt8) (w : World) (h : PStore w pb um n room st) (hd : d.length ≤ maxLen) (hsz : ∀ b, atP st d = some b → b.length ≤ 10000000) :
    Calls Tryz.prog 138 #[.pointer (some ⟨pb, 0, none⟩), .string (bs d)] w fun e w' => e = .returned (.tuple #[.string (bs (blobS (atP st) d).2), .int .i64 (blobS (atP st) d).1]) ∧ Below w.heap.size w w' := by
  have hget := get_any st pb um n room d w h hd hsz
  cases ha : atP st d with
  | none =>
    have h1 : getB st d = [] := by unfold getB; rw [ha]; rfl
    have h2 : getE st d = 7 := by unfold getE; rw [ha]; rfl
    have Hr := hide (show blobS (atP st) d = (7, []) by unfold blobS; rw [ha])
    rw [h1, h2] at hget
    clear ha h1 h2 hsz h
    go_enter Tryz.func138, Tryz.ntmps138
    go_wp2_with fail
    refine hget.mono ?_
    rintro e w1 ⟨rfl, hb1⟩
    go_wp2_with fail
    go_ret2
    exact ⟨by rw [unhide Hr]; rfl, hb1⟩
  | some b =>
    have h1 : getB st d = b := by unfold getB; rw [ha]; rfl
    have h2 : getE st d = 0 := by unfold getE; rw [ha]; rfl
    have hdg := fun w => tdig b w (hsz b ha)
    rw [h1, h2] at hget
    have hx := str_eq2 (P.digest b) d
    by_cases he : P.digest b = d
    · have Hr := hide (show blobS (atP st) d = (0, b) by unfold blobS; rw [ha]; simp [he])
      rw [show (P.digest b == d) = true by simpa using he] at hx
      clear ha h1 h2 hsz h he
      generalize P.digest b = D at *
      go_enter Tryz.func138, Tryz.ntmps138
      go_wp2_with fail
      refine hget.mono ?_
      rintro e w1 ⟨rfl, hb1⟩
      clear hget
      go_wp2_with fail
      refine (hdg _).mono ?_
      rintro e w2 ⟨rfl, hb2⟩
      have hbb := hb1.trans (hb2.mono hb1.size)
      clear hb1 hb2
      go_wp2_with fail
      go_ret2
      exact ⟨by rw [unhide Hr]; rfl, hbb⟩
    · have Hr := hide (show blobS (atP st) d = (8, []) by unfold blobS; rw [ha]; simp [he])
      rw [show (P.digest b == d) = false by simpa using he] at hx
      clear ha h1 h2 hsz h he
      generalize P.digest b = D at *
      go_enter Tryz.func138, Tryz.ntmps138
      go_wp2_with fail
      refine hget.mono ?_
      rintro e w1 ⟨rfl, hb1⟩
      clear hget
      go_wp2_with fail
      refine (hdg _).mono ?_
      rintro e w2 ⟨rfl, hb2⟩
      have hbb := hb1.trans (hb2.mono hb1.size)
      clear hb1 hb2
      go_wp2_with fail
      go_ret2
      exact ⟨by rw [unhide Hr]; rfl, hbb⟩
theorem itemsOf_any (l : List UInt8) (w : World) (hl : l.length ≤ maxLen) :
    Calls Tryz.prog 139 #[.string (bs l)] w fun e w' => Below w.heap.size w w' ∧ ((decOk l = none ∧ e = .returned (.tuple #[.slice none 0 0, .int .i64 8]))
      ∨ ∃ items v, decOk l = some items ∧ FitAll items ∧ items.length ≤ 255 ∧ e = .returned (.tuple #[v, .int .i64 0]) ∧ OwnsIt w' w.heap.size v items) := by
  go_enter Tryz.func139, Tryz.ntmps139
  go_wp2_with fail
  refine (dirDecode_any l w hl).mono ?_
  rintro e w1 ⟨hb, ⟨hd, rfl⟩ | ⟨items, v, hd, hf, hl2, rfl, ho⟩⟩
  · have Hd := hide hd
    clear hd
    go_wp2_with fail
    go_ret2
    exact ⟨hb, .inl ⟨unhide Hd, rfl⟩⟩
  · have Hd := hide hd
    clear hd
    go_wp2_with fail
    go_ret2
    exact ⟨hb, .inr ⟨items, _, unhide Hd, hf, hl2, rfl, ho⟩⟩
/-- what an item is in a call -/
def itV (x : P.It) : Value := .agg #[.string x.name, .int .i64 x.kind, .string x.dig, .int .i64 x.size, .string x.tgt]
set_option maxHeartbeats 1000000 in
theorem target_any (p : List UInt8) (x : P.It) (w : World) (hg : GlobOk w) (hp : p.length ≤ 1100000) (hd1 : (sp p).length ≤ 100) (hl : x.tgt.size ≤ 1100000) :
    Calls Tryz.prog 142 #[.string (bs p), itV x] w fun e w' => Below w.heap.size w w' ∧ e = .returned (if outP (((sp p).length : Int) - 1) x.tgt.data.toList = true then .tuple #[.string ⟨#[]⟩, .slice none 0 0, .int .i64 8] else .tuple #[.string x.tgt, .slice none 0 0, .int .i64 0]) := by
  obtain ⟨nm, kd, dg, sz, tg⟩ := x
  obtain ⟨t, rfl⟩ : ∃ t, tg = bs t := ⟨tg.data.toList, (bs_of tg).symm⟩
  simp only [bs_data, bs_size] at hl ⊢
  have hbA : Below w.heap.size w (w.alloc (.cells #[.string nm, .int .i64 kd, .string dg, .int .i64 sz, .string (bs t)] 47)) := (Below.refl _ _).alloc (Nat.le_refl _) _
  have hle := leads_any p t _ (hg.below hbA (Nat.le_refl _)) hp hd1 hl
  have hbk := heap_alloc_new w (.cells #[.string nm, .int .i64 kd, .string dg, .int .i64 sz, .string (bs t)] 47)
  unfold itV
  generalize hB : outP (((sp p).length : Int) - 1) t = B at *
  clear hB
  have Hle := hide hle
  clear hle
  go_enter Tryz.func142, Tryz.ntmps142
  go_wp2_with fail
  refine (unhide Hle).mono ?_
  rintro e w1 ⟨rfl, hb1⟩
  have k4 := cell_of_block (j := 4) ((hb1.block w.heap.size (by simp)).trans hbk)
  simp only [List.getElem?_toArray, List.getElem?_cons_zero, List.getElem?_cons_succ] at k4
  have hbb : Below w.heap.size w w1 := hbA.trans (hb1.mono hbA.size)
  clear hbA hb1 hbk Hle
  cases B with
  | true =>
    go_wp2_with fail
    go_ret3
    exact ⟨hbb, rfl⟩
  | false =>
    go_wp2_with fail
    go_ret3
    exact ⟨hbb, rfl⟩
end Go.Proofs.YtjmacegibchplaaGreatDoor

/-
  Fetch over plain lists, step by step as the program goes. No walk.
-/
namespace Go.Proofs.YtjmacegibchplaaGreatDoor
set_option linter.unusedVariables false

def contE (S : List UInt8 → Option (List UInt8)) (deep : Int) (x : P.It) : Int :=
  if x.kind = 3 then (if outP (deep - 1) x.tgt.data.toList = true then 8 else 0)
  else if (blobS S x.dig.data.toList).1 ≠ 0 then (blobS S x.dig.data.toList).1
  else if ((blobS S x.dig.data.toList).2.length : Int) ≠ x.size ∨ (x.kind ≠ 0 ∧ 60 < (blobS S x.dig.data.toList).2.length) then 8
  else if x.kind = 0 then (if (decOk (blobS S x.dig.data.toList).2).isSome then 0 else 8) else 0
def contD (S : List UInt8 → Option (List UInt8)) (x : P.It) : ByteArray := if x.kind = 3 then x.tgt else if x.kind = 0 then ⟨#[]⟩ else bs (blobS S x.dig.data.toList).2
def contI (S : List UInt8 → Option (List UInt8)) (x : P.It) : List P.It := if x.kind = 0 then (decOk (blobS S x.dig.data.toList).2).getD [] else []
def budQ (n : Nat) (ents dep deep : Int) : Bool := decide (min ents 40 < (n : Int) + 1) || decide (min dep 5 < deep)
theorem bud_iff (n : Nat) (ents dep deep : Int) (hn : n ≤ 40) : (ents < (n : Int) + 1 ∨ dep < deep ∨ n = 40 ∨ 5 < deep) ↔ budQ n ents dep deep = true := by
  unfold budQ
  rw [Bool.or_eq_true, decide_eq_true_eq, decide_eq_true_eq]
  omega
theorem fet_bud (S : List UInt8 → Option (List UInt8)) (ents dep : Int) (rec : List UInt8 → List UInt8 → List En → Int × List En) (d : List UInt8) (deep : Int) (x : P.It) (r : List P.It) (out : List En) (hn : out.length ≤ 40) (hb : budQ out.length ents dep deep = true) : fetItems S ents dep rec d deep (x :: r) out = (9, out) := by
  rw [fetItems, if_pos ((bud_iff _ _ _ _ hn).2 hb)]
theorem fet_err (S : List UInt8 → Option (List UInt8)) (ents dep : Int) (f : Nat) (d : List UInt8) (deep : Int) (x : P.It) (r : List P.It) (out : List En) (hn : out.length ≤ 40) (hb : budQ out.length ents dep deep = false) (hc : contE S deep x ≠ 0) : (fetItems S ents dep (belowF S ents dep (f + 1) (deep + 1)) d deep (x :: r) out).1 = contE S deep x := by
  have hb2 : ¬ (ents < (out.length : Int) + 1 ∨ dep < deep ∨ out.length = 40 ∨ 5 < deep) := fun h => by rw [(bud_iff _ _ _ _ hn).1 h] at hb; simp at hb
  rw [fetItems, if_neg hb2]
  unfold contE at hc ⊢
  by_cases h3 : x.kind = 3
  · rw [if_pos h3] at hc ⊢
    rw [if_pos h3]
    by_cases ho : outP (deep - 1) x.tgt.data.toList = true
    · rw [if_pos ho, if_pos ho]
    · rw [if_neg ho] at hc; exact absurd rfl hc
  · rw [if_neg h3] at hc ⊢
    rw [if_neg h3]
    by_cases h1 : (blobS S x.dig.data.toList).1 ≠ 0
    · rw [if_pos h1, if_pos h1]
    · rw [if_neg h1] at hc ⊢
      rw [if_neg h1]
      by_cases h2 : ((blobS S x.dig.data.toList).2.length : Int) ≠ x.size ∨ (x.kind ≠ 0 ∧ 60 < (blobS S x.dig.data.toList).2.length)
      · rw [if_pos h2, if_pos h2]
      · rw [if_neg h2] at hc ⊢
        rw [if_neg h2]
        by_cases h0 : x.kind = 0
        · rw [if_pos h0] at hc ⊢
          rw [if_neg (by simpa using h0)]
          cases hd : decOk (blobS S x.dig.data.toList).2 with
          | some l => rw [hd] at hc; simp at hc
          | none => simp [belowF, hd]
        · rw [if_neg h0] at hc; exact absurd rfl hc
theorem fet_step (S : List UInt8 → Option (List UInt8)) (ents dep : Int) (f : Nat) (d : List UInt8) (deep : Int) (x : P.It) (r : List P.It) (out : List En) (hn : out.length ≤ 40) (hb : budQ out.length ents dep deep = false) (hc : contE S deep x = 0) (hx : P.itemOk x = true) :
    fetItems S ents dep (belowF S ents dep (f + 1) (deep + 1)) d deep (x :: r) out =
      (if (fetItems S ents dep (belowF S ents dep f (deep + 1 + 1)) (pre d ++ x.name.data.toList) (deep + 1) (contI S x) (out ++ [⟨bs (pre d ++ x.name.data.toList), x.kind, contD S x⟩])).1 ≠ 0
        then fetItems S ents dep (belowF S ents dep f (deep + 1 + 1)) (pre d ++ x.name.data.toList) (deep + 1) (contI S x) (out ++ [⟨bs (pre d ++ x.name.data.toList), x.kind, contD S x⟩])
        else fetItems S ents dep (belowF S ents dep (f + 1) (deep + 1)) d deep r (fetItems S ents dep (belowF S ents dep f (deep + 1 + 1)) (pre d ++ x.name.data.toList) (deep + 1) (contI S x) (out ++ [⟨bs (pre d ++ x.name.data.toList), x.kind, contD S x⟩])).2) := by
  have hb2 : ¬ (ents < (out.length : Int) + 1 ∨ dep < deep ∨ out.length = 40 ∨ 5 < deep) := fun h => by rw [(bud_iff _ _ _ _ hn).1 h] at hb; simp at hb
  rw [fetItems, if_neg hb2]
  unfold contE at hc
  by_cases h3 : x.kind = 3
  · rw [if_pos h3] at hc ⊢
    have ho : ¬ outP (deep - 1) x.tgt.data.toList = true := fun h => by rw [if_pos h] at hc; simp at hc
    rw [if_neg ho]
    have hI : contI S x = [] := by unfold contI; rw [if_neg (by omega)]
    have hD : contD S x = x.tgt := by unfold contD; rw [if_pos h3]
    rw [hI, hD, h3]
    simp [fetItems]
  · rw [if_neg h3] at hc ⊢
    have h1 : ¬ (blobS S x.dig.data.toList).1 ≠ 0 := fun h => by rw [if_pos h] at hc; exact h hc
    rw [if_neg h1] at hc ⊢
    have h2 : ¬ (((blobS S x.dig.data.toList).2.length : Int) ≠ x.size ∨ (x.kind ≠ 0 ∧ 60 < (blobS S x.dig.data.toList).2.length)) := fun h => by rw [if_pos h] at hc; simp at hc
    rw [if_neg h2] at hc ⊢
    by_cases h0 : x.kind = 0
    · rw [if_pos h0] at hc
      rw [if_neg (by simpa using h0)]
      have htg := (ok_plain x hx h3).1
      have hD : contD S x = ⟨#[]⟩ := by unfold contD; rw [if_neg h3, if_pos h0]
      cases hd : decOk (blobS S x.dig.data.toList).2 with
      | none => rw [hd] at hc; simp at hc
      | some l =>
        have hI : contI S x = l := by unfold contI; rw [if_pos h0, hd]; rfl
        rw [hI, hD, h0, htg]
        simp only [belowF, hd]
    · rw [if_pos (by simpa using h0)]
      have hI : contI S x = [] := by unfold contI; rw [if_neg h0]
      have hD : contD S x = bs (blobS S x.dig.data.toList).2 := by unfold contD; rw [if_neg h3, if_neg h0]
      rw [hI, hD]
      simp [fetItems]
/-- what is in a directory that was met is items -/
theorem contI_ok (S : List UInt8 → Option (List UInt8)) (x y : P.It) (h : y ∈ contI S x) : P.itemOk y = true := by
  unfold contI at h
  split at h
  · cases hd : decOk (blobS S x.dig.data.toList).2 with
    | none => rw [hd] at h; simp at h
    | some l =>
      rw [hd] at h
      exact dir_each l ((decOk_iff _ _).1 hd).1 y h
  · simp at h
end Go.Proofs.YtjmacegibchplaaGreatDoor
