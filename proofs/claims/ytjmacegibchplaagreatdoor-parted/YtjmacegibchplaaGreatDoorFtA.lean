import Derived.Test.YtjmacegibchplaaGreatDoorTurnP
import Derived.Test.YtjmacegibchplaaGreatDoorUpE
import Derived.Test.YtjmacegibchplaaGreatDoorFetR
import Derived.Test.YtjmacegibchplaaGreatDoorGrpV
import Derived.Test.YtjmacegibchplaaGreatDoorPrD
import Derived.Test.YtjmacegibchplaaGreatDoorOfB
/-
  The statement on Build: its body.
-/
namespace Go.Proofs.YtjmacegibchplaaGreatDoor
open Go.RowKit
set_option linter.unusedVariables false
def smallL : List En := [⟨⟨#[100, 47, 102]⟩, 2, ⟨#[98, 121, 116, 101, 115]⟩⟩, ⟨⟨#[100]⟩, 0, ⟨#[]⟩⟩, ⟨⟨#[97]⟩, 3, ⟨#[100, 47, 102]⟩⟩]
theorem small_len : (outOf smallL).length = 3 := by kernel_rfl
theorem small_fit : TFit smallL := by
  intro i hi
  match i, hi with
  | 0, _ => show (3 : Nat) ≤ 1100000 ∧ (5 : Nat) ≤ maxLen; decide
  | 1, _ => show (1 : Nat) ≤ 1100000 ∧ (0 : Nat) ≤ maxLen; decide
  | 2, _ => show (1 : Nat) ≤ 1100000 ∧ (3 : Nat) ≤ maxLen; decide
end Go.Proofs.YtjmacegibchplaaGreatDoor

/-
  A small tree that is built, brought and fetched: the plain answers. No walk.
-/
namespace Go.Proofs.YtjmacegibchplaaGreatDoor
set_option linter.unusedVariables false
def awkU := upP 1000 smallL 3 5000 [1, 2, 0, 3] []
theorem awk_err : errOf smallL = 0 := by kernel_rfl
theorem awk_code : awkU.2.2.1 = 0 := by kernel_rfl
theorem awk_tries : awkU.2.1.1 = 4 ∧ awkU.2.1.2.1 = 3 := by constructor <;> kernel_rfl
theorem awk_root : awkU.1 = rootOf smallL := by kernel_rfl
theorem awk_sum : sumP awkU.2.2.2 ≤ 1000 := by decide +kernel
theorem awk_fetch : fetchP (atP awkU.2.2.2) (rootOf smallL) 40 5 = (0, [⟨⟨#[97]⟩, 3, ⟨#[100, 47, 102]⟩⟩, ⟨⟨#[100]⟩, 0, ⟨#[]⟩⟩, ⟨⟨#[100, 47, 102]⟩, 2, ⟨#[98, 121, 116, 101, 115]⟩⟩]) := by kernel_rfl
theorem at_sum : ∀ (st : List (List UInt8 × List UInt8)) (d b : List UInt8), atP st d = some b → b.length ≤ sumP st
  | [], d, b, h => by simp [atP] at h
  | (k, x) :: r, d, b, h => by
    simp only [atP] at h
    simp only [sumP]
    split at h
    · obtain rfl := Option.some.inj h; omega
    · have := at_sum r d b h; omega
end Go.Proofs.YtjmacegibchplaaGreatDoor

/-
  Lists of entries of the statements without the document's answer: turned, same.
-/
namespace Go.Proofs.YtjmacegibchplaaGreatDoor
open Go.RowKit
set_option linter.unusedVariables false
def OwnsE (w : World) (base : Nat) (v : Value) (l : List En) : Prop := w.ownsRow base 32 3 v l.length (rowCells enCells l)
theorem app_entry {w : World} {ops : Array Oper} {rest : List Oper} {o : Oper} {a : Act} {Q : Exit → Act → World → Prop} (hgd : o.guard = none) (s x : Operand)
    (ho : o.op = .call { callee := .builtin .append, args := #[s, x], argTypes := #[22, 22] }) (base : Nat) (v : Value) (l : List En) (hs : a.eval s = v) (hown : OwnsE w base v l)
    (ad : Addr) (y : En) (hx : a.eval x = .slice (some ad) 1 1) (hnews : ∀ j u, (enCells y)[j]? = some u → w.cell? (ad.add j) = some u)
    (hlen : l.length ≤ 1000000) (hbase : base ≤ w.heap.size)
    (h : ∀ v' w', OwnsE w' base v' (l ++ [y]) → w.grownBy w' v.ownBlock → wpList Tryz.prog ops Q rest (a.put o.dst v') w') : wpList Tryz.prog ops Q (o :: rest) a w := by
  obtain ⟨i0, hi, hz0, hz1, hz2⟩ := info_parts info_ent
  refine wpList_append_own w hgd s x 22 ho base 32 i0 _ 3 40 Tryz.underlying22 hi hz0 hz1 hz2 rfl (by decide) v l.length (rowCells enCells l) hs hown ad 1 1 (enCells y) hx rfl hnews ?_ (by unfold maxLen; omega) (by omega) hbase ?_
  · intro u hu
    exact enCells_one [y] u (by simpa [rowCells] using hu)
  · intro v' w' h2 h3 _
    refine h v' w' ?_ h3
    unfold OwnsE
    rw [show rowCells enCells (l ++ [y]) = rowCells enCells l ++ enCells y by simp [rowCells], List.length_append]
    exact h2
theorem entsGet {w : World} {a : Option Addr} {l : List En} (h : LiesE w a l) {k : Nat} (hk : k < l.length) : ∃ b o, a = some ⟨b, o, none⟩ ∧ EntsAt w b o l := by
  rcases h with h | h
  · subst h; simp at hk
  · exact h
theorem entAt_lt {w : World} {b p : Nat} {x : En} (h : EntAt w b p x) : b < w.heap.size := block_lt h.1
theorem EntAt.below {B : Nat} {w w' : World} {b p : Nat} {x : En} (h : EntAt w b p x) (hb : Below B w w') (hB : b < B) : EntAt w' b p x := by
  obtain ⟨c0, c1, c2⟩ := h
  exact ⟨(hb.cell (p := ⟨b, _, none⟩) hB).trans c0, (hb.cell (p := ⟨b, _, none⟩) hB).trans c1, (hb.cell (p := ⟨b, _, none⟩) hB).trans c2⟩
set_option maxHeartbeats 1000000 in
theorem turned_any (l : List En) (a : Option Addr) (c : Nat) (w : World) (hl : l.length ≤ 40) (hi : LiesE w a l) :
    Calls Tryz.prog 34 #[.slice a l.length c] w fun e w' => ∃ v, e = .returned v ∧ OwnsE w' w.heap.size v l.reverse ∧ Below w.heap.size w w' := by
  go_enter Tryz.func34, Tryz.ntmps34
  go_wp2_with fail
  go_loopw [3, 4] (fun v i wr => ∃ k : Nat, k ≤ l.length ∧ i = .int .i64 ((k : Int) - 1) ∧ OwnsE wr w.heap.size v (l.drop k).reverse ∧ Below w.heap.size w wr) (fun _ i _ => (intOf i + 1).toNat)
  case atStart => exact ⟨l.length, Nat.le_refl _, by go_num, by rw [List.drop_length]; exact World.ownsRow_nil _ _ _ _, Below.refl _ _⟩
  case round =>
    obtain ⟨k, hk, rfl, hown, hbel⟩ := hrel
    by_cases h0 : 1 ≤ k
    · obtain ⟨m, rfl⟩ : ∃ m, k = m + 1 := ⟨k - 1, by omega⟩
      have hm : m < l.length := by omega
      obtain ⟨b, o, rfl, hc⟩ := entsGet hi hm
      obtain ⟨c0, c1, c2⟩ := EntAt.below (hc m hm) hbel (entAt_lt (hc m hm))
      have hb := hbel.size
      have hr : (l.drop (m + 1)).reverse ++ [l[m]] = (l.drop m).reverse := by rw [List.drop_eq_getElem_cons hm, List.reverse_cons]
      have Hr := hide hr
      clear hr hc
      have q1 : (m : Int) < (l.length : Int) := by omega
      have hlen : (l.drop (m + 1)).reverse.length ≤ 40 := by simp; omega
      generalize l[m] = x at *
      generalize (l.drop (m + 1)).reverse = done at *
      rw [show ((m + 1 : Nat) : Int) - 1 = (m : Int) by omega]
      obtain ⟨xp, xk, xd⟩ := x
      simp only at c0 c1 c2
      go_wp2_with (at_builtin; refine app_entry rfl (.tmp 12) (.tmp 17) rfl w.heap.size _ done rfl (World.ownsRow.alloc hown _) ⟨wr.heap.size, 0, none⟩ ⟨xp, xk, xd⟩ rfl ?qa ?qb ?qc ?_)
      case qa =>
        intro j u hu
        have hbk := heap_alloc_new wr (.cells #[.string xp, .int .i64 xk, .string xd] 32)
        have hadd : (⟨wr.heap.size, 0, none⟩ : Addr).add j = ⟨wr.heap.size, j, none⟩ := by unfold Addr.add; split <;> simp_all
        rw [hadd]
        match j, hu with
        | 0, hu => simp [enCells] at hu; subst hu; exact cell_of_block hbk
        | 1, hu => simp [enCells] at hu; subst hu; exact cell_of_block hbk
        | 2, hu => simp [enCells] at hu; subst hu; exact cell_of_block hbk
        | j + 3, hu => simp [enCells] at hu
      case qb => omega
      case qc => simp; omega
      intro v4 w4 ho4 g4
      have hb4 : Below w.heap.size w w4 := (hbel.alloc hbel.size _).grown g4 (by simp; omega) (fun k hk => (World.ownsRow.lt hown k hk).1)
      clear g4
      go_wp2_with fail
      go_roundw
      case rel => exact ⟨m, by omega, by go_num, by rw [unhide Hr] at ho4; exact ho4, hb4⟩
      case measure => simp [intOf]
    · obtain rfl : k = 0 := by omega
      go_wp2_with fail
      go_ret
      exact ⟨_, rfl, hown, hbel⟩
end Go.Proofs.YtjmacegibchplaaGreatDoor

/-
  Have two lists the same entries (the statements' own test, without the document's answer)?
-/
namespace Go.Proofs.YtjmacegibchplaaGreatDoor
open Go.RowKit
set_option linter.unusedVariables false
end Go.Proofs.YtjmacegibchplaaGreatDoor

/-
  Is a list of entries in order (the statements' own test, without the document's answer)?
-/
namespace Go.Proofs.YtjmacegibchplaaGreatDoor
open Go.RowKit
set_option linter.unusedVariables false
theorem bs_eqb (x y : List UInt8) : ((bs x).toList == (bs y).toList) = (x == y) := str_eq2 x y
end Go.Proofs.YtjmacegibchplaaGreatDoor

/-
  Does a link lead out (the statements' own test)? The two files of one digest.
-/
namespace Go.Proofs.YtjmacegibchplaaGreatDoor
open Go.RowKit
set_option linter.unusedVariables false
def dq (q : List UInt8) : Nat := if q = [] then 0 else (sp q).length
end Go.Proofs.YtjmacegibchplaaGreatDoor

/-
  What a store holds is never more than its room by uploads; trees are of bounded size; links of a tree do not lead out. No walk.
-/
namespace Go.Proofs.YtjmacegibchplaaGreatDoor
set_option linter.unusedVariables false
section
variable {room : Int} {Q : List (List UInt8 × List UInt8) → Prop} (hQ : ∀ st b, Q st → Q (putP room st b).2)
include hQ
end
theorem tree_data (l : List En) (ht : Tree l) (i : Nat) (h : i < l.length) : l[i].data.size ≤ 60 := by
  have hk := fineP_kind l i h (ht.fine i h)
  rcases kind_cases hk with ⟨_, e⟩ | ⟨_, e⟩ | e
  · rw [e]; decide
  · exact e
  · have := fineP_link l i h (ht.fine i h) e
    unfold P.isTarget at this
    simp at this
    have h2 : l[i].data.data.toList.length = l[i].data.size := rfl
    have h3 : l[i].data.data.size = l[i].data.size := rfl
    omega
theorem tree_fit (l : List En) (ht : Tree l) : TFit l := fun i h => by
  have h1 := tree_path l ht i h
  have h2 := tree_data l ht i h
  have h3 : l[i].path.data.toList.length = l[i].path.size := rfl
  exact ⟨by omega, by unfold maxLen; omega⟩
end Go.Proofs.YtjmacegibchplaaGreatDoor

/-
  The document's examples: the plain answers. No walk.
-/
namespace Go.Proofs.YtjmacegibchplaaGreatDoor
set_option linter.unusedVariables false
end Go.Proofs.YtjmacegibchplaaGreatDoor

/-
  The program's Fetch: paths, and what stands under a digest.
-/
namespace Go.Proofs.YtjmacegibchplaaGreatDoor
open Go.RowKit Go.Maps Go.WideMaps
set_option linter.unusedVariables false
theorem join_any (d n : List UInt8) (w : World) (hd : d.length ≤ 100000) (hn : n.length ≤ 100000) :
    Calls Tryz.prog 140 #[.string (bs d), .string (bs n)] w fun e w' => e = .returned (.string (bs (pre d ++ n))) ∧ w' = w := by
  by_cases h : d = []
  · subst h
    have e2 : (bs ([] : List UInt8)).toList.isEmpty = true := by rw [ByteArray.toList_eq, bs_data]; rfl
    have Hr := hide (show bs (pre [] ++ n) = bs n by rfl)
    go_enter Tryz.func140, Tryz.ntmps140
    go_wp2_with fail
    go_ret
    exact ⟨ret_string (unhide Hr).symm, rfl⟩
  · have e1 : ((bs d).toList == (⟨#[]⟩ : ByteArray).toList) = false := by
      have := str_eq2 d []
      rw [show (d == ([] : List UInt8)) = false by simpa using h] at this
      exact this
    have e2 : (bs d).toList.isEmpty = false := by rw [ByteArray.toList_eq, bs_data]; simpa using h
    have Hr := hide (show bs (pre d ++ n) = (bs d ++ (⟨#[47]⟩ : ByteArray)) ++ bs n by
      apply ByteArray.ext
      unfold pre
      rw [if_neg h]
      simp [bs, ByteArray.data_append])
    have hz1 := bs_size d
    have hz2 := bs_size n
    clear h
    go_enter Tryz.func140, Tryz.ntmps140
    go_wp2_with fail
    go_ret
    exact ⟨ret_string (unhide Hr).symm, rfl⟩
set_option maxRecDepth 100000 in
set_option maxHeartbeats 1000000 in
theorem blobUnder_any (st : List (List UInt8 × List UInt8)) (pb um n : Nat) (room : Int) (d : List UInt8) (w : World) (h : PStore w pb um n room st) (hd : d.length ≤ maxLen) (hsz : ∀ b, atP st d = some b → b.length ≤ 10000000) :
    Calls Tryz.prog 138 #[.pointer (some ⟨pb, 0, none⟩), .string (bs d)] w fun e w' => e = .returned (.tuple #[.string (bs (blobS (atP st) d).2), .int .i64 (blobS (atP st) d).1]) ∧ Below w.heap.size w w' := by
  have hget := get_any st pb um n room d w h hd hsz
  cases ha : atP st d with
  | none =>
    have h1 : getB st d = [] := by unfold getB; rw [ha]; rfl
    have h2 : getE st d = 7 := by unfold getE; rw [ha]; rfl
    have Hr := hide (show blobS (atP st) d = (7, []) by unfold blobS; rw [ha])
    rw [h1, h2] at hget
    clear ha h1 h2 hsz h
    go_enter Tryz.func138, Tryz.ntmps138
    go_wp2_with fail
    refine hget.mono ?_
    rintro e w1 ⟨rfl, hb1⟩
    go_wp2_with fail
    go_ret2
    exact ⟨by rw [unhide Hr]; rfl, hb1⟩
  | some b =>
    have h1 : getB st d = b := by unfold getB; rw [ha]; rfl
    have h2 : getE st d = 0 := by unfold getE; rw [ha]; rfl
    have hdg := fun w => tdig b w (hsz b ha)
    rw [h1, h2] at hget
    have hx := str_eq2 (P.digest b) d
    by_cases he : P.digest b = d
    · have Hr := hide (show blobS (atP st) d = (0, b) by unfold blobS; rw [ha]; simp [he])
      rw [show (P.digest b == d) = true by simpa using he] at hx
      clear ha h1 h2 hsz h he
      generalize P.digest b = D at *
      go_enter Tryz.func138, Tryz.ntmps138
      go_wp2_with fail
      refine hget.mono ?_
      rintro e w1 ⟨rfl, hb1⟩
      clear hget
      go_wp2_with fail
      refine (hdg _).mono ?_
      rintro e w2 ⟨rfl, hb2⟩
      have hbb := hb1.trans (hb2.mono hb1.size)
      clear hb1 hb2
      go_wp2_with fail
      go_ret2
      exact ⟨by rw [unhide Hr]; rfl, hbb⟩
    · have Hr := hide (show blobS (atP st) d = (8, []) by unfold blobS; rw [ha]; simp [he])
      rw [show (P.digest b == d) = false by simpa using he] at hx
      clear ha h1 h2 hsz h he
      generalize P.digest b = D at *
      go_enter Tryz.func138, Tryz.ntmps138
      go_wp2_with fail
      refine hget.mono ?_
      rintro e w1 ⟨rfl, hb1⟩
      clear hget
      go_wp2_with fail
      refine (hdg _).mono ?_
      rintro e w2 ⟨rfl, hb2⟩
      have hbb := hb1.trans (hb2.mono hb1.size)
      clear hb1 hb2
      go_wp2_with fail
      go_ret2
      exact ⟨by rw [unhide Hr]; rfl, hbb⟩
theorem itemsOf_any (l : List UInt8) (w : World) (hl : l.length ≤ maxLen) :
    Calls Tryz.prog 139 #[.string (bs l)] w fun e w' => Below w.heap.size w w' ∧ ((decOk l = none ∧ e = .returned (.tuple #[.slice none 0 0, .int .i64 8]))
      ∨ ∃ items v, decOk l = some items ∧ FitAll items ∧ items.length ≤ 255 ∧ e = .returned (.tuple #[v, .int .i64 0]) ∧ OwnsIt w' w.heap.size v items) := by
  go_enter Tryz.func139, Tryz.ntmps139
  go_wp2_with fail
  refine (dirDecode_any l w hl).mono ?_
  rintro e w1 ⟨hb, ⟨hd, rfl⟩ | ⟨items, v, hd, hf, hl2, rfl, ho⟩⟩
  · have Hd := hide hd
    clear hd
    go_wp2_with fail
    go_ret2
    exact ⟨hb, .inl ⟨unhide Hd, rfl⟩⟩
  · have Hd := hide hd
    clear hd
    go_wp2_with fail
    go_ret2
    exact ⟨hb, .inr ⟨items, _, unhide Hd, hf, hl2, rfl, ho⟩⟩
def itV (x : P.It) : Value := .agg #[.string x.name, .int .i64 x.kind, .string x.dig, .int .i64 x.size, .string x.tgt]
set_option maxHeartbeats 1000000 in
theorem target_any (p : List UInt8) (x : P.It) (w : World) (hg : GlobOk w) (hp : p.length ≤ 1100000) (hd1 : (sp p).length ≤ 100) (hl : x.tgt.size ≤ 1100000) :
    Calls Tryz.prog 142 #[.string (bs p), itV x] w fun e w' => Below w.heap.size w w' ∧ e = .returned (if outP (((sp p).length : Int) - 1) x.tgt.data.toList = true then .tuple #[.string ⟨#[]⟩, .slice none 0 0, .int .i64 8] else .tuple #[.string x.tgt, .slice none 0 0, .int .i64 0]) := by
  obtain ⟨nm, kd, dg, sz, tg⟩ := x
  obtain ⟨t, rfl⟩ : ∃ t, tg = bs t := ⟨tg.data.toList, (bs_of tg).symm⟩
  simp only [bs_data, bs_size] at hl ⊢
  have hbA : Below w.heap.size w (w.alloc (.cells #[.string nm, .int .i64 kd, .string dg, .int .i64 sz, .string (bs t)] 47)) := (Below.refl _ _).alloc (Nat.le_refl _) _
  have hle := leads_any p t _ (hg.below hbA (Nat.le_refl _)) hp hd1 hl
  have hbk := heap_alloc_new w (.cells #[.string nm, .int .i64 kd, .string dg, .int .i64 sz, .string (bs t)] 47)
  unfold itV
  generalize hB : outP (((sp p).length : Int) - 1) t = B at *
  clear hB
  have Hle := hide hle
  clear hle
  go_enter Tryz.func142, Tryz.ntmps142
  go_wp2_with fail
  refine (unhide Hle).mono ?_
  rintro e w1 ⟨rfl, hb1⟩
  have k4 := cell_of_block (j := 4) ((hb1.block w.heap.size (by simp)).trans hbk)
  simp only [List.getElem?_toArray, List.getElem?_cons_zero, List.getElem?_cons_succ] at k4
  have hbb : Below w.heap.size w w1 := hbA.trans (hb1.mono hbA.size)
  clear hbA hb1 hbk Hle
  cases B with
  | true =>
    go_wp2_with fail
    go_ret3
    exact ⟨hbb, rfl⟩
  | false =>
    go_wp2_with fail
    go_ret3
    exact ⟨hbb, rfl⟩
end Go.Proofs.YtjmacegibchplaaGreatDoor
