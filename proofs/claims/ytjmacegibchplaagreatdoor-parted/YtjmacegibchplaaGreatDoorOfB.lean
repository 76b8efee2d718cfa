import Derived.Test.YtjmacegibchplaaGreatDoorGrpV
import Derived.Test.YtjmacegibchplaaGreatDoorOfA
/-
  Batches, told over plain lists: how the program cuts what is missing, and that it is as the document does.
-/
namespace Go.Proofs.YtjmacegibchplaaGreatDoor
set_option linter.unusedVariables false
def batStep (batch : Int) (p : List (List (List UInt8)) × Int) (x : List UInt8) : List (List (List UInt8)) × Int :=
  if p.1 = [] ∨ p.2 < (x.length : Int) then (p.1 ++ [[x]], batch - (x.length : Int)) else (p.1.dropLast ++ [p.1.getLastD [] ++ [x]], p.2 - (x.length : Int))
def batTo (batch : Int) (l : List (List UInt8)) (k : Nat) : List (List (List UInt8)) × Int := (l.take k).foldl (batStep batch) ([], 0)
theorem batTo_succ (batch : Int) (l : List (List UInt8)) (k : Nat) (h : k < l.length) : batTo batch l (k + 1) = batStep batch (batTo batch l k) l[k] := by
  unfold batTo
  rw [List.take_succ_eq_append_getElem h, List.foldl_append]
  rfl
def chopP (batch : Int) : Nat → List (List UInt8) → List (List (List UInt8))
  | 0, _ => []
  | f + 1, miss => if miss = [] then [] else miss.take (sizeP batch miss) :: chopP batch f (miss.drop (sizeP batch miss))
theorem bat_last (d : List (List (List UInt8))) (cur : List (List UInt8)) : (d ++ [cur]).dropLast = d ∧ (d ++ [cur]).getLastD [] = cur := by
  constructor
  · simp
  · rw [List.getLastD_eq_getLast?, List.getLast?_append]; simp
theorem bat_fold (batch : Int) : ∀ (r : List (List UInt8)) (f : Nat) (d : List (List (List UInt8))) (cur : List (List UInt8)), r.length ≤ f →
    (r.foldl (batStep batch) (d ++ [cur], batch - (bytesP cur : Int))).1 = d ++ (cur ++ r.take (moreP batch (bytesP cur) r)) :: chopP batch f (r.drop (moreP batch (bytesP cur) r))
  | [], f, d, cur, _ => by
    cases f <;> simp [moreP, chopP]
  | x :: r, f, d, cur, hf => by
    obtain ⟨g, rfl⟩ : ∃ g, f = g + 1 := ⟨f - 1, by simp at hf; omega⟩
    have hg : r.length ≤ g := by simpa using hf
    simp only [List.foldl_cons, moreP]
    have hne : d ++ [cur] ≠ [] := by simp
    by_cases h : (bytesP cur : Int) + (x.length : Int) ≤ batch
    · have hb : bytesP (cur ++ [x]) = bytesP cur + x.length := by rw [bytes_app]; simp [bytesP]
      have hst : batStep batch (d ++ [cur], batch - (bytesP cur : Int)) x = (d ++ [cur ++ [x]], batch - (bytesP (cur ++ [x]) : Int)) := by
        unfold batStep
        simp only
        rw [if_neg (by rintro (h1 | h1)
                       · exact hne h1
                       · omega), (bat_last d cur).1, (bat_last d cur).2, hb]
        congr 1
        omega
      rw [if_pos h, hst, bat_fold batch r (g + 1) d (cur ++ [x]) (by omega), hb]
      simp
    · have hst : batStep batch (d ++ [cur], batch - (bytesP cur : Int)) x = ((d ++ [cur]) ++ [[x]], batch - (bytesP [x] : Int)) := by
        unfold batStep
        simp only
        rw [if_pos (.inr (by omega))]
        simp [bytesP]
      rw [if_neg h, hst, bat_fold batch r g (d ++ [cur]) [x] hg]
      simp [chopP, sizeP, bytesP]
theorem bat_chop (batch : Int) (l : List (List UInt8)) : (batTo batch l l.length).1 = chopP batch l.length l := by
  unfold batTo
  rw [List.take_length]
  cases l with
  | nil => rfl
  | cons x r =>
    simp only [List.foldl_cons]
    have hst : batStep batch ([], 0) x = ([] ++ [[x]], batch - (bytesP [x] : Int)) := by
      unfold batStep
      simp [bytesP]
    rw [hst, bat_fold batch r r.length [] [x] (Nat.le_refl _)]
    simp [chopP, sizeP, bytesP]
def sendsP (room : Int) (tries : Nat) (link : List Int) : List (List (List UInt8)) → List (List UInt8 × List UInt8) → Nat × Nat × Nat → Int × List (List UInt8 × List UInt8) × (Nat × Nat × Nat)
  | [], st, s => (0, st, s)
  | b :: r, st, s => if (tryP room link b tries st s).1 ≠ 0 then tryP room link b tries st s else sendsP room tries link r (tryP room link b tries st s).2.1 (tryP room link b tries st s).2.2
theorem send_chop (room batch : Int) (tries : Nat) (link : List Int) : ∀ (f : Nat) (miss : List (List UInt8)) (st : List (List UInt8 × List UInt8)) (s : Nat × Nat × Nat), sendP room batch tries link f miss st s = sendsP room tries link (chopP batch f miss) st s
  | 0, miss, st, s => rfl
  | f + 1, miss, st, s => by
    simp only [sendP, chopP]
    by_cases h : miss = []
    · rw [if_pos h, if_pos h]; rfl
    · rw [if_neg h, if_neg h]
      simp only [sendsP]
      split
      · rfl
      · exact send_chop room batch tries link f _ _ _
theorem chop_mem (batch : Int) : ∀ (f : Nat) (miss : List (List UInt8)), ∀ b ∈ chopP batch f miss, (∀ x ∈ b, x ∈ miss) ∧ b.length ≤ miss.length ∧ bytesP b ≤ bytesP miss
  | 0, miss => by simp [chopP]
  | f + 1, miss => by
    intro b hb
    simp only [chopP] at hb
    split at hb
    · simp at hb
    · rcases List.mem_cons.1 hb with hb | hb
      · subst hb
        refine ⟨fun x hx => List.mem_of_mem_take hx, by simp; omega, ?_⟩
        have := bytes_app (miss.take (sizeP batch miss)) (miss.drop (sizeP batch miss))
        rw [List.take_append_drop] at this
        omega
      · obtain ⟨h1, h2, h3⟩ := chop_mem batch f _ b hb
        refine ⟨fun x hx => List.mem_of_mem_drop (h1 x hx), by simp at h2; omega, ?_⟩
        have := bytes_app (miss.take (sizeP batch miss)) (miss.drop (sizeP batch miss))
        rw [List.take_append_drop] at this
        omega
theorem chop_len (batch : Int) : ∀ (f : Nat) (miss : List (List UInt8)), (chopP batch f miss).length ≤ f
  | 0, miss => by simp [chopP]
  | f + 1, miss => by
    simp only [chopP]
    split
    · simp
    · simp [chop_len batch f]
end Go.Proofs.YtjmacegibchplaaGreatDoor

/-
  The program's gather: what is made of each entry (its closure).
-/
namespace Go.Proofs.YtjmacegibchplaaGreatDoor
open Go.RowKit
set_option linter.unusedVariables false
theorem MapIs.mono {w : World} {b n m : Nat} {f : List UInt8 → Option Value} (h : MapIs w b n f) (hn : n ≤ m) : MapIs w b m f := by
  obtain ⟨D, h, hf⟩ := h
  exact ⟨D, h.mono hn, hf⟩
theorem KeepIs.mono {w : World} {bu bc um n m : Nat} {kr : List (List UInt8)} (h : KeepIs w bu bc um n kr) (hn : n ≤ m) : KeepIs w bu bc um m kr := ⟨h.u, h.c, h.m.mono hn⟩
theorem itCells_one1 (y : P.It) : ∀ u ∈ itCells y, u.oneCell' = true := fun u hu => itCells_one [y] u (by simpa [rowCells] using hu)
theorem row_lies {w : World} {base : Nat} {v : Value} {l : List P.It} (h : w.ownsRow base 47 5 v l.length (rowCells itCells l)) : ∃ a c, v = .slice a l.length c ∧ Lies w a l := by
  obtain ⟨a, c, h1, h2, _⟩ := OwnsIt.lies (show OwnsIt w base v l from h)
  exact ⟨a, c, h1, h2⟩
set_option maxHeartbeats 1000000 in
theorem encode_any (l : List P.It) (v : Value) (w : World) (base : Nat) (hown : w.ownsRow base 47 5 v l.length (rowCells itCells l)) (hf : FitAll l) (hd : dirOk l = true) :
    Calls Tryz.prog 104 #[v] w fun e w' => e = .returned (.string (bs (dirBytes l))) ∧ Below w.heap.size w w' := by
  obtain ⟨a, c, rfl, hl⟩ := row_lies hown
  have h40 := len_of_dirOk l hd
  have he := dirEncode_yes l a c w (by unfold maxLen; omega) hl hf hd
  change Calls Tryz.prog 57 #[.slice a l.length c] w fun e w' => e = .returned (.tuple #[.string (bs (dirBytes l)), .int .i64 0]) ∧ Below w.heap.size w w' at he
  generalize dirBytes l = B at *
  go_enter Tryz.func104, Tryz.ntmps104
  go_wp2_with fail
  refine he.mono ?_
  rintro e w1 ⟨rfl, hb1⟩
  go_wp2_with fail
  go_ret
  exact ⟨rfl, hb1⟩
def keptR (l : List En) (done : List Nat) : List (List UInt8) := (done.flatMap (fun i => partP l (l.getD i en0))).reverse
theorem keptR_snoc (l : List En) (done : List Nat) (i : Nat) : keptR l (done ++ [i]) = (partP l (l.getD i en0)).reverse ++ keptR l done := by
  unfold keptR; rw [List.flatMap_append]; simp
def itemsF (l : List En) (done : List Nat) : List UInt8 → List P.It := fun d => (done.filter (fun j => upAt l j == d)).map (itemQ l)
theorem itemsF_snoc (l : List En) (done : List Nat) (i : Nat) : itemsF l (done ++ [i]) = updG (itemsF l done) (upAt l i) (itemQ l i) := by
  funext d
  unfold itemsF updG
  rw [List.filter_append]
  by_cases h : d = upAt l i
  · rw [if_pos h, h]; simp
  · rw [if_neg h]
    have : ¬ upAt l i = d := fun e => h e.symm
    simp [this]
theorem itemsF_len (l : List En) (done : List Nat) (d : List UInt8) : (itemsF l done d).length ≤ done.length := by
  unfold itemsF; rw [List.length_map]; exact List.length_filter_le _ _
structure IG (l : List En) (base : Nat) (wB : World) (bit bk im bu bc um : Nat) (Own : Nat → Prop) (done : List Nat) (w : World) : Prop where
  lt : ∀ b, Own b → b < w.heap.size
  old : ∀ b, b < base → Own b
  ci : w.heap[bit]? = some (.cells #[.map (some im)] 150 (0, 0))
  ck : w.heap[bk]? = some (.cells #[.func (.func 65) #[] #[ptr bu, ptr bc]] 38 (0, 0))
  oi : Own bit
  ok : Own bk
  oku : ∀ b, b = bu ∨ b = bc ∨ b = um → Own b
  new : base ≤ bc ∧ base ≤ um ∧ base ≤ im
  grp : ∃ FI, Grp 47 5 itCells w base im done.length Own FI (itemsF l done)
  keep : KeepIs w bu bc um done.length (keptR l done)
  below : Below base wB w
theorem IG.stable {l : List En} {base : Nat} {wB : World} {bit bk im bu bc um : Nat} {Own : Nat → Prop} {done : List Nat} {w w' : World} (h : IG l base wB bit bk im bu bc um Own done w) (hk : OwnK Own w w') : IG l base wB bit bk im bu bc um Own done w' := by
  obtain ⟨FI, hg⟩ := h.grp
  exact ⟨fun b hb => Nat.lt_of_lt_of_le (h.lt b hb) hk.size, h.old, (hk.block bit h.oi).trans h.ci, (hk.block bk h.ok).trans h.ck, h.oi, h.ok, h.oku, h.new, ⟨FI, hg.kept (fun b hb _ => hk.block b hb)⟩, h.keep.same (fun b hb => hk.block b (h.oku b hb)),
    ⟨hk.os.trans h.below.os, hk.tape.trans h.below.tape, hk.output.trans h.below.output, Nat.le_trans h.below.size hk.size, fun b hb => (hk.block b (h.old b hb)).trans (h.below.block b hb)⟩⟩
theorem under72 : Tryz.prog.underlying 150 = some (.map 9 43) := by kernel_rfl
theorem under59 : Tryz.prog.underlying 43 = some (.slice 47) := by kernel_rfl
theorem zero_items (w : World) : (zeroValue 43).run Tryz.prog w = .ok (.slice none 0 0) w := by kernel_rfl
structure TailIn (base im n bit bt sz : Nat) (Own : Nat → Prop) (FI : List UInt8 → Option Value) (GI : List UInt8 → List P.It) (it : P.It) (W : World) : Prop where
  grp : Grp 47 5 itCells W base im n (fun b => Own b ∨ sz ≤ b) FI GI
  ci : W.heap[bit]? = some (.cells #[.map (some im)] 150 (0, 0))
  ct : W.heap[bt]? = some (.cells (itCells it).toArray 47 (0, 0))
  rows : ∀ d g, ((FI d).getD (.slice none 0 0)).ownBlock = some g → g ≠ bt
  sz : sz ≤ W.heap.size
  base : base ≤ W.heap.size
structure TailOut (base im n sz : Nat) (Own : Nat → Prop) (GI : List UInt8 → List P.It) (d : List UInt8) (it : P.It) (W W' : World) : Prop where
  grp : ∃ F', Grp 47 5 itCells W' base im (n + 1) (fun b => Own b ∨ sz ≤ b) F' (updG GI d it)
  fr : ∃ row : Option Nat, (∀ g, row = some g → (Own g ∨ sz ≤ g) ∧ base ≤ g ∧ ∃ cur, W.heap[g]? = some (.cells cur 47 (0, 0))) ∧ Fr (fun b => b = im ∨ some b = row) W W'
theorem tail_facts {base im n bit bt sz : Nat} {Own : Nat → Prop} {FI : List UInt8 → Option Value} {GI : List UInt8 → List P.It} {it : P.It} {W : World} (h : TailIn base im n bit bt sz Own FI GI it W) (d : List UInt8) (hd : d.length ≤ maxLen) (hn : n < 5000000000) (hG : (GI d).length ≤ n) :
    ∃ v, (FI d).getD (.slice none 0 0) = v ∧
      (∀ W' : World, W'.heap[im]? = W.heap[im]? → (Instr.lookup 150 (.map (some im)) (.string (bs d)) false).run Tryz.prog W' = .ok v W') ∧
      W.ownsRow base 47 5 v (GI d).length (rowCells itCells (GI d)) ∧
      some bit ≠ v.ownBlock ∧ some bt ≠ v.ownBlock ∧ im < W.heap.size ∧ bit < W.heap.size ∧ bt < W.heap.size ∧ bit ≠ im ∧ bt ≠ im ∧
      (∀ (w4 : World) (v' : Value), W.grownBy w4 v.ownBlock → w4.ownsRow base 47 5 v' ((GI d).length + 1) (rowCells itCells (GI d ++ [it])) → (v'.ownBlock = v.ownBlock ∨ ∃ g, v'.ownBlock = some g ∧ W.heap.size ≤ g) →
        ∃ w5, (Instr.mapUpdate 150 (.map (some im)) (.string (bs d)) v').run Tryz.prog w4 = .ok () w5 ∧ w4.grownBy w5 (some im) ∧ TailOut base im n sz Own GI d it W w5) := by
  have hat := h.grp.at d
  refine ⟨_, rfl, fun W' hW => (h.grp.map.same hW).look 150 43 under72 (.slice none 0 0) (zero_items _) d hd, hat, row_not_cell hat h.ci (by decide), fun e => h.rows d bt e.symm rfl, h.grp.map.lt, (Array.getElem?_eq_some_iff.1 h.ci).1, (Array.getElem?_eq_some_iff.1 h.ct).1, map_ne_cells h.grp.map h.ci, map_ne_cells h.grp.map h.ct, ?_⟩
  intro w4 v' hg ho hl
  obtain ⟨w5, hrun, hgrp, hg5⟩ := h.grp.put (w1 := w4) 150 43 under72 (by unfold maxLen; omega) d hd it v' hg ho hl (fun b hb => .inr (Nat.le_trans h.sz hb))
  refine ⟨w5, hrun, hg5, ⟨⟨_, hgrp⟩, ((FI d).getD (.slice none 0 0)).ownBlock, fun g hgg => ⟨h.grp.ownAt d g hgg, (World.ownsRow.lt hat g hgg).1, ?_⟩, ?_⟩⟩
  · rcases hat.2 with ⟨e, _⟩ | ⟨g', c, cur, e, _, hc, _⟩
    · rw [e] at hgg; simp [Value.ownBlock] at hgg
    · rw [e] at hgg
      simp only [Value.ownBlock, Option.some.injEq] at hgg
      subst hgg
      exact ⟨cur, hc⟩
  · exact (Fr.grown hg (fun g hgg => .inr hgg.symm)).trans (Fr.grown hg5 (fun g hgg => by cases hgg; exact .inl rfl))
end Go.Proofs.YtjmacegibchplaaGreatDoor
