/-
  The program's gather: what is made of each entry (its closure): the walk.
-/
import Derived.Test.YtjmacegibchplaaGreatDoorOfB
namespace Go.Proofs.YtjmacegibchplaaGreatDoor
open Go.RowKit
set_option linter.unusedVariables false
def GathEnd (l : List En) (base : Nat) (wB : World) (bit bk im bu bc um : Nat) (Own : Nat → Prop) (done : List Nat) (i : Nat) (w w' : World) : Prop :=
  ∃ Own', IG l base wB bit bk im bu bc um Own' (done ++ [i]) w' ∧ VisK Own Own' w w'
structure Mid (l : List En) (base bit bk im bu bc um bt : Nat) (Own : Nat → Prop) (FI : List UInt8 → Option Value) (done : List Nat) (i : Nat) (w W : World) : Prop where
  tail : TailIn base im done.length bit bt w.heap.size Own FI (itemsF l done) (itemQ l i) W
  keep : KeepIs W bu bc um (done.length + 1) (keptR l (done ++ [i]))
  fr : Fr (fun b => b = bc ∨ b = um) w W
theorem gath_end {l : List En} {base : Nat} {wB : World} {bit bk im bu bc um bt : Nat} {Own : Nat → Prop} {FI : List UInt8 → Option Value} {done : List Nat} {i : Nat} {w W W' : World} (hI : IG l base wB bit bk im bu bc um Own done w) (hne : um ≠ im)
    (hm : Mid l base bit bk im bu bc um bt Own FI done i w W) (ho : TailOut base im done.length w.heap.size Own (itemsF l done) (upAt l i) (itemQ l i) W W') : GathEnd l base wB bit bk im bu bc um Own done i w W' := by
  obtain ⟨F', hg'⟩ := ho.grp
  obtain ⟨row, hrow, hfr⟩ := ho.fr
  have hK := hm.keep
  have hbk : W.heap[bk]? = some (.cells #[.func (.func 65) #[] #[ptr bu, ptr bc]] 38 (0, 0)) :=
    (hm.fr.block bk (hI.lt bk hI.ok) (fun h => by
      rcases h with h | h
      · have a := hI.ck; have b := hI.keep.c; rw [← h, a] at b; simp at b
      · exact map_ne_cells hI.keep.m hI.ck h)).trans hI.ck
  have hcell : ∀ (b : Nat) (cur : Array Value) (t : TypeId), W.heap[b]? = some (Obj.cells cur t (0, 0)) → t ≠ 47 → W'.heap[b]? = W.heap[b]? := fun b cur t hb ht =>
    hfr.block b (Array.getElem?_eq_some_iff.1 hb).1 (fun h => by
      rcases h with h | h
      · exact map_ne_cells hm.tail.grp.map hb h
      · obtain ⟨_, _, cur', hc⟩ := hrow b h.symm
        rw [hb] at hc; simp at hc; exact ht hc.2)
  have hum : W'.heap[um]? = W.heap[um]? := hfr.block um hK.m.lt (fun h => by
    rcases h with h | h
    · exact hne h
    · obtain ⟨_, _, cur', hc⟩ := hrow um h.symm
      exact map_ne_cells hK.m hc rfl)
  have hsz : w.heap.size ≤ W'.heap.size := Nat.le_trans hm.fr.size hfr.size
  refine ⟨fun b => Own b ∨ (w.heap.size ≤ b ∧ b < W'.heap.size), ⟨?_, fun b hb => .inl (hI.old b hb), (hcell _ _ _ hm.tail.ci (by decide)).trans hm.tail.ci, (hcell _ _ _ hbk (by decide)).trans hbk, .inl hI.oi, .inl hI.ok, fun b hb => .inl (hI.oku b hb), hI.new, ⟨F', ?_⟩, ?_, ?_⟩, ⟨hsz, ?_, ?_⟩⟩
  · rintro b (hb | hb)
    · exact Nat.lt_of_lt_of_le (hI.lt b hb) hsz
    · exact hb.2
  · rw [itemsF_snoc, List.length_append]
    exact hg'.own (fun b hb hlt => hb.imp id (fun h => ⟨h, hlt⟩))
  · rw [List.length_append]
    refine hK.same (fun b hb => ?_)
    rcases hb with rfl | rfl | rfl
    · exact hcell _ _ _ hK.u (by decide)
    · exact hcell _ _ _ hK.c (by decide)
    · exact hum
  · have hb := hI.below
    refine ⟨(hfr.os.trans hm.fr.os).trans hb.os, (hfr.tape.trans hm.fr.tape).trans hb.tape, (hfr.output.trans hm.fr.output).trans hb.output, Nat.le_trans hb.size hsz, fun b hbl => ?_⟩
    have hbw : b < w.heap.size := hI.lt b (hI.old b hbl)
    have h1 := hm.fr.block b hbw (fun h => by rcases h with h | h <;> have := hI.new <;> omega)
    have h2 := hfr.block b (Nat.lt_of_lt_of_le hbw hm.fr.size) (fun h => by
      rcases h with h | h
      · have := hI.new; omega
      · have := (hrow b h.symm).2.1; omega)
    exact (h2.trans h1).trans (hb.block b hbl)
  · intro b hbl hno
    obtain ⟨FI0, hg0⟩ := hI.grp
    have h1 := hm.fr.block b hbl (fun h => hno (hI.oku b (.inr h)))
    have h2 := hfr.block b (Nat.lt_of_lt_of_le hbl hm.fr.size) (fun h => by
      rcases h with h | h
      · exact hno (by rw [h]; exact hg0.ownM)
      · rcases (hrow b h.symm).1 with h | h
        · exact hno h
        · omega)
    exact h2.trans h1
  · rintro b (hb | hb)
    · exact .inl hb
    · exact .inr hb.1
theorem itemQ_eq (l : List En) (ht : Tree l) (i : Nat) (h : i < l.length) (p d : List UInt8) (kd : Int) (hx : l.getD i en0 = ⟨bs p, kd, bs d⟩) :
    itemQ l i = if kd = 3 then ⟨bs (nameOf p), 3, ⟨#[]⟩, 0, bs d⟩ else ⟨bs (nameOf p), kd, bs (P.digest (if kd = 0 then blobP l 6 (p ++ [47]) else d)), ((if kd = 0 then blobP l 6 (p ++ [47]) else d).length : Int), ⟨#[]⟩⟩ := by
  have hp : pathAt l i = p := by unfold pathAt; rw [hx]; exact bs_data p
  have hn := nm_up l ht i h
  rw [hp] at hn
  unfold itemQ itemP
  rw [hx]
  simp only [hn, bs_data]
theorem fit_of_ok (l : List P.It) (h : dirOk l = true) : FitAll l := fun i hi => by
  have hs := sane_of_ok _ (ok_of_dirOk l h i hi)
  have := hs.nm; have := hs.dg; have := hs.tg
  unfold Fits maxLen
  omega
theorem grp_kept3 {α : Type} {e size : Nat} {enc : α → List Value} {w w' : World} {base mb n : Nat} {Own : Nat → Prop} {F : List UInt8 → Option Value} {G : List UInt8 → List α} (h : Grp e size enc w base mb n Own F G) (hm : w'.heap[mb]? = w.heap[mb]?) (hr : ∀ d v g, F d = some v → v.ownBlock = some g → w'.heap[g]? = w.heap[g]?) : Grp e size enc w' base mb n Own F G :=
  ⟨h.map.same hm, fun d v hv => ownsRow_same (h.some d v hv) (fun g hg => hr d v g hv hg), h.none, h.apart, h.ownM, h.ownR⟩
theorem mid_of {l : List En} {base : Nat} {wB : World} {bit bk im bu bc um bt : Nat} {Own : Nat → Prop} {FI : List UInt8 → Option Value} {done : List Nat} {i : Nat} {w W : World} (hI : IG l base wB bit bk im bu bc um Own done w) (hne : um ≠ im) (hgrp : Grp 47 5 itCells w base im done.length Own FI (itemsF l done)) (hbs : base ≤ w.heap.size)
    (it : P.It) (hQ : itemQ l i = it) (hfr : Fr (fun b => b = bc ∨ b = um) w W) (hk : KeepIs W bu bc um (done.length + 1) (keptR l (done ++ [i]))) (hct : W.heap[bt]? = some (.cells (itCells it).toArray 47 (0, 0))) (hbt : w.heap.size ≤ bt) :
    Mid l base bit bk im bu bc um bt Own FI done i w W := by
  have hcell : ∀ (b : Nat) (cur : Array Value) (t : TypeId), w.heap[b]? = some (Obj.cells cur t (0, 0)) → t ≠ 4 → W.heap[b]? = w.heap[b]? := fun b cur t hb ht =>
    hfr.block b (Array.getElem?_eq_some_iff.1 hb).1 (fun h => by
      rcases h with h | h
      · have := hI.keep.c; rw [← h, hb] at this; simp at this; exact ht this.2
      · exact map_ne_cells hI.keep.m hb h)
  refine ⟨⟨grp_kept3 (hgrp.own (fun b hb _ => Or.inl hb)) ?_ ?_, (hcell _ _ _ hI.ci (by decide)).trans hI.ci, by rw [hQ]; exact hct, fun d g hg e => ?_, hfr.size, Nat.le_trans hbs hfr.size⟩, hk, hfr⟩
  · refine hfr.block im hgrp.map.lt (fun h => ?_)
    rcases h with h | h
    · exact map_ne_cells hgrp.map hI.keep.c h.symm
    · exact hne h.symm
  · intro d v g hv hg
    rcases (hgrp.some d v hv).2 with ⟨rfl, _⟩ | ⟨g', c, cur, rfl, _, hc, _⟩
    · simp [Value.ownBlock] at hg
    · simp only [Value.ownBlock, Option.some.injEq] at hg
      subst hg
      exact hcell _ _ _ hc (by decide)
  · have := own_lt (hgrp.at d) hg
    omega
set_option maxRecDepth 100000 in
set_option maxHeartbeats 4000000 in
theorem gath1 (l : List En) (ht : Tree l) (hf : TFit l) (base : Nat) (wB : World) (bit bk im bu bc um : Nat) (hne : um ≠ im) (Own : Nat → Prop) (done : List Nat) (i : Nat) (w : World) (hi : i < l.length) (hlen : done.length < 5000000000) (hI : IG l base wB bit bk im bu bc um Own done w)
    (hfil : kindAt l i = 0 → done.filter (fun j => upAt l j == pathAt l i) = kidsP l (pathAt l i)) :
    Calls Tryz.prog 103 #[entV (l.getD i en0), ptr bit, ptr bk] w fun e w' => e = .returned (.tuple #[]) ∧ GathEnd l base wB bit bk im bu bc um Own done i w w' := by
  obtain ⟨i0, hi0, hz0, hz1, hz2⟩ := info_parts info_item
  obtain ⟨FI, hgrp⟩ := hI.grp
  have hfi := hf i hi
  have hkb := fineP_kind l i hi (ht.fine i hi)
  rw [← en_getD l i hi] at hfi hkb
  have hQ := itemQ_eq l ht i hi
  have hks := keptR_snoc l done i
  have hpa : pathAt l i = (l.getD i en0).path.data.toList := rfl
  have hka : kindAt l i = (l.getD i en0).kind := rfl
  generalize hx : l.getD i en0 = x at *
  obtain ⟨pa, kd, dt⟩ := x
  obtain ⟨p, rfl⟩ : ∃ p, pa = bs p := ⟨pa.data.toList, (bs_of pa).symm⟩
  obtain ⟨d, rfl⟩ : ∃ d, dt = bs d := ⟨dt.data.toList, (bs_of dt).symm⟩
  have hQ' := hQ p d kd rfl
  simp only [bs_data, bs_size] at hfi hpa hka
  have hpl : p.length ≤ 1100000 := hfi.1
  have hua : upAt l i = upPath p := by unfold upAt; rw [hpa]
  have hul : (upPath p).length ≤ maxLen := by unfold upPath maxLen; rw [List.length_take]; omega
  have hsp := fun w' => tsplit p w' hpl
  have hend := fun (FI : List UInt8 → Option Value) (bt : Nat) (W W' : World) hm ho => gath_end (i := i) (FI := FI) (bt := bt) (W := W) (W' := W') hI hne hm ho
  rw [hua] at hend
  have hGl := itemsF_len l done (upPath p)
  generalize nameOf p = nn at *
  have Hq := hide hQ'
  have Hks := hide hks
  have HI := hide hI
  have Hend := hide hend
  clear hQ hQ' hks hx hend hfi
  have hlc := hI.lt
  unfold entV ptr
  have hbA : Below w.heap.size w (w.alloc (.cells #[.string (bs p), .int .i64 kd, .string (bs d)] 32)) := (Below.refl _ _).alloc (Nat.le_refl _) _
  have hcn : (w.alloc (.cells #[.string (bs p), .int .i64 kd, .string (bs d)] 32)).heap[w.heap.size]? = some (.cells #[.string (bs p), .int .i64 kd, .string (bs d)] 32 (0, 0)) := heap_alloc_new w _
  have Hb := hide (And.intro hbA hcn)
  clear hbA hcn
  simp only
  go_enter Tryz.func103, Tryz.ntmps103
  go_wp2_with fail
  refine (hsp _).mono ?_
  rintro e w1 ⟨rfl, n1, hw1⟩
  have hb1 : Below w.heap.size w w1 := by rw [hw1]; exact below_drewN (unhide Hb).1 _
  have hcn1 : w1.heap[w.heap.size]? = some (.cells #[.string (bs p), .int .i64 kd, .string (bs d)] 32 (0, 0)) := by rw [hw1]; exact (unhide Hb).2
  clear hw1 hsp Hb
  have e0 := cell_of_block (j := 0) hcn1
  have e1 := cell_of_block (j := 1) hcn1
  have e2 := cell_of_block (j := 2) hcn1
  simp only [List.getElem?_toArray, List.getElem?_cons_zero, List.getElem?_cons_succ] at e0 e1 e2
  have hl1 : w.heap.size < w1.heap.size := (Array.getElem?_eq_some_iff.1 hcn1).1
  have hI1 : ∀ b, Own b → w1.heap[b]? = w.heap[b]? := fun b hb => hb1.block b (hlc b hb)
  have hk1 : KeepIs w1 bu bc um done.length (keptR l done) := hI.keep.same (fun b hb => hI1 b (hI.oku b hb))
  have hgr1 : Grp 47 5 itCells w1 base im done.length Own FI (itemsF l done) := hgrp.kept (fun b hb _ => hI1 b hb)
  have hci1 := (hI1 bit hI.oi).trans hI.ci
  have hck1 := (hI1 bk hI.ok).trans hI.ck
  have cbi := cell_of_block (j := 0) hci1
  have cbk := cell_of_block (j := 0) hck1
  simp only [List.getElem?_toArray, List.getElem?_cons_zero] at cbi cbk
  unfold ptr at cbk
  have hbil : bit < w1.heap.size := (Array.getElem?_eq_some_iff.1 hci1).1
  have hbkl1 : bk < w1.heap.size := (Array.getElem?_eq_some_iff.1 hck1).1
  have hrows : ∀ d g, ((FI d).getD (.slice none 0 0)).ownBlock = some g → g < w.heap.size := fun d g hg => own_lt (hgrp.at d) hg
  have hbs : base ≤ w.heap.size := by
    rcases Nat.lt_or_ge w.heap.size base with h | h
    · exact absurd (hlc _ (hI.old _ h)) (by omega)
    · exact h
  by_cases h3 : kd = 3
  · subst h3
    have hIQ0 := unhide Hq
    rw [if_pos rfl] at hIQ0
    have hIT : (itCells ⟨bs nn, 3, ⟨#[]⟩, 0, bs d⟩).toArray = #[.string (bs nn), .int .i64 3, .string ⟨#[]⟩, .int .i64 0, .string (bs d)] := rfl
    have hmid0 : Mid l base bit bk im bu bc um w1.heap.size Own FI done i w (w1.alloc (.cells #[.string (bs nn), .int .i64 3, .string ⟨#[]⟩, .int .i64 0, .string (bs d)] 47)) := by
      have hpt : partP l ⟨bs p, 3, bs d⟩ = [] := rfl
      refine ⟨⟨?_, ?_, ?_, ?_, ?_, ?_⟩, ?_, ?_⟩
      · exact (hgr1.own (fun b hb _ => Or.inl hb)).kept (fun b _ hbl => Below.heap_alloc w1 _ b hbl)
      · exact (Below.heap_alloc w1 _ _ (Array.getElem?_eq_some_iff.1 hci1).1).trans hci1
      · rw [hIQ0]; exact heap_alloc_new w1 _
      · intro d' g hg e; have := hrows d' g hg; omega
      · simp; omega
      · simp; omega
      · rw [unhide Hks, hpt]
        exact (hk1.mono (Nat.le_succ _)).same (fun b hb => Below.heap_alloc w1 _ b (hk1.lt b hb))
      · exact (Fr.below hb1).trans (Fr.below ((Below.refl _ _).alloc (Nat.le_refl _) _))
    go_wp2_with fail
    obtain ⟨W5, hW5⟩ : ∃ W5, w1.alloc (.cells #[.string (bs nn), .int .i64 3, .string ⟨#[]⟩, .int .i64 0, .string (bs d)] 47) = W5 := ⟨_, rfl⟩
    rw [hW5] at hmid0 ⊢
    have hmid := hmid0
    have hIQ := hIQ0
    have HQ := hide hIQ0
    clear hW5 hmid0 hIQ0

    obtain ⟨v, hv, hlk, hat, hri, hre, hlm, hlb, hlt, hnb, hnt, hput⟩ := tail_facts hmid.tail (upPath p) hul hlen hGl
    have hlkA := hlk W5.drew rfl
    have hlkB := hlk ((W5.alloc (.cells (itCells ⟨bs nn, 3, ⟨#[]⟩, 0, bs d⟩).toArray 47)).drew) (Below.heap_alloc W5 _ _ hlm)
    have hownA : ((W5.alloc (.cells (itCells ⟨bs nn, 3, ⟨#[]⟩, 0, bs d⟩).toArray 47)).drew).ownsRow base 47 5 v (itemsF l done (upPath p)).length (rowCells itCells (itemsF l done (upPath p))) := World.ownsRow.drew (World.ownsRow.alloc hat _)
    have hnew : ∀ q y, (itCells ⟨bs nn, 3, ⟨#[]⟩, 0, bs d⟩)[q]? = some y → ((W5.alloc (.cells (itCells ⟨bs nn, 3, ⟨#[]⟩, 0, bs d⟩).toArray 47)).drew).cell? ((⟨W5.heap.size, 0, none⟩ : Addr).add q) = some y := by
      intro q y hq
      rw [add_off0]
      exact (cell_of_block (heap_alloc_new W5 _)).trans (by simpa using hq)
    have ci5 := cell_of_block (j := 0) hmid.tail.ci
    have t0 := cell_of_block (j := 0) hmid.tail.ct
    have t1 := cell_of_block (j := 1) hmid.tail.ct
    have t2 := cell_of_block (j := 2) hmid.tail.ct
    have t3 := cell_of_block (j := 3) hmid.tail.ct
    have t4 := cell_of_block (j := 4) hmid.tail.ct
    have k3i := cell_of_block (j := 0) ((Below.heap_alloc W5 (.cells (itCells ⟨bs nn, 3, ⟨#[]⟩, 0, bs d⟩).toArray 47) _ hlb).trans hmid.tail.ci)
    have k30 := cell_of_block (j := 0) ((Below.heap_alloc W5 (.cells (itCells ⟨bs nn, 3, ⟨#[]⟩, 0, bs d⟩).toArray 47) _ hlt).trans hmid.tail.ct)
    have k31 := cell_of_block (j := 1) ((Below.heap_alloc W5 (.cells (itCells ⟨bs nn, 3, ⟨#[]⟩, 0, bs d⟩).toArray 47) _ hlt).trans hmid.tail.ct)
    have k32 := cell_of_block (j := 2) ((Below.heap_alloc W5 (.cells (itCells ⟨bs nn, 3, ⟨#[]⟩, 0, bs d⟩).toArray 47) _ hlt).trans hmid.tail.ct)
    have k33 := cell_of_block (j := 3) ((Below.heap_alloc W5 (.cells (itCells ⟨bs nn, 3, ⟨#[]⟩, 0, bs d⟩).toArray 47) _ hlt).trans hmid.tail.ct)
    have k34 := cell_of_block (j := 4) ((Below.heap_alloc W5 (.cells (itCells ⟨bs nn, 3, ⟨#[]⟩, 0, bs d⟩).toArray 47) _ hlt).trans hmid.tail.ct)
    simp only [itCells, hIQ, List.getElem?_toArray, List.getElem?_cons_zero, List.getElem?_cons_succ] at ci5 t0 t1 t2 t3 t4 k3i k30 k31 k32 k33 k34
    have hb0 : base ≤ (W5.alloc (.cells (itCells ⟨bs nn, 3, ⟨#[]⟩, 0, bs d⟩).toArray 47)).drew.heap.size := by have := hmid.tail.base; simp; omega
    rw [hIQ] at hput
    have HK := hide (And.intro k3i (And.intro k30 (And.intro k31 (And.intro k32 (And.intro k33 k34)))))
    have H := hide hput
    have HO := hide (And.intro hownA (And.intro hnew hmid))
    simp only [itCells] at hlkB hownA hnew hb0
    clear hlk hput hat k3i k30 k31 k32 k33 k34 hmid hIQ hIT hv
    go_region_held3 (fun w' => w'.cell? ⟨bit, 0, none⟩ = some (.map (some im)) ∧ w'.cell? ⟨w1.heap.size, 0, none⟩ = some (.string (bs nn)) ∧ w'.cell? ⟨w1.heap.size, 1, none⟩ = some (.int .i64 3) ∧ w'.cell? ⟨w1.heap.size, 2, none⟩ = some (.string ⟨#[]⟩) ∧ w'.cell? ⟨w1.heap.size, 3, none⟩ = some (.int .i64 0) ∧ w'.cell? ⟨w1.heap.size, 4, none⟩ = some (.string (bs d)))
      ((first | exact ⟨by assumption, by assumption, by assumption, by assumption, by assumption, by assumption⟩ | go_keep))
      ((refine step_app (enc := itCells) (bytes := 64) rfl (.tmp 52) (.tmp 54) 43 rfl i0 _ under59 hi0 hz0 hz1 hz2 rfl (by decide) itCells_len itCells_one1 base v (itemsF l done (upPath p)) rfl hownA ⟨W5.heap.size, 0, none⟩ ⟨bs nn, 3, ⟨#[]⟩, 0, bs d⟩ rfl hnew (by unfold maxLen; omega) (by omega) hb0 ?_; intro v' w6 ho6 hg6 hl6;
        have s4i := cell_grown hg6 (unhide HK).1 hri;
        have s40 := cell_grown hg6 (unhide HK).2.1 hre;
        have s41 := cell_grown hg6 (unhide HK).2.2.1 hre;
        have s42 := cell_grown hg6 (unhide HK).2.2.2.1 hre;
        have s43 := cell_grown hg6 (unhide HK).2.2.2.2.1 hre;
        have s44 := cell_grown hg6 (unhide HK).2.2.2.2.2 hre;
        obtain ⟨w7, hrun7, hg7, hout⟩ := (unhide H) w6 v' ((grown_ad _ _ _).trans hg6) ho6 (hl6.imp id (fun h => ⟨_, h, by simp⟩));
        have s5i := cell_grown hg7 s4i (by simpa using hnb);
        have s50 := cell_grown hg7 s40 (by simpa using hnt);
        have s51 := cell_grown hg7 s41 (by simpa using hnt);
        have s52 := cell_grown hg7 s42 (by simpa using hnt);
        have s53 := cell_grown hg7 s43 (by simpa using hnt);
        have s54 := cell_grown hg7 s44 (by simpa using hnt)))
    all_goals go_wp2_with fail
    all_goals go_end0
    all_goals exact ⟨rfl, unhide Hend FI w1.heap.size W5 _ (unhide HO).2.2 (by rw [unhide HQ]; exact hout)⟩
  · by_cases h0 : kd = 0
    · subst h0
      have hIQ0 := unhide Hq
      rw [if_neg (by decide), if_pos rfl] at hIQ0
      have hpm : p.length ≤ maxLen := by unfold maxLen; omega
      have hpne : p ≠ [] := by rw [← hpa]; exact path_ne l ht i hi
      have hitm : itemsF l done p = (kidsP l p).map (itemQ l) := by
        unfold itemsF
        have := hfil hka
        rw [hpa] at this
        rw [this]
      have hbl : blobP l 6 (p ++ [47]) = dirBytes (itemsF l done p) := by rw [hitm, ← blob_dir l ht p, pre_some hpne]
      have hok : dirOk (itemsF l done p) = true := by rw [hitm]; exact kids_ok l ht p
      have hft : FitAll (itemsF l done p) := fit_of_ok _ hok
      have hsm : (blobP l 6 (p ++ [47])).length ≤ 1802 := blob_small l ht 6 _ (.inr ⟨p, rfl⟩)
      have hpt : partP l ⟨bs p, 0, bs d⟩ = [blobP l 6 (p ++ [47])] := by simp [partP, bs_data]
      have hks0 := unhide Hks
      rw [hpt] at hks0
      have hb2 : Below w1.heap.size w1 (w1.alloc (.cells #[.string (bs nn), .int .i64 0, .string ⟨#[]⟩, .int .i64 0, .string ⟨#[]⟩] 47)) := (Below.refl _ _).alloc (Nat.le_refl _) _
      have hatp := (hgr1.kept (w' := w1.alloc (.cells #[.string (bs nn), .int .i64 0, .string ⟨#[]⟩, .int .i64 0, .string ⟨#[]⟩] 47)) (fun b hb hl => hb2.block b hl)).at p
      have henc := encode_any _ _ _ base hatp hft hok
      rw [← hbl] at henc
      generalize hB : blobP l 6 (p ++ [47]) = B at *
      obtain ⟨v0, hv0⟩ : ∃ v, (FI p).getD (.slice none 0 0) = v := ⟨_, rfl⟩
      rw [hv0] at henc
      have Henc := hide henc
      have HK0 := hide hks0
      have HQ0 := hide hIQ0
      clear henc hks0 hIQ0 hitm hbl hok hft hpt hB hatp
      go_wp2_with (at_lookup; refine wp_look rfl _ _ 150 rfl 43 under72 (.slice none 0 0) (zero_items _) im done.length FI rfl (hgr1.map.alloc _) p rfl hpm ?_; rw [hv0])
      refine (unhide Henc).mono ?_
      rintro e w3 ⟨rfl, hb3⟩
      have hb13 : Below w1.heap.size w1 w3 := hb2.trans (hb3.mono hb2.size)
      have hk3 : KeepIs w3 bu bc um done.length (keptR l done) := hk1.same (fun b hb => hb13.block b (hk1.lt b hb))
      have hck3 := (hb13.block bk (Array.getElem?_eq_some_iff.1 hck1).1).trans hck1
      have ck3 := cell_of_block (j := 0) hck3
      simp only [List.getElem?_toArray, List.getElem?_cons_zero] at ck3
      unfold ptr at ck3
      have hbt3 : w3.heap[w1.heap.size]? = some (.cells #[.string (bs nn), .int .i64 0, .string ⟨#[]⟩, .int .i64 0, .string ⟨#[]⟩] 47 (0, 0)) := (hb3.block w1.heap.size (by simp)).trans (heap_alloc_new w1 _)
      have e27 : ∀ args w, (callFunc 65 args).run Tryz.prog w = .ok (.enter 65 args) w := enters_of Tryz.func65 (by kernel_rfl) rfl
      have hkeep := keep_any B (keptR l done) w3 bu bc um done.length hk3 (by omega) (by unfold maxLen; omega)
      unfold ptr at hkeep
      have Hkeep := hide hkeep
      have hbsz := bs_size B
      clear hkeep Henc hb3
      go_wp2_with fail
      refine (unhide Hkeep).mono ?_
      rintro e w4 ⟨rfl, hk4, hf4⟩
      have hbcl : bc < w.heap.size := hlc bc (hI.oku bc (.inr (.inl rfl)))
      have huml : um < w.heap.size := hlc um (hI.oku um (.inr (.inr rfl)))
      have hl13 := hb13.size
      have hbt4 : w4.heap[w1.heap.size]? = some (.cells #[.string (bs nn), .int .i64 0, .string ⟨#[]⟩, .int .i64 0, .string ⟨#[]⟩] 47 (0, 0)) := (hf4.block w1.heap.size (Array.getElem?_eq_some_iff.1 hbt3).1 (fun h => by rcases h with h | h <;> omega)).trans hbt3
      have d2 := cell_of_block (j := 2) hbt4
      have d3 := cell_of_block (j := 3) hbt4
      have f2 := free_block (j := 2) hbt4
      have f3 := free_block (j := 3) hbt4
      simp only [List.getElem?_toArray, List.getElem?_cons_zero, List.getElem?_cons_succ] at d2 d3
      have hD : P.digest B = P.digest B := rfl
      have Hbt4 := hide hbt4
      have Hk4 := hide hk4
      have Hf4 := hide hf4
      clear Hkeep hbt4 hbt3 hk4 hf4
      go_wp2_with fail
      have hmid0 : Mid l base bit bk im bu bc um w1.heap.size Own FI done i w ((w4.setCell ⟨w1.heap.size, 2, none⟩ (.string (bs (P.digest B)))).setCell ⟨w1.heap.size, 3, none⟩ (.int .i64 (B.length : Int))) := by
        refine mid_of hI hne hgrp hbs ⟨bs nn, 0, bs (P.digest B), (B.length : Int), ⟨#[]⟩⟩ (unhide HQ0) ?_ ?_ ?_ (by omega)
        · have hfw : Fr (fun b => b = bc ∨ b = um) w w4 := (Fr.below hb1).trans ((Fr.below hb13).trans (unhide Hf4))
          refine ⟨hfw.os, hfw.tape, hfw.output, by simp [hfw.size], fun b hb hn => ?_⟩
          exact (Below.heap_setCell _ _ _ _ (by show b ≠ w1.heap.size; omega)).trans ((Below.heap_setCell _ _ _ _ (by show b ≠ w1.heap.size; omega)).trans (hfw.block b hb hn))
        · rw [unhide HK0]
          refine (unhide Hk4).same (fun b hb => ?_)
          have hbl : b < w.heap.size := hlc b (hI.oku b hb)
          exact (Below.heap_setCell _ _ _ _ (by show b ≠ w1.heap.size; omega)).trans (Below.heap_setCell _ _ _ _ (by show b ≠ w1.heap.size; omega))
        · have h1 := heap_setCell_same w4 w1.heap.size 2 _ _ (.string (bs (P.digest B))) (unhide Hbt4)
          have h2 := heap_setCell_same _ w1.heap.size 3 _ _ (.int .i64 (B.length : Int)) h1
          exact h2
      obtain ⟨W5, hW5⟩ : ∃ W5, ((w4.setCell ⟨w1.heap.size, 2, none⟩ (.string (bs (P.digest B)))).setCell ⟨w1.heap.size, 3, none⟩ (.int .i64 (B.length : Int))) = W5 := ⟨_, rfl⟩
      rw [hW5] at hmid0 ⊢
      have hmid := hmid0
      have hIQ := unhide HQ0
      have HQ := HQ0
      have hIT : True := trivial
      clear hW5 hmid0 d2 d3 f2 f3 ck3

      obtain ⟨v, hv, hlk, hat, hri, hre, hlm, hlb, hlt, hnb, hnt, hput⟩ := tail_facts hmid.tail (upPath p) hul hlen hGl
      have hlkA := hlk W5.drew rfl
      have hlkB := hlk ((W5.alloc (.cells (itCells ⟨bs nn, 0, bs (P.digest B), (B.length : Int), ⟨#[]⟩⟩).toArray 47)).drew) (Below.heap_alloc W5 _ _ hlm)
      have hownA : ((W5.alloc (.cells (itCells ⟨bs nn, 0, bs (P.digest B), (B.length : Int), ⟨#[]⟩⟩).toArray 47)).drew).ownsRow base 47 5 v (itemsF l done (upPath p)).length (rowCells itCells (itemsF l done (upPath p))) := World.ownsRow.drew (World.ownsRow.alloc hat _)
      have hnew : ∀ q y, (itCells ⟨bs nn, 0, bs (P.digest B), (B.length : Int), ⟨#[]⟩⟩)[q]? = some y → ((W5.alloc (.cells (itCells ⟨bs nn, 0, bs (P.digest B), (B.length : Int), ⟨#[]⟩⟩).toArray 47)).drew).cell? ((⟨W5.heap.size, 0, none⟩ : Addr).add q) = some y := by
        intro q y hq
        rw [add_off0]
        exact (cell_of_block (heap_alloc_new W5 _)).trans (by simpa using hq)
      have ci5 := cell_of_block (j := 0) hmid.tail.ci
      have t0 := cell_of_block (j := 0) hmid.tail.ct
      have t1 := cell_of_block (j := 1) hmid.tail.ct
      have t2 := cell_of_block (j := 2) hmid.tail.ct
      have t3 := cell_of_block (j := 3) hmid.tail.ct
      have t4 := cell_of_block (j := 4) hmid.tail.ct
      have k3i := cell_of_block (j := 0) ((Below.heap_alloc W5 (.cells (itCells ⟨bs nn, 0, bs (P.digest B), (B.length : Int), ⟨#[]⟩⟩).toArray 47) _ hlb).trans hmid.tail.ci)
      have k30 := cell_of_block (j := 0) ((Below.heap_alloc W5 (.cells (itCells ⟨bs nn, 0, bs (P.digest B), (B.length : Int), ⟨#[]⟩⟩).toArray 47) _ hlt).trans hmid.tail.ct)
      have k31 := cell_of_block (j := 1) ((Below.heap_alloc W5 (.cells (itCells ⟨bs nn, 0, bs (P.digest B), (B.length : Int), ⟨#[]⟩⟩).toArray 47) _ hlt).trans hmid.tail.ct)
      have k32 := cell_of_block (j := 2) ((Below.heap_alloc W5 (.cells (itCells ⟨bs nn, 0, bs (P.digest B), (B.length : Int), ⟨#[]⟩⟩).toArray 47) _ hlt).trans hmid.tail.ct)
      have k33 := cell_of_block (j := 3) ((Below.heap_alloc W5 (.cells (itCells ⟨bs nn, 0, bs (P.digest B), (B.length : Int), ⟨#[]⟩⟩).toArray 47) _ hlt).trans hmid.tail.ct)
      have k34 := cell_of_block (j := 4) ((Below.heap_alloc W5 (.cells (itCells ⟨bs nn, 0, bs (P.digest B), (B.length : Int), ⟨#[]⟩⟩).toArray 47) _ hlt).trans hmid.tail.ct)
      simp only [itCells, hIQ, List.getElem?_toArray, List.getElem?_cons_zero, List.getElem?_cons_succ] at ci5 t0 t1 t2 t3 t4 k3i k30 k31 k32 k33 k34
      have hb0 : base ≤ (W5.alloc (.cells (itCells ⟨bs nn, 0, bs (P.digest B), (B.length : Int), ⟨#[]⟩⟩).toArray 47)).drew.heap.size := by have := hmid.tail.base; simp; omega
      rw [hIQ] at hput
      have HK := hide (And.intro k3i (And.intro k30 (And.intro k31 (And.intro k32 (And.intro k33 k34)))))
      have H := hide hput
      have HO := hide (And.intro hownA (And.intro hnew hmid))
      simp only [itCells] at hlkB hownA hnew hb0
      clear hlk hput hat k3i k30 k31 k32 k33 k34 hmid hIQ hIT hv
      go_region_held3 (fun w' => w'.cell? ⟨bit, 0, none⟩ = some (.map (some im)) ∧ w'.cell? ⟨w1.heap.size, 0, none⟩ = some (.string (bs nn)) ∧ w'.cell? ⟨w1.heap.size, 1, none⟩ = some (.int .i64 0) ∧ w'.cell? ⟨w1.heap.size, 2, none⟩ = some (.string (bs (P.digest B))) ∧ w'.cell? ⟨w1.heap.size, 3, none⟩ = some (.int .i64 (B.length : Int)) ∧ w'.cell? ⟨w1.heap.size, 4, none⟩ = some (.string ⟨#[]⟩))
        ((first | exact ⟨by assumption, by assumption, by assumption, by assumption, by assumption, by assumption⟩ | go_keep))
        ((refine step_app (enc := itCells) (bytes := 64) rfl (.tmp 52) (.tmp 54) 43 rfl i0 _ under59 hi0 hz0 hz1 hz2 rfl (by decide) itCells_len itCells_one1 base v (itemsF l done (upPath p)) rfl hownA ⟨W5.heap.size, 0, none⟩ ⟨bs nn, 0, bs (P.digest B), (B.length : Int), ⟨#[]⟩⟩ rfl hnew (by unfold maxLen; omega) (by omega) hb0 ?_; intro v' w6 ho6 hg6 hl6;
          have s4i := cell_grown hg6 (unhide HK).1 hri;
          have s40 := cell_grown hg6 (unhide HK).2.1 hre;
          have s41 := cell_grown hg6 (unhide HK).2.2.1 hre;
          have s42 := cell_grown hg6 (unhide HK).2.2.2.1 hre;
          have s43 := cell_grown hg6 (unhide HK).2.2.2.2.1 hre;
          have s44 := cell_grown hg6 (unhide HK).2.2.2.2.2 hre;
          obtain ⟨w7, hrun7, hg7, hout⟩ := (unhide H) w6 v' ((grown_ad _ _ _).trans hg6) ho6 (hl6.imp id (fun h => ⟨_, h, by simp⟩));
          have s5i := cell_grown hg7 s4i (by simpa using hnb);
          have s50 := cell_grown hg7 s40 (by simpa using hnt);
          have s51 := cell_grown hg7 s41 (by simpa using hnt);
          have s52 := cell_grown hg7 s42 (by simpa using hnt);
          have s53 := cell_grown hg7 s43 (by simpa using hnt);
          have s54 := cell_grown hg7 s44 (by simpa using hnt)))
      all_goals go_wp2_with fail
      all_goals go_end0
      all_goals exact ⟨rfl, unhide Hend FI w1.heap.size W5 _ (unhide HO).2.2 (by rw [unhide HQ]; exact hout)⟩
    · have h12 : kd = 1 ∨ kd = 2 := by
        simp only [kindBad, Bool.or_eq_false_iff, decide_eq_false_iff_not] at hkb
        omega
      have hd60 : d.length ≤ 60 := by
        simp only [kindBad, Bool.or_eq_false_iff] at hkb
        have h4 := hkb.1.2
        rcases h12 with rfl | rfl
        · have h5 : (d.length : Int) ≤ 60 := by simpa [bs_size] using h4
          omega
        · have h5 : (d.length : Int) ≤ 60 := by simpa [bs_size] using h4
          omega
      have b3 : (kd == 3) = false := by simpa using h3
      have b0 : (kd == 0) = false := by simpa using h0
      have hIQ0 := unhide Hq
      rw [if_neg h3, if_neg h0] at hIQ0
      have hpt : partP l ⟨bs p, kd, bs d⟩ = [d] := by
        unfold partP
        simp only
        rw [if_neg h0, if_pos h12, bs_data]
      have hks0 := unhide Hks
      rw [hpt] at hks0
      have hb2 : Below w1.heap.size w1 (w1.alloc (.cells #[.string (bs nn), .int .i64 kd, .string ⟨#[]⟩, .int .i64 0, .string ⟨#[]⟩] 47)) := (Below.refl _ _).alloc (Nat.le_refl _) _
      have hk3 : KeepIs (w1.alloc (.cells #[.string (bs nn), .int .i64 kd, .string ⟨#[]⟩, .int .i64 0, .string ⟨#[]⟩] 47)).drew bu bc um done.length (keptR l done) := hk1.same (fun b hb => hb2.block b (hk1.lt b hb))
      have e27 : ∀ args w, (callFunc 65 args).run Tryz.prog w = .ok (.enter 65 args) w := enters_of Tryz.func65 (by kernel_rfl) rfl
      have hkeep := keep_any d (keptR l done) _ bu bc um done.length hk3 (by omega) (by unfold maxLen; omega)
      unfold ptr at hkeep
      have Hkeep := hide hkeep
      have hbsz := bs_size d
      have HK0 := hide hks0
      have HQ0 := hide hIQ0
      have hbcl : bc < w.heap.size := hlc bc (hI.oku bc (.inr (.inl rfl)))
      have huml : um < w.heap.size := hlc um (hI.oku um (.inr (.inr rfl)))
      have hbkl : bk < w.heap.size := hlc bk hI.ok
      have hkc : bk ≠ bc := fun h => by
        have a := hI.ck; have b := hI.keep.c; rw [← h, a] at b; simp at b
      have hku : bk ≠ um := map_ne_cells hI.keep.m hI.ck
      have hn1 : w.heap.size ≠ w1.heap.size := by omega
      have hn2 : bk ≠ w1.heap.size := by omega
      have e0A := cell_of_block (j := 2) ((hb2.block _ hl1).trans hcn1)
      have ekA := cell_of_block (j := 0) ((hb2.block _ (by omega)).trans hck1)
      have etA : (w1.alloc (.cells #[.string (bs nn), .int .i64 kd, .string ⟨#[]⟩, .int .i64 0, .string ⟨#[]⟩] 47)).heap[w1.heap.size]? = some (.cells #[.string (bs nn), .int .i64 kd, .string ⟨#[]⟩, .int .i64 0, .string ⟨#[]⟩] 47 (0, 0)) := heap_alloc_new w1 _
      simp only [List.getElem?_toArray, List.getElem?_cons_zero, List.getElem?_cons_succ] at e0A ekA
      unfold ptr at ekA
      have HE := hide (And.intro e0A (And.intro ekA etA))
      clear hkeep hpt hks0 hIQ0 etA hk3
      go_wp2_with fail
      go_region_held3 (fun w' => w'.cell? ⟨w.heap.size, 2, none⟩ = some (.string (bs d)) ∧ w'.cell? ⟨bk, 0, none⟩ = some (.func (.func 65) #[] #[.pointer (some ⟨bu, 0, none⟩), .pointer (some ⟨bc, 0, none⟩)]))
        ((first | exact ⟨by assumption, by assumption⟩ | exact ⟨(World.cell?_setCell_far _ _ _ _ (Ne.symm hn1)).trans s0, (World.cell?_setCell_far _ _ _ _ (Ne.symm hn2)).trans s1⟩ | exact ⟨(World.cell?_setCell_far _ _ _ _ (Ne.symm hn1)).trans ((World.cell?_setCell_far _ _ _ _ (Ne.symm hn1)).trans s0), (World.cell?_setCell_far _ _ _ _ (Ne.symm hn2)).trans ((World.cell?_setCell_far _ _ _ _ (Ne.symm hn2)).trans s1)⟩ | go_keep))
        ((go_at_call 65; refine (unhide Hkeep).mono ?_; rintro e w4 ⟨rfl, hk4, hf4⟩;
          have s0 := (World.cell?_of_block (a := ⟨w.heap.size, 2, none⟩) (hf4.block w.heap.size (by simp; omega) (by omega))).trans (unhide HE).1;
          have s1 := (World.cell?_of_block (a := ⟨bk, 0, none⟩) (hf4.block bk (by simp; omega) (by omega))).trans (unhide HE).2.1;
          have hbt4 := (hf4.block w1.heap.size (by simp) (by omega)).trans (unhide HE).2.2;
          have d2 := cell_of_block (j := 2) hbt4;
          have d3 := cell_of_block (j := 3) hbt4;
          have f2 := free_block (j := 2) hbt4;
          have f3 := free_block (j := 3) hbt4;
          simp only [List.getElem?_toArray, List.getElem?_cons_zero, List.getElem?_cons_succ] at d2 d3))
      have hmid0 : Mid l base bit bk im bu bc um w1.heap.size Own FI done i w ((w4.setCell ⟨w1.heap.size, 2, none⟩ (.string (bs (P.digest d)))).setCell ⟨w1.heap.size, 3, none⟩ (.int .i64 (d.length : Int))) := by
        refine mid_of hI hne hgrp hbs ⟨bs nn, kd, bs (P.digest d), (d.length : Int), ⟨#[]⟩⟩ (unhide HQ0) ?_ ?_ ?_ (by omega)
        · have hfw : Fr (fun b => b = bc ∨ b = um) w w4 := (Fr.below hb1).trans ((Fr.below hb2).trans ⟨hf4.os, hf4.tape, hf4.output, hf4.size, hf4.block⟩)
          refine ⟨hfw.os, hfw.tape, hfw.output, by simp [hfw.size], fun b hb hn => ?_⟩
          exact (Below.heap_setCell _ _ _ _ (by show b ≠ w1.heap.size; omega)).trans ((Below.heap_setCell _ _ _ _ (by show b ≠ w1.heap.size; omega)).trans (hfw.block b hb hn))
        · rw [unhide HK0]
          refine hk4.same (fun b hb => ?_)
          have hbl : b < w.heap.size := hlc b (hI.oku b hb)
          exact (Below.heap_setCell _ _ _ _ (by show b ≠ w1.heap.size; omega)).trans (Below.heap_setCell _ _ _ _ (by show b ≠ w1.heap.size; omega))
        · have h1 := heap_setCell_same w4 w1.heap.size 2 _ _ (.string (bs (P.digest d))) hbt4
          have h2 := heap_setCell_same _ w1.heap.size 3 _ _ (.int .i64 (d.length : Int)) h1
          exact h2
      clear hk4 hf4 hbt4 s0 s1 Hkeep HE
      go_wp2_with fail
      obtain ⟨W5, hW5⟩ : ∃ W5, ((w4.setCell ⟨w1.heap.size, 2, none⟩ (.string (bs (P.digest d)))).setCell ⟨w1.heap.size, 3, none⟩ (.int .i64 (d.length : Int))) = W5 := ⟨_, rfl⟩
      rw [hW5] at hmid0 ⊢
      have hmid := hmid0
      have hIQ := unhide HQ0
      have HQ := HQ0
      have hIT : True := trivial
      clear hW5 hmid0 d2 d3 f2 f3

      obtain ⟨v, hv, hlk, hat, hri, hre, hlm, hlb, hlt, hnb, hnt, hput⟩ := tail_facts hmid.tail (upPath p) hul hlen hGl
      have hlkA := hlk W5.drew rfl
      have hlkB := hlk ((W5.alloc (.cells (itCells ⟨bs nn, kd, bs (P.digest d), (d.length : Int), ⟨#[]⟩⟩).toArray 47)).drew) (Below.heap_alloc W5 _ _ hlm)
      have hownA : ((W5.alloc (.cells (itCells ⟨bs nn, kd, bs (P.digest d), (d.length : Int), ⟨#[]⟩⟩).toArray 47)).drew).ownsRow base 47 5 v (itemsF l done (upPath p)).length (rowCells itCells (itemsF l done (upPath p))) := World.ownsRow.drew (World.ownsRow.alloc hat _)
      have hnew : ∀ q y, (itCells ⟨bs nn, kd, bs (P.digest d), (d.length : Int), ⟨#[]⟩⟩)[q]? = some y → ((W5.alloc (.cells (itCells ⟨bs nn, kd, bs (P.digest d), (d.length : Int), ⟨#[]⟩⟩).toArray 47)).drew).cell? ((⟨W5.heap.size, 0, none⟩ : Addr).add q) = some y := by
        intro q y hq
        rw [add_off0]
        exact (cell_of_block (heap_alloc_new W5 _)).trans (by simpa using hq)
      have ci5 := cell_of_block (j := 0) hmid.tail.ci
      have t0 := cell_of_block (j := 0) hmid.tail.ct
      have t1 := cell_of_block (j := 1) hmid.tail.ct
      have t2 := cell_of_block (j := 2) hmid.tail.ct
      have t3 := cell_of_block (j := 3) hmid.tail.ct
      have t4 := cell_of_block (j := 4) hmid.tail.ct
      have k3i := cell_of_block (j := 0) ((Below.heap_alloc W5 (.cells (itCells ⟨bs nn, kd, bs (P.digest d), (d.length : Int), ⟨#[]⟩⟩).toArray 47) _ hlb).trans hmid.tail.ci)
      have k30 := cell_of_block (j := 0) ((Below.heap_alloc W5 (.cells (itCells ⟨bs nn, kd, bs (P.digest d), (d.length : Int), ⟨#[]⟩⟩).toArray 47) _ hlt).trans hmid.tail.ct)
      have k31 := cell_of_block (j := 1) ((Below.heap_alloc W5 (.cells (itCells ⟨bs nn, kd, bs (P.digest d), (d.length : Int), ⟨#[]⟩⟩).toArray 47) _ hlt).trans hmid.tail.ct)
      have k32 := cell_of_block (j := 2) ((Below.heap_alloc W5 (.cells (itCells ⟨bs nn, kd, bs (P.digest d), (d.length : Int), ⟨#[]⟩⟩).toArray 47) _ hlt).trans hmid.tail.ct)
      have k33 := cell_of_block (j := 3) ((Below.heap_alloc W5 (.cells (itCells ⟨bs nn, kd, bs (P.digest d), (d.length : Int), ⟨#[]⟩⟩).toArray 47) _ hlt).trans hmid.tail.ct)
      have k34 := cell_of_block (j := 4) ((Below.heap_alloc W5 (.cells (itCells ⟨bs nn, kd, bs (P.digest d), (d.length : Int), ⟨#[]⟩⟩).toArray 47) _ hlt).trans hmid.tail.ct)
      simp only [itCells, hIQ, List.getElem?_toArray, List.getElem?_cons_zero, List.getElem?_cons_succ] at ci5 t0 t1 t2 t3 t4 k3i k30 k31 k32 k33 k34
      have hb0 : base ≤ (W5.alloc (.cells (itCells ⟨bs nn, kd, bs (P.digest d), (d.length : Int), ⟨#[]⟩⟩).toArray 47)).drew.heap.size := by have := hmid.tail.base; simp; omega
      rw [hIQ] at hput
      have HK := hide (And.intro k3i (And.intro k30 (And.intro k31 (And.intro k32 (And.intro k33 k34)))))
      have H := hide hput
      have HO := hide (And.intro hownA (And.intro hnew hmid))
      simp only [itCells] at hlkB hownA hnew hb0
      clear hlk hput hat k3i k30 k31 k32 k33 k34 hmid hIQ hIT hv
      go_region_held3 (fun w' => w'.cell? ⟨bit, 0, none⟩ = some (.map (some im)) ∧ w'.cell? ⟨w1.heap.size, 0, none⟩ = some (.string (bs nn)) ∧ w'.cell? ⟨w1.heap.size, 1, none⟩ = some (.int .i64 kd) ∧ w'.cell? ⟨w1.heap.size, 2, none⟩ = some (.string (bs (P.digest d))) ∧ w'.cell? ⟨w1.heap.size, 3, none⟩ = some (.int .i64 (d.length : Int)) ∧ w'.cell? ⟨w1.heap.size, 4, none⟩ = some (.string ⟨#[]⟩))
        ((first | exact ⟨by assumption, by assumption, by assumption, by assumption, by assumption, by assumption⟩ | go_keep))
        ((refine step_app (enc := itCells) (bytes := 64) rfl (.tmp 52) (.tmp 54) 43 rfl i0 _ under59 hi0 hz0 hz1 hz2 rfl (by decide) itCells_len itCells_one1 base v (itemsF l done (upPath p)) rfl hownA ⟨W5.heap.size, 0, none⟩ ⟨bs nn, kd, bs (P.digest d), (d.length : Int), ⟨#[]⟩⟩ rfl hnew (by unfold maxLen; omega) (by omega) hb0 ?_; intro v' w6 ho6 hg6 hl6;
          have s4i := cell_grown hg6 (unhide HK).1 hri;
          have s40 := cell_grown hg6 (unhide HK).2.1 hre;
          have s41 := cell_grown hg6 (unhide HK).2.2.1 hre;
          have s42 := cell_grown hg6 (unhide HK).2.2.2.1 hre;
          have s43 := cell_grown hg6 (unhide HK).2.2.2.2.1 hre;
          have s44 := cell_grown hg6 (unhide HK).2.2.2.2.2 hre;
          obtain ⟨w7, hrun7, hg7, hout⟩ := (unhide H) w6 v' ((grown_ad _ _ _).trans hg6) ho6 (hl6.imp id (fun h => ⟨_, h, by simp⟩));
          have s5i := cell_grown hg7 s4i (by simpa using hnb);
          have s50 := cell_grown hg7 s40 (by simpa using hnt);
          have s51 := cell_grown hg7 s41 (by simpa using hnt);
          have s52 := cell_grown hg7 s42 (by simpa using hnt);
          have s53 := cell_grown hg7 s43 (by simpa using hnt);
          have s54 := cell_grown hg7 s44 (by simpa using hnt)))
      all_goals go_wp2_with fail
      all_goals go_end0
      all_goals exact ⟨rfl, unhide Hend FI w1.heap.size W5 _ (unhide HO).2.2 (by rw [unhide HQ]; exact hout)⟩
end Go.Proofs.YtjmacegibchplaaGreatDoor
