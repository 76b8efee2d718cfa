import Derived.Test.YtjmacegibchplaaGreatDoorFetU
import Derived.Test.YtjmacegibchplaaGreatDoorAwkA
import Derived.Test.YtjmacegibchplaaGreatDoorKeepD
import Derived.Test.YtjmacegibchplaaGreatDoorItemO
import Derived.Test.YtjmacegibchplaaGreatDoorStoA
import Derived.Test.YtjmacegibchplaaGreatDoorTrP
import Derived.Laws.AppendOwnNone
import Derived.Deep.CutBlock
import Derived.Deep.RegionHeld3
/-
  The document's examples: the first four.
-/
namespace Go.Proofs.YtjmacegibchplaaGreatDoor
open Go.RowKit Go.Maps Go.WideMaps
set_option linter.unusedVariables false

theorem cDigest (l : List UInt8) (w : World) (hs : l.length ≤ maxLen) :
    Calls Tryz.prog 23 #[.string (bs l)] w fun e w' => e = .returned (.string (bs (P.digest l))) ∧ Below w.heap.size w w' := by
  have h := textDigest_any (bs l) w (by rw [bs_size]; exact hs)
  rw [bs_data] at h
  go_enter Tryz.func23, Tryz.ntmps23
  go_wp2_with fail
  refine h.mono ?_
  rintro e w' ⟨rfl, hb⟩
  go_wp2_with fail
  go_ret
  exact ⟨rfl, hb⟩
set_option maxRecDepth 100000 in
set_option maxHeartbeats 1000000 in
theorem known0 (c : Int) (w : World) (c0 : -9223372036854775808 ≤ c) (c1 : c ≤ 9223372036854775807) (hk : pickP c 5 = 0) :
    Calls Tryz.prog 7 #[.int .i64 c] w fun e w' => e = .returned (.bool true) ∧ Below w.heap.size w w' := by
  have hp := keepPick c 5 w c0 c1 (by decide) (by decide)
  rw [hk] at hp
  have h0 := fun w' => cDigest [] w' (by decide)
  have h1 := fun w' => cDigest [97] w' (by decide)
  have h2 := fun w' => cDigest [84, 0] w' (by decide)
  rw [kn_d0] at h0
  rw [kn_d1] at h1
  rw [kn_d2] at h2
  have H0 := hide h0
  have H1 := hide h1
  have H2 := hide h2
  clear h0 h1 h2
  go_enter Tryz.func7, Tryz.ntmps7
  go_wp2_with (go_at_call 22; refine hp.mono ?_; rintro e w' ⟨rfl, hw'⟩; rw [hw']; clear hw' w')
  refine (unhide H0 w).mono ?_
  rintro e w1 ⟨rfl, hb1⟩
  go_wp2_with fail
  refine (unhide H1 w1).mono ?_
  rintro e w2 ⟨rfl, hb2⟩
  go_wp2_with fail
  refine (unhide H2 w2).mono ?_
  rintro e w3 ⟨rfl, hb3⟩
  have hb := (hb1.trans (hb2.mono hb1.size)).trans (hb3.mono (Nat.le_trans hb1.size hb2.size))
  have e1 : ((bs [48, 48, 49]).toList == ([48, 48, 49] : List UInt8)) = true := by rw [str_eq]; decide
  have e2 : ((bs [49, 54, 57]).toList == ([49, 54, 57] : List UInt8)) = true := by rw [str_eq]; decide
  have e3 : ((bs [53, 99, 55]).toList == ([53, 99, 55] : List UInt8)) = true := by rw [str_eq]; decide
  clear hb1 hb2 hb3 H0 H1 H2 hp
  go_wp2_with fail
  go_ret
  exact ⟨rfl, hb⟩
theorem ents1 (W : World) (x : En) : EntsAt (W.alloc (.cells #[.string x.path, .int .i64 x.kind, .string x.data] 32)) W.heap.size 0 [x] := by
  intro i hi
  have hb := heap_alloc_new W (.cells #[.string x.path, .int .i64 x.kind, .string x.data] 32)
  match i, hi with
  | 0, _ => exact ⟨cell_of_block hb, cell_of_block hb, cell_of_block hb⟩
theorem ents2 (W : World) (x y : En) : EntsAt (W.alloc (.cells #[.string x.path, .int .i64 x.kind, .string x.data, .string y.path, .int .i64 y.kind, .string y.data] 32)) W.heap.size 0 [x, y] := by
  intro i hi
  have hb := heap_alloc_new W (.cells #[.string x.path, .int .i64 x.kind, .string x.data, .string y.path, .int .i64 y.kind, .string y.data] 32)
  match i, hi with
  | 0, _ => exact ⟨cell_of_block hb, cell_of_block hb, cell_of_block hb⟩
  | 1, _ => exact ⟨cell_of_block hb, cell_of_block hb, cell_of_block hb⟩
theorem fit_nil : TFit [] := fun i hi => by simp at hi
theorem fit_knL : TFit knL := by
  intro i hi
  match i, hi with
  | 0, _ => show (1 : Nat) ≤ 1100000 ∧ (1 : Nat) ≤ maxLen; decide
theorem fit_knA : TFit knA := by
  intro i hi
  match i, hi with
  | 0, _ => show (1 : Nat) ≤ 1100000 ∧ (0 : Nat) ≤ maxLen; decide
  | 1, _ => show (3 : Nat) ≤ 1100000 ∧ (4 : Nat) ≤ maxLen; decide
theorem fit_knB : TFit knB := by
  intro i hi
  match i, hi with
  | 0, _ => show (1 : Nat) ≤ 1100000 ∧ (0 : Nat) ≤ maxLen; decide
  | 1, _ => show (3 : Nat) ≤ 1100000 ∧ (7 : Nat) ≤ maxLen; decide
theorem fit_knC : TFit knC := by
  intro i hi
  match i, hi with
  | 0, _ => show (1 : Nat) ≤ 1100000 ∧ (7 : Nat) ≤ maxLen; decide
set_option maxRecDepth 100000 in
set_option maxHeartbeats 1000000 in
theorem known1 (c : Int) (w : World) (hg : GlobOk w) (c0 : -9223372036854775808 ≤ c) (c1 : c ≤ 9223372036854775807) (hk : pickP c 5 = 1) :
    Calls Tryz.prog 7 #[.int .i64 c] w fun e w' => e = .returned (.bool true) ∧ Below w.heap.size w w' := by
  have hp := keepPick c 5 w c0 c1 (by decide) (by decide)
  rw [hk] at hp
  have h1 := progBuild_uni [] none 0 w hg (by decide) (.inl rfl) fit_nil
  rw [kn_e0.1, kn_e0.2.1, kn_e0.2.2] at h1
  have H1 := hide h1
  clear h1
  go_enter Tryz.func7, Tryz.ntmps7
  go_wp2_with (go_at_call 22; refine hp.mono ?_; rintro e w' ⟨rfl, hw'⟩; rw [hw']; clear hw' w')
  refine (unhide H1).mono ?_
  rintro e w1 ⟨v1, rfl, ho1, hb1⟩
  obtain ⟨a1, c1', rfl, ht1, -, -⟩ := ho1.texts
  have hbA : Below w1.heap.size w1 (w1.alloc (.cells #[.string ⟨#[97]⟩, .int .i64 1, .string ⟨#[120]⟩] 32)) := (Below.refl _ _).alloc (Nat.le_refl _) _
  have h2 := progBuild_uni knL (some ⟨w1.heap.size, 0, none⟩) 1 _ (hg.below (hb1.trans (hbA.mono hb1.size)) (Nat.le_refl _)) (by decide) (.inr ⟨_, _, rfl, ents1 w1 ⟨⟨#[97]⟩, 1, ⟨#[120]⟩⟩⟩) fit_knL
  rw [kn_e1.1] at h2
  have H2 := hide h2
  clear h2 H1 hp ho1
  go_wp2_with fail
  refine (unhide H2).mono ?_
  rintro e w2 ⟨v2, rfl, ho2, hb2⟩
  obtain ⟨a2, c2', rfl, -, -, -⟩ := ho2.texts
  rw [kn_e1.2]
  have hb := (hb1.trans (hbA.mono hb1.size)).trans (hb2.mono (Nat.le_trans hb1.size hbA.size))
  obtain ⟨b, o, rfl, hc⟩ := textsGet (ht1.below (hbA.trans (hb2.mono hbA.size)) (Nat.le_refl _)) (k := 0) (by decide)
  have e3 : ((bs [53, 99, 55]).toList == ([53, 99, 55] : List UInt8)) = true := by rw [str_eq]; decide
  have e4 : ((bs [84, 0]).toList == ([84, 0] : List UInt8)) = true := by rw [str_eq]; decide
  have hc' : w2.cell? ⟨b, o, none⟩ = some (.string (bs [84, 0])) := hc
  clear hb1 hb2 hbA ht1 hc H2 ho2
  generalize rootOf knL = R at *
  go_wp2_with fail
  go_ret
  exact ⟨rfl, hb⟩
set_option maxRecDepth 100000 in
set_option maxHeartbeats 1000000 in
theorem known2 (c : Int) (w : World) (c0 : -9223372036854775808 ≤ c) (c1 : c ≤ 9223372036854775807) (hk : pickP c 5 = 2) :
    Calls Tryz.prog 7 #[.int .i64 c] w fun e w' => e = .returned (.bool true) ∧ Below w.heap.size w w' := by
  have hp := keepPick c 5 w c0 c1 (by decide) (by decide)
  rw [hk] at hp
  have h1 := fun w' => cellarDecode [84, 1, 3, 1, 108, 0] w' (by decide)
  have h2 := fun w' => cellarDecode [84, 1, 3, 1, 108, 1, 120] w' (by decide)
  rw [kn_c0] at h1
  rw [kn_c1] at h2
  have H1 := hide h1
  have H2 := hide h2
  clear h1 h2
  go_enter Tryz.func7, Tryz.ntmps7
  go_wp2_with (go_at_call 22; refine hp.mono ?_; rintro e w' ⟨rfl, hw'⟩; rw [hw']; clear hw' w')
  refine (unhide H1 w).mono ?_
  rintro e w1 ⟨hb1, ⟨-, rfl⟩ | ⟨items, v, hd, -⟩⟩
  · go_wp2_with fail
    refine (unhide H2 w1).mono ?_
    rintro e w2 ⟨hb2, ⟨hd, -⟩ | ⟨items, v, hd, -, -, rfl, ho⟩⟩
    · simp at hd
    · obtain rfl := Option.some.inj hd
      obtain ⟨a2, c2, rfl, hli, -⟩ := ho.lies
      obtain ⟨b, o, rfl, hI⟩ : ∃ b o, a2 = some ⟨b, o, none⟩ ∧ ItemsAt w2 b o [⟨⟨#[108]⟩, 3, ⟨#[]⟩, 0, ⟨#[120]⟩⟩] := by
        rcases hli with h | h
        · simp at h
        · exact h
      obtain ⟨p0, p1, p2, p3, p4⟩ : ItemAt w2 b o ⟨⟨#[108]⟩, 3, ⟨#[]⟩, 0, ⟨#[120]⟩⟩ := hI 0 (by decide)
      have hb := hb1.trans (hb2.mono hb1.size)
      have heq : ∀ (nm dg tg : ByteArray) (kd sz : Int) (w : World), (Op.equalIn 10000 47 (.agg #[.string nm, .int .i64 kd, .string dg, .int .i64 sz, .string tg]) (.agg #[.string nm, .int .i64 kd, .string dg, .int .i64 sz, .string tg])).run Tryz.prog w = .ok true w := fun nm dg tg kd sz w => by
        rw [eq_item]; simp
      simp only at p0 p1 p2 p3 p4
      clear hb1 hb2 hI hli ho hd H1 H2 hp
      go_wp2_with fail
      go_ret
      exact ⟨rfl, hb⟩
  · simp at hd
set_option maxRecDepth 100000 in
set_option maxHeartbeats 1000000 in
theorem known3 (c : Int) (w : World) (hg : GlobOk w) (c0 : -9223372036854775808 ≤ c) (c1 : c ≤ 9223372036854775807) (hk : pickP c 5 = 3) :
    Calls Tryz.prog 7 #[.int .i64 c] w fun e w' => e = .returned (.bool true) ∧ Below w.heap.size w w' := by
  have hp := keepPick c 5 w c0 c1 (by decide) (by decide)
  rw [hk] at hp
  have hbA : Below w.heap.size w (w.alloc (.cells #[.string ⟨#[100]⟩, .int .i64 0, .string ⟨#[]⟩, .string ⟨#[100, 47, 108]⟩, .int .i64 3, .string ⟨#[46, 46, 47, 120]⟩] 32)) := (Below.refl _ _).alloc (Nat.le_refl _) _
  have h1 := progBuild_uni knA (some ⟨w.heap.size, 0, none⟩) 2 _ (hg.below hbA (Nat.le_refl _)) (by decide) (.inr ⟨_, _, rfl, ents2 w ⟨⟨#[100]⟩, 0, ⟨#[]⟩⟩ ⟨⟨#[100, 47, 108]⟩, 3, ⟨#[46, 46, 47, 120]⟩⟩⟩) fit_knA
  rw [kn_e3.1] at h1
  have H1 := hide h1
  clear h1
  go_enter Tryz.func7, Tryz.ntmps7
  go_wp2_with (go_at_call 22; refine hp.mono ?_; rintro e w' ⟨rfl, hw'⟩; rw [hw']; clear hw' w')
  refine (unhide H1).mono ?_
  rintro e w1 ⟨v1, rfl, -, hb1⟩
  have hw1 := hbA.trans (hb1.mono hbA.size)
  have hbB : Below w1.heap.size w1 (w1.alloc (.cells #[.string ⟨#[100]⟩, .int .i64 0, .string ⟨#[]⟩, .string ⟨#[100, 47, 108]⟩, .int .i64 3, .string ⟨#[46, 46, 47, 46, 46, 47, 120]⟩] 32)) := (Below.refl _ _).alloc (Nat.le_refl _) _
  have hwB := hw1.trans (hbB.mono hw1.size)
  have h2 := progBuild_uni knB (some ⟨w1.heap.size, 0, none⟩) 2 _ (hg.below hwB (Nat.le_refl _)) (by decide) (.inr ⟨_, _, rfl, ents2 w1 ⟨⟨#[100]⟩, 0, ⟨#[]⟩⟩ ⟨⟨#[100, 47, 108]⟩, 3, ⟨#[46, 46, 47, 46, 46, 47, 120]⟩⟩⟩) fit_knB
  rw [kn_e3.2.1] at h2
  have H2 := hide h2
  clear h2 H1 hp hbA hb1 hw1
  go_wp2_with fail
  refine (unhide H2).mono ?_
  rintro e w2 ⟨v2, rfl, -, hb2⟩
  have hw2 := hwB.trans (hb2.mono hwB.size)
  have hbC : Below w2.heap.size w2 (w2.alloc (.cells #[.string ⟨#[108]⟩, .int .i64 3, .string ⟨#[120, 47, 46, 46, 47, 46, 46]⟩] 32)) := (Below.refl _ _).alloc (Nat.le_refl _) _
  have hwC := hw2.trans (hbC.mono hw2.size)
  have h3 := progBuild_uni knC (some ⟨w2.heap.size, 0, none⟩) 1 _ (hg.below hwC (Nat.le_refl _)) (by decide) (.inr ⟨_, _, rfl, ents1 w2 ⟨⟨#[108]⟩, 3, ⟨#[120, 47, 46, 46, 47, 46, 46]⟩⟩⟩) fit_knC
  rw [kn_e3.2.2] at h3
  have H3 := hide h3
  clear h3 H2 hbB hb2 hw2 hwB
  go_wp2_with fail
  refine (unhide H3).mono ?_
  rintro e w3 ⟨v3, rfl, -, hb3⟩
  have hw3 := hwC.trans (hb3.mono hwC.size)
  clear H3 hb3 hwC hbC
  go_wp2_with fail
  go_ret
  exact ⟨rfl, hw3⟩
end Go.Proofs.YtjmacegibchplaaGreatDoor

/-
  The statement on fetched trees (Rooted): its body.
-/
namespace Go.Proofs.YtjmacegibchplaaGreatDoor
open Go.RowKit Go.Maps Go.WideMaps
set_option linter.unusedVariables false

/-- what cellarkeep.tree does -/
def KeepTree : Prop := ∀ (raw : List Int) (texts : List (List UInt8)) (ar : Option Addr) (cr : Nat) (at' : Option Addr) (ct : Nat) (w : World), raw.length ≤ 1100000 → texts.length ≤ 1100000 →
    IntsAt w ar raw → (∀ r ∈ raw, -9223372036854775808 ≤ r ∧ r ≤ 9223372036854775807) → TextsAt w at' texts → (∀ x ∈ texts, x.length ≤ 1100000) →
    Calls Tryz.prog 33 #[.slice ar raw.length cr, .slice at' texts.length ct] w fun e w' => ∃ v, e = .returned v ∧ OwnsE w' w.heap.size v (treeP raw texts) ∧ Below w.heap.size w w'
/-- a list of texts appended to an own one -/
theorem app_texts {w : World} {ops : Array Oper} {rest : List Oper} {o : Oper} {a : Act} {Q : Exit → Act → World → Prop} (hgd : o.guard = none) (s x : Operand)
    (ho : o.op = .call { callee := .builtin .append, args := #[s, x], argTypes := #[23, 23] }) (base : Nat) (v : Value) (l : List (List UInt8)) (hs : a.eval s = v) (hown : OwnsS w base v l)
    (ad : Option Addr) (y : List (List UInt8)) (c : Nat) (hx : a.eval x = .slice ad y.length c) (hn : ad = none → y = [] ∧ c = 0) (hy : TextsAt w ad y)
    (hlen : l.length + y.length ≤ 4000000) (hbase : base ≤ w.heap.size)
    (h : ∀ v' w', OwnsS w' base v' (l ++ y) → w.grownBy w' v.ownBlock → wpList Tryz.prog ops Q rest (a.put o.dst v') w') : wpList Tryz.prog ops Q (o :: rest) a w := by
  obtain ⟨i0, hi, hz0, hz1, hz2⟩ := info_parts info_str
  cases ad with
  | none =>
    obtain ⟨rfl, rfl⟩ := hn rfl
    refine wpList_append_own_none hgd s x 23 ho base 9 i0 1 Tryz.underlying23 hi v l.length (l.map strVal) hs hown hx ?_
    exact h v w (by rw [List.append_nil]; exact hown) ⟨rfl, rfl, rfl, Nat.le_refl _, fun _ _ _ => rfl⟩
  | some ad =>
    refine wpList_append_own w hgd s x 23 ho base 9 i0 _ 1 16 Tryz.underlying23 hi hz0 hz1 hz2 rfl (by decide) v l.length (l.map strVal) hs hown ad y.length c (y.map strVal) hx (by simp) ?_ ?_ (by unfold maxLen; omega) (by omega) hbase ?_
    · intro j u hj
      rw [List.getElem?_map] at hj
      rcases hy with rfl | ⟨b, o', e, hy⟩
      · simp at hj
      · obtain ⟨z, hz, rfl⟩ := Option.map_eq_some_iff.1 hj
        obtain ⟨hjl, rfl⟩ := List.getElem?_eq_some_iff.1 hz
        obtain rfl : ad = ⟨b, o', none⟩ := by simpa using e
        rw [add_off]
        exact hy j hjl
    · intro u hu
      obtain ⟨z, _, rfl⟩ := List.mem_map.1 hu
      rfl
    · intro v' w' h2 h3 _
      refine h v' w' ?_ h3
      unfold OwnsS
      rw [List.length_append, List.map_append]
      exact h2
theorem row_neS {w : World} {base e1 s1 n1 b : Nat} {v1 : Value} {xs1 : List Value} {cur : Array Value} {e2 : TypeId} {fz : Nat × Nat} (h1 : w.ownsRow base e1 s1 v1 n1 xs1) (hb : w.heap[b]? = some (.cells cur e2 fz)) (hne : e1 ≠ e2) : v1.ownBlock ≠ some b := by
  intro hg
  rcases h1.2 with ⟨rfl, _⟩ | ⟨g', cap, cur', rfl, hb', hgg, _⟩
  · simp [Value.ownBlock] at hg
  · simp [Value.ownBlock] at hg
    subst hg
    rw [hb] at hgg
    simp at hgg
    exact hne hgg.2.1.symm
theorem CS.grown {w w' : World} {sb pb um n : Nat} {room : Int} {st : List (List UInt8 × List UInt8)} {base s1 n1 : Nat} {v1 : Value} {xs1 : List Value} (h : CS w sb pb um n room st) (ho : w.ownsRow base 9 s1 v1 n1 xs1) (hg : w.grownBy w' v1.ownBlock) : CS w' sb pb um n room st := by
  refine h.fr (S := fun x => v1.ownBlock = some x) (Fr.grown hg (fun g e => e)) (row_neS ho h.c (by decide)) (row_neS ho h.p.s (by decide)) ?_
  intro e
  rcases ho.2 with ⟨rfl, _⟩ | ⟨g', cap, cur', rfl, hb', hgg, _⟩
  · simp [Value.ownBlock] at e
  · simp [Value.ownBlock] at e
    subst e
    exact map_ne_cells h.p.m hgg rfl
theorem up_root_len (room : Int) (l : List En) (tries batch : Int) (L : List Int) (st : List (List UInt8 × List UInt8)) : (upP room l tries batch L st).1.length ≤ 3 := by
  unfold upP
  split
  · simp
  · split
    · simp
    · split
      · simp
      · simp only
        split
        · rw [digest_len]; omega
        · simp
theorem bytes_take1 (l : List (List UInt8)) (k : Nat) (h : k < l.length) : bytesP (l.take (k + 1)) = bytesP (l.take k) + l[k].length := by
  rw [List.take_add_one, List.getElem?_eq_getElem h, bytes_app]
  simp [bytesP]
theorem bytes_take_le (l : List (List UInt8)) (k : Nat) : bytesP (l.take k) ≤ bytesP l := by
  have h := bytes_app (l.take k) (l.drop k)
  rw [List.take_append_drop] at h
  omega
theorem bytes_mem (l : List (List UInt8)) (x : List UInt8) (h : x ∈ l) : x.length ≤ bytesP l := by
  induction l with
  | nil => simp at h
  | cons y r ih =>
    simp only [bytesP]
    rcases List.mem_cons.1 h with rfl | h
    · omega
    · have := ih h; omega
/-- what Fetch gave is built again -/
theorem fetched_built (S : List UInt8 → Option (List UInt8)) (root : List UInt8) (ents dp : Int) (L : List En) (h : fetchP S root ents dp = (0, L)) : errOf L = 0 ∧ rootOf L = root := by
  obtain ⟨ht, hw, hr, out, hb⟩ := fetch_rooted S root ents dp L h
  have he : errOf L = 0 := by unfold errOf; rw [if_neg (by simpa using hw), if_neg (by rw [hb]; simp)]
  refine ⟨he, ?_⟩
  unfold rootOf
  rw [he, if_pos rfl]
  exact hr
end Go.Proofs.YtjmacegibchplaaGreatDoor
