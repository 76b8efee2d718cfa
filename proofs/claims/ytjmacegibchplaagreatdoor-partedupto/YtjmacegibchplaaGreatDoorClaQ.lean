import Derived.Test.YtjmacegibchplaaGreatDoorFetU
import Derived.Test.YtjmacegibchplaaGreatDoorAwkA
import Derived.Test.YtjmacegibchplaaGreatDoorKeepD
import Derived.Test.YtjmacegibchplaaGreatDoorItemO
import Derived.Test.YtjmacegibchplaaGreatDoorStoA
import Derived.Test.YtjmacegibchplaaGreatDoorParP
import Derived.Laws.AppendOwnNone
import Derived.Deep.CutBlock
import Derived.Deep.RegionHeld3
import Derived.Test.YtjmacegibchplaaGreatDoorUpA
/-
  The document's examples: the first four.
-/
namespace Go.Proofs.YtjmacegibchplaaGreatDoor
open Go.RowKit Go.Maps Go.WideMaps
set_option linter.unusedVariables false

theorem cDigest (l : List UInt8) (w : World) (hs : l.length ≤ maxLen) :
    Calls Tryz.prog 23 #[.string (bs l)] w fun e w' => e = .returned (.string (bs (P.digest l))) ∧ Below w.heap.size w w' := by
  have h := textDigest_any (bs l) w (by rw [bs_size]; exact hs)
  rw [bs_data] at h
  go_enter Tryz.func23, Tryz.ntmps23
  go_wp2_with fail
  refine h.mono ?_
  rintro e w' ⟨rfl, hb⟩
  go_wp2_with fail
  go_ret
  exact ⟨rfl, hb⟩
set_option maxRecDepth 100000 in
set_option maxHeartbeats 1000000 in
theorem known0 (c : Int) (w : World) (c0 : -9223372036854775808 ≤ c) (c1 : c ≤ 9223372036854775807) (hk : pickP c 5 = 0) :
    Calls Tryz.prog 7 #[.int .i64 c] w fun e w' => e = .returned (.bool true) ∧ Below w.heap.size w w' := by
  have hp := keepPick c 5 w c0 c1 (by decide) (by decide)
  rw [hk] at hp
  have h0 := fun w' => cDigest [] w' (by decide)
  have h1 := fun w' => cDigest [97] w' (by decide)
  have h2 := fun w' => cDigest [84, 0] w' (by decide)
  rw [kn_d0] at h0
  rw [kn_d1] at h1
  rw [kn_d2] at h2
  have H0 := hide h0
  have H1 := hide h1
  have H2 := hide h2
  clear h0 h1 h2
  go_enter Tryz.func7, Tryz.ntmps7
  go_wp2_with (go_at_call 22; refine hp.mono ?_; rintro e w' ⟨rfl, hw'⟩; rw [hw']; clear hw' w')
  refine (unhide H0 w).mono ?_
  rintro e w1 ⟨rfl, hb1⟩
  go_wp2_with fail
  refine (unhide H1 w1).mono ?_
  rintro e w2 ⟨rfl, hb2⟩
  go_wp2_with fail
  refine (unhide H2 w2).mono ?_
  rintro e w3 ⟨rfl, hb3⟩
  have hb := (hb1.trans (hb2.mono hb1.size)).trans (hb3.mono (Nat.le_trans hb1.size hb2.size))
  have e1 : ((bs [48, 48, 49]).toList == ([48, 48, 49] : List UInt8)) = true := by rw [str_eq]; decide
  have e2 : ((bs [49, 54, 57]).toList == ([49, 54, 57] : List UInt8)) = true := by rw [str_eq]; decide
  have e3 : ((bs [53, 99, 55]).toList == ([53, 99, 55] : List UInt8)) = true := by rw [str_eq]; decide
  clear hb1 hb2 hb3 H0 H1 H2 hp
  go_wp2_with fail
  go_ret
  exact ⟨rfl, hb⟩
theorem ents1 (W : World) (x : En) : EntsAt (W.alloc (.cells #[.string x.path, .int .i64 x.kind, .string x.data] 32)) W.heap.size 0 [x] := by
  intro i hi
  have hb := heap_alloc_new W (.cells #[.string x.path, .int .i64 x.kind, .string x.data] 32)
  match i, hi with
  | 0, _ => exact ⟨cell_of_block hb, cell_of_block hb, cell_of_block hb⟩
theorem ents2 (W : World) (x y : En) : EntsAt (W.alloc (.cells #[.string x.path, .int .i64 x.kind, .string x.data, .string y.path, .int .i64 y.kind, .string y.data] 32)) W.heap.size 0 [x, y] := by
  intro i hi
  have hb := heap_alloc_new W (.cells #[.string x.path, .int .i64 x.kind, .string x.data, .string y.path, .int .i64 y.kind, .string y.data] 32)
  match i, hi with
  | 0, _ => exact ⟨cell_of_block hb, cell_of_block hb, cell_of_block hb⟩
  | 1, _ => exact ⟨cell_of_block hb, cell_of_block hb, cell_of_block hb⟩
theorem fit_nil : TFit [] := fun i hi => by simp at hi
theorem fit_knL : TFit knL := by
  intro i hi
  match i, hi with
  | 0, _ => show (1 : Nat) ≤ 1100000 ∧ (1 : Nat) ≤ maxLen; decide
theorem fit_knA : TFit knA := by
  intro i hi
  match i, hi with
  | 0, _ => show (1 : Nat) ≤ 1100000 ∧ (0 : Nat) ≤ maxLen; decide
  | 1, _ => show (3 : Nat) ≤ 1100000 ∧ (4 : Nat) ≤ maxLen; decide
theorem fit_knB : TFit knB := by
  intro i hi
  match i, hi with
  | 0, _ => show (1 : Nat) ≤ 1100000 ∧ (0 : Nat) ≤ maxLen; decide
  | 1, _ => show (3 : Nat) ≤ 1100000 ∧ (7 : Nat) ≤ maxLen; decide
theorem fit_knC : TFit knC := by
  intro i hi
  match i, hi with
  | 0, _ => show (1 : Nat) ≤ 1100000 ∧ (7 : Nat) ≤ maxLen; decide
set_option maxRecDepth 100000 in
set_option maxHeartbeats 1000000 in
theorem known1 (c : Int) (w : World) (hg : GlobOk w) (c0 : -9223372036854775808 ≤ c) (c1 : c ≤ 9223372036854775807) (hk : pickP c 5 = 1) :
    Calls Tryz.prog 7 #[.int .i64 c] w fun e w' => e = .returned (.bool true) ∧ Below w.heap.size w w' := by
  have hp := keepPick c 5 w c0 c1 (by decide) (by decide)
  rw [hk] at hp
  have h1 := progBuild_uni [] none 0 w hg (by decide) (.inl rfl) fit_nil
  rw [kn_e0.1, kn_e0.2.1, kn_e0.2.2] at h1
  have H1 := hide h1
  clear h1
  go_enter Tryz.func7, Tryz.ntmps7
  go_wp2_with (go_at_call 22; refine hp.mono ?_; rintro e w' ⟨rfl, hw'⟩; rw [hw']; clear hw' w')
  refine (unhide H1).mono ?_
  rintro e w1 ⟨v1, rfl, ho1, hb1⟩
  obtain ⟨a1, c1', rfl, ht1, -, -⟩ := ho1.texts
  have hbA : Below w1.heap.size w1 (w1.alloc (.cells #[.string ⟨#[97]⟩, .int .i64 1, .string ⟨#[120]⟩] 32)) := (Below.refl _ _).alloc (Nat.le_refl _) _
  have h2 := progBuild_uni knL (some ⟨w1.heap.size, 0, none⟩) 1 _ (hg.below (hb1.trans (hbA.mono hb1.size)) (Nat.le_refl _)) (by decide) (.inr ⟨_, _, rfl, ents1 w1 ⟨⟨#[97]⟩, 1, ⟨#[120]⟩⟩⟩) fit_knL
  rw [kn_e1.1] at h2
  have H2 := hide h2
  clear h2 H1 hp ho1
  go_wp2_with fail
  refine (unhide H2).mono ?_
  rintro e w2 ⟨v2, rfl, ho2, hb2⟩
  obtain ⟨a2, c2', rfl, -, -, -⟩ := ho2.texts
  rw [kn_e1.2]
  have hb := (hb1.trans (hbA.mono hb1.size)).trans (hb2.mono (Nat.le_trans hb1.size hbA.size))
  obtain ⟨b, o, rfl, hc⟩ := textsGet (ht1.below (hbA.trans (hb2.mono hbA.size)) (Nat.le_refl _)) (k := 0) (by decide)
  have e3 : ((bs [53, 99, 55]).toList == ([53, 99, 55] : List UInt8)) = true := by rw [str_eq]; decide
  have e4 : ((bs [84, 0]).toList == ([84, 0] : List UInt8)) = true := by rw [str_eq]; decide
  have hc' : w2.cell? ⟨b, o, none⟩ = some (.string (bs [84, 0])) := hc
  clear hb1 hb2 hbA ht1 hc H2 ho2
  generalize rootOf knL = R at *
  go_wp2_with fail
  go_ret
  exact ⟨rfl, hb⟩
set_option maxRecDepth 100000 in
set_option maxHeartbeats 1000000 in
theorem known2 (c : Int) (w : World) (c0 : -9223372036854775808 ≤ c) (c1 : c ≤ 9223372036854775807) (hk : pickP c 5 = 2) :
    Calls Tryz.prog 7 #[.int .i64 c] w fun e w' => e = .returned (.bool true) ∧ Below w.heap.size w w' := by
  have hp := keepPick c 5 w c0 c1 (by decide) (by decide)
  rw [hk] at hp
  have h1 := fun w' => cellarDecode [84, 1, 3, 1, 108, 0] w' (by decide)
  have h2 := fun w' => cellarDecode [84, 1, 3, 1, 108, 1, 120] w' (by decide)
  rw [kn_c0] at h1
  rw [kn_c1] at h2
  have H1 := hide h1
  have H2 := hide h2
  clear h1 h2
  go_enter Tryz.func7, Tryz.ntmps7
  go_wp2_with (go_at_call 22; refine hp.mono ?_; rintro e w' ⟨rfl, hw'⟩; rw [hw']; clear hw' w')
  refine (unhide H1 w).mono ?_
  rintro e w1 ⟨hb1, ⟨-, rfl⟩ | ⟨items, v, hd, -⟩⟩
  · go_wp2_with fail
    refine (unhide H2 w1).mono ?_
    rintro e w2 ⟨hb2, ⟨hd, -⟩ | ⟨items, v, hd, -, -, rfl, ho⟩⟩
    · simp at hd
    · obtain rfl := Option.some.inj hd
      obtain ⟨a2, c2, rfl, hli, -⟩ := ho.lies
      obtain ⟨b, o, rfl, hI⟩ : ∃ b o, a2 = some ⟨b, o, none⟩ ∧ ItemsAt w2 b o [⟨⟨#[108]⟩, 3, ⟨#[]⟩, 0, ⟨#[120]⟩⟩] := by
        rcases hli with h | h
        · simp at h
        · exact h
      obtain ⟨p0, p1, p2, p3, p4⟩ : ItemAt w2 b o ⟨⟨#[108]⟩, 3, ⟨#[]⟩, 0, ⟨#[120]⟩⟩ := hI 0 (by decide)
      have hb := hb1.trans (hb2.mono hb1.size)
      have heq : ∀ (nm dg tg : ByteArray) (kd sz : Int) (w : World), (Op.equalIn 10000 47 (.agg #[.string nm, .int .i64 kd, .string dg, .int .i64 sz, .string tg]) (.agg #[.string nm, .int .i64 kd, .string dg, .int .i64 sz, .string tg])).run Tryz.prog w = .ok true w := fun nm dg tg kd sz w => by
        rw [eq_item]; simp
      simp only at p0 p1 p2 p3 p4
      clear hb1 hb2 hI hli ho hd H1 H2 hp
      go_wp2_with fail
      go_ret
      exact ⟨rfl, hb⟩
  · simp at hd
set_option maxRecDepth 100000 in
set_option maxHeartbeats 1000000 in
theorem known3 (c : Int) (w : World) (hg : GlobOk w) (c0 : -9223372036854775808 ≤ c) (c1 : c ≤ 9223372036854775807) (hk : pickP c 5 = 3) :
    Calls Tryz.prog 7 #[.int .i64 c] w fun e w' => e = .returned (.bool true) ∧ Below w.heap.size w w' := by
  have hp := keepPick c 5 w c0 c1 (by decide) (by decide)
  rw [hk] at hp
  have hbA : Below w.heap.size w (w.alloc (.cells #[.string ⟨#[100]⟩, .int .i64 0, .string ⟨#[]⟩, .string ⟨#[100, 47, 108]⟩, .int .i64 3, .string ⟨#[46, 46, 47, 120]⟩] 32)) := (Below.refl _ _).alloc (Nat.le_refl _) _
  have h1 := progBuild_uni knA (some ⟨w.heap.size, 0, none⟩) 2 _ (hg.below hbA (Nat.le_refl _)) (by decide) (.inr ⟨_, _, rfl, ents2 w ⟨⟨#[100]⟩, 0, ⟨#[]⟩⟩ ⟨⟨#[100, 47, 108]⟩, 3, ⟨#[46, 46, 47, 120]⟩⟩⟩) fit_knA
  rw [kn_e3.1] at h1
  have H1 := hide h1
  clear h1
  go_enter Tryz.func7, Tryz.ntmps7
  go_wp2_with (go_at_call 22; refine hp.mono ?_; rintro e w' ⟨rfl, hw'⟩; rw [hw']; clear hw' w')
  refine (unhide H1).mono ?_
  rintro e w1 ⟨v1, rfl, -, hb1⟩
  have hw1 := hbA.trans (hb1.mono hbA.size)
  have hbB : Below w1.heap.size w1 (w1.alloc (.cells #[.string ⟨#[100]⟩, .int .i64 0, .string ⟨#[]⟩, .string ⟨#[100, 47, 108]⟩, .int .i64 3, .string ⟨#[46, 46, 47, 46, 46, 47, 120]⟩] 32)) := (Below.refl _ _).alloc (Nat.le_refl _) _
  have hwB := hw1.trans (hbB.mono hw1.size)
  have h2 := progBuild_uni knB (some ⟨w1.heap.size, 0, none⟩) 2 _ (hg.below hwB (Nat.le_refl _)) (by decide) (.inr ⟨_, _, rfl, ents2 w1 ⟨⟨#[100]⟩, 0, ⟨#[]⟩⟩ ⟨⟨#[100, 47, 108]⟩, 3, ⟨#[46, 46, 47, 46, 46, 47, 120]⟩⟩⟩) fit_knB
  rw [kn_e3.2.1] at h2
  have H2 := hide h2
  clear h2 H1 hp hbA hb1 hw1
  go_wp2_with fail
  refine (unhide H2).mono ?_
  rintro e w2 ⟨v2, rfl, -, hb2⟩
  have hw2 := hwB.trans (hb2.mono hwB.size)
  have hbC : Below w2.heap.size w2 (w2.alloc (.cells #[.string ⟨#[108]⟩, .int .i64 3, .string ⟨#[120, 47, 46, 46, 47, 46, 46]⟩] 32)) := (Below.refl _ _).alloc (Nat.le_refl _) _
  have hwC := hw2.trans (hbC.mono hw2.size)
  have h3 := progBuild_uni knC (some ⟨w2.heap.size, 0, none⟩) 1 _ (hg.below hwC (Nat.le_refl _)) (by decide) (.inr ⟨_, _, rfl, ents1 w2 ⟨⟨#[108]⟩, 3, ⟨#[120, 47, 46, 46, 47, 46, 46]⟩⟩⟩) fit_knC
  rw [kn_e3.2.2] at h3
  have H3 := hide h3
  clear h3 H2 hbB hb2 hw2 hwB
  go_wp2_with fail
  refine (unhide H3).mono ?_
  rintro e w3 ⟨v3, rfl, -, hb3⟩
  have hw3 := hwC.trans (hb3.mono hwC.size)
  clear H3 hb3 hwC hbC
  go_wp2_with fail
  go_ret
  exact ⟨rfl, hw3⟩
end Go.Proofs.YtjmacegibchplaaGreatDoor

/-
  The statement on fetched trees (Rooted): its body.
-/
namespace Go.Proofs.YtjmacegibchplaaGreatDoor
open Go.RowKit Go.Maps Go.WideMaps
set_option linter.unusedVariables false

/-- what cellarkeep.tree does -/
def KeepTree : Prop := ∀ (raw : List Int) (texts : List (List UInt8)) (ar : Option Addr) (cr : Nat) (at' : Option Addr) (ct : Nat) (w : World), raw.length ≤ 1100000 → texts.length ≤ 1100000 →
    IntsAt w ar raw → (∀ r ∈ raw, -9223372036854775808 ≤ r ∧ r ≤ 9223372036854775807) → TextsAt w at' texts → (∀ x ∈ texts, x.length ≤ 1100000) →
    Calls Tryz.prog 33 #[.slice ar raw.length cr, .slice at' texts.length ct] w fun e w' => ∃ v, e = .returned v ∧ OwnsE w' w.heap.size v (treeP raw texts) ∧ Below w.heap.size w w'
/-- a list of texts appended to an own one -/
theorem app_texts {w : World} {ops : Array Oper} {rest : List Oper} {o : Oper} {a : Act} {Q : Exit → Act → World → Prop} (hgd : o.guard = none) (s x : Operand)
    (ho : o.op = .call { callee := .builtin .append, args := #[s, x], argTypes := #[23, 23] }) (base : Nat) (v : Value) (l : List (List UInt8)) (hs : a.eval s = v) (hown : OwnsS w base v l)
    (ad : Option Addr) (y : List (List UInt8)) (c : Nat) (hx : a.eval x = .slice ad y.length c) (hn : ad = none → y = [] ∧ c = 0) (hy : TextsAt w ad y)
    (hlen : l.length + y.length ≤ 4000000) (hbase : base ≤ w.heap.size)
    (h : ∀ v' w', OwnsS w' base v' (l ++ y) → w.grownBy w' v.ownBlock → wpList Tryz.prog ops Q rest (a.put o.dst v') w') : wpList Tryz.prog ops Q (o :: rest) a w := by
  obtain ⟨i0, hi, hz0, hz1, hz2⟩ := info_parts info_str
  cases ad with
  | none =>
    obtain ⟨rfl, rfl⟩ := hn rfl
    refine wpList_append_own_none hgd s x 23 ho base 9 i0 1 Tryz.underlying23 hi v l.length (l.map strVal) hs hown hx ?_
    exact h v w (by rw [List.append_nil]; exact hown) ⟨rfl, rfl, rfl, Nat.le_refl _, fun _ _ _ => rfl⟩
  | some ad =>
    refine wpList_append_own w hgd s x 23 ho base 9 i0 _ 1 16 Tryz.underlying23 hi hz0 hz1 hz2 rfl (by decide) v l.length (l.map strVal) hs hown ad y.length c (y.map strVal) hx (by simp) ?_ ?_ (by unfold maxLen; omega) (by omega) hbase ?_
    · intro j u hj
      rw [List.getElem?_map] at hj
      rcases hy with rfl | ⟨b, o', e, hy⟩
      · simp at hj
      · obtain ⟨z, hz, rfl⟩ := Option.map_eq_some_iff.1 hj
        obtain ⟨hjl, rfl⟩ := List.getElem?_eq_some_iff.1 hz
        obtain rfl : ad = ⟨b, o', none⟩ := by simpa using e
        rw [add_off]
        exact hy j hjl
    · intro u hu
      obtain ⟨z, _, rfl⟩ := List.mem_map.1 hu
      rfl
    · intro v' w' h2 h3 _
      refine h v' w' ?_ h3
      unfold OwnsS
      rw [List.length_append, List.map_append]
      exact h2
theorem row_neS {w : World} {base e1 s1 n1 b : Nat} {v1 : Value} {xs1 : List Value} {cur : Array Value} {e2 : TypeId} {fz : Nat × Nat} (h1 : w.ownsRow base e1 s1 v1 n1 xs1) (hb : w.heap[b]? = some (.cells cur e2 fz)) (hne : e1 ≠ e2) : v1.ownBlock ≠ some b := by
  intro hg
  rcases h1.2 with ⟨rfl, _⟩ | ⟨g', cap, cur', rfl, hb', hgg, _⟩
  · simp [Value.ownBlock] at hg
  · simp [Value.ownBlock] at hg
    subst hg
    rw [hb] at hgg
    simp at hgg
    exact hne hgg.2.1.symm
theorem CS.grown {w w' : World} {sb pb um n : Nat} {room : Int} {st : List (List UInt8 × List UInt8)} {base s1 n1 : Nat} {v1 : Value} {xs1 : List Value} (h : CS w sb pb um n room st) (ho : w.ownsRow base 9 s1 v1 n1 xs1) (hg : w.grownBy w' v1.ownBlock) : CS w' sb pb um n room st := by
  refine h.fr (S := fun x => v1.ownBlock = some x) (Fr.grown hg (fun g e => e)) (row_neS ho h.c (by decide)) (row_neS ho h.p.s (by decide)) ?_
  intro e
  rcases ho.2 with ⟨rfl, _⟩ | ⟨g', cap, cur', rfl, hb', hgg, _⟩
  · simp [Value.ownBlock] at e
  · simp [Value.ownBlock] at e
    subst e
    exact map_ne_cells h.p.m hgg rfl
theorem up_root_len (room : Int) (l : List En) (tries batch : Int) (L : List Int) (st : List (List UInt8 × List UInt8)) : (upP room l tries batch L st).1.length ≤ 3 := by
  unfold upP
  split
  · simp
  · split
    · simp
    · split
      · simp
      · simp only
        split
        · rw [digest_len]; omega
        · simp
theorem bytes_take1 (l : List (List UInt8)) (k : Nat) (h : k < l.length) : bytesP (l.take (k + 1)) = bytesP (l.take k) + l[k].length := by
  rw [List.take_add_one, List.getElem?_eq_getElem h, bytes_app]
  simp [bytesP]
theorem bytes_take_le (l : List (List UInt8)) (k : Nat) : bytesP (l.take k) ≤ bytesP l := by
  have h := bytes_app (l.take k) (l.drop k)
  rw [List.take_append_drop] at h
  omega
theorem bytes_mem (l : List (List UInt8)) (x : List UInt8) (h : x ∈ l) : x.length ≤ bytesP l := by
  induction l with
  | nil => simp at h
  | cons y r ih =>
    simp only [bytesP]
    rcases List.mem_cons.1 h with rfl | h
    · omega
    · have := ih h; omega
/-- what Fetch gave is built again -/
theorem fetched_built (S : List UInt8 → Option (List UInt8)) (root : List UInt8) (ents dp : Int) (L : List En) (h : fetchP S root ents dp = (0, L)) : errOf L = 0 ∧ rootOf L = root := by
  obtain ⟨ht, hw, hr, out, hb⟩ := fetch_rooted S root ents dp L h
  have he : errOf L = 0 := by unfold errOf; rw [if_neg (by simpa using hw), if_neg (by rw [hb]; simp)]
  refine ⟨he, ?_⟩
  unfold rootOf
  rw [he, if_pos rfl]
  exact hr
end Go.Proofs.YtjmacegibchplaaGreatDoor

/-
  Two trees of one root, each without a clash: the same, or two blobs of one digest differ. Plain lists, no walk.
-/
namespace Go.Proofs.YtjmacegibchplaaGreatDoor
set_option linter.unusedVariables false

theorem pigeon : ∀ (l m : List (List UInt8)), l.Pairwise (fun x y => x ≠ y) → (∀ a ∈ l, a ∈ m) → l.length ≤ m.length
  | [], m, _, _ => Nat.zero_le _
  | a :: l, m, hn, hs => by
    rw [List.pairwise_cons] at hn
    have ha := hs a (by simp)
    have h := pigeon l (m.erase a) hn.2 (fun b hb => (List.mem_erase_of_ne (fun e => hn.1 b hb e.symm)).2 (hs b (by simp [hb])))
    rw [List.length_erase_of_mem ha] at h
    have := List.length_pos_of_mem ha
    simp; omega
def paths (l : List En) : List (List UInt8) := l.map (fun e => e.path.data.toList)
theorem paths_once (l : List En) (ht : Tree l) : (paths l).Pairwise (fun x y => x ≠ y) := by
  unfold paths; rw [List.pairwise_map]; exact path_once l ht
theorem path_uniq (l : List En) (ht : Tree l) (a b : En) (ha : a ∈ l) (hb : b ∈ l) (h : a.path.data.toList = b.path.data.toList) : a = b := by
  obtain ⟨i, hi, rfl⟩ := List.getElem_of_mem ha
  obtain ⟨j, hj, rfl⟩ := List.getElem_of_mem hb
  have := tree_inj l ht i j hi hj h
  subst this; rfl
theorem inP_iff (x y : List En) (hy : Tree y) (i : Nat) (hi : i < x.length) : inP x y i = true ↔ x[i] ∈ y := by
  unfold inP
  rw [en_getD x i hi]
  rcases find_at y x[i].path.data.toList with ⟨j, hj, e, ep, _, _⟩ | ⟨e, hn⟩
  · rw [e, Int.toNat_natCast, en_getD y j hj]
    have hng : ¬ ((j : Int) < 0) := by omega
    simp only [hng, decide_false, Bool.not_false, Bool.true_and, enEq_iff]
    constructor
    · intro h; rw [← h]; exact List.getElem_mem hj
    · intro h; exact path_uniq y hy _ _ (List.getElem_mem hj) h ep
  · rw [e]
    simp only [show ((-1 : Int) < 0) by decide, decide_true, Bool.not_true, Bool.false_and]
    constructor
    · intro h; simp at h
    · intro h
      rw [List.find?_eq_none] at hn
      exact absurd (by simp) (hn _ h)
theorem same_iff (x y : List En) (hx : Tree x) (hy : Tree y) : sameP x y = true ↔ ∀ e, e ∈ x ↔ e ∈ y := by
  unfold sameP
  simp only [Bool.and_eq_true, beq_iff_eq, List.all_eq_true, List.mem_range]
  constructor
  · rintro ⟨hl, hin⟩
    have hxy : ∀ e ∈ x, e ∈ y := by
      intro e he
      obtain ⟨i, hi, rfl⟩ := List.getElem_of_mem he
      exact (inP_iff x y hy i hi).1 (hin i hi)
    refine fun e => ⟨hxy e, fun he => ?_⟩
    have hp : e.path.data.toList ∈ paths x := by
      refine Classical.byContradiction fun hne => ?_
      have hey : e.path.data.toList ∈ paths y := List.mem_map.2 ⟨e, he, rfl⟩
      have h := pigeon (paths x) ((paths y).erase e.path.data.toList) (paths_once x hx) (fun p hp => by
        refine (List.mem_erase_of_ne (fun e' => hne (by rw [← e']; exact hp))).2 ?_
        obtain ⟨a, ha, rfl⟩ := List.mem_map.1 hp
        exact List.mem_map.2 ⟨a, hxy a ha, rfl⟩)
      rw [List.length_erase_of_mem hey] at h
      have h2 := List.length_pos_of_mem hey
      unfold paths at h h2
      simp only [List.length_map] at h h2
      omega
    obtain ⟨a, ha, e2⟩ := List.mem_map.1 hp
    rw [← path_uniq y hy a e (hxy a ha) he e2]; exact ha
  · intro h
    refine ⟨?_, fun i hi => (inP_iff x y hy i hi).2 ((h _).1 (List.getElem_mem hi))⟩
    have h1 := pigeon (paths x) (paths y) (paths_once x hx) (fun p hp => by
      obtain ⟨a, ha, rfl⟩ := List.mem_map.1 hp
      exact List.mem_map.2 ⟨a, (h a).1 ha, rfl⟩)
    have h2 := pigeon (paths y) (paths x) (paths_once y hy) (fun p hp => by
      obtain ⟨a, ha, rfl⟩ := List.mem_map.1 hp
      exact List.mem_map.2 ⟨a, (h a).2 ha, rfl⟩)
    unfold paths at h1 h2
    simp only [List.length_map] at h1 h2
    omega
theorem kid_ents (x y : List En) (hx : Tree x) (hy : Tree y) (h : ∀ e, e ∈ x ↔ e ∈ y) (d : List UInt8) : (kidsP x d).map (fun i => x.getD i en0) = (kidsP y d).map (fun i => y.getD i en0) := by
  have hs : ∀ (l : List En), Tree l → ((kidsP l d).map (fun i => l.getD i en0)).Pairwise (fun a b => less a.path.data.toList b.path.data.toList = true) := by
    intro l ht
    rw [List.pairwise_map]
    refine List.Pairwise.imp_of_mem ?_ (insG_sorted l (pre d) (l.length + 1) [])
    intro i j hi hj hij
    obtain ⟨hi1, hi2⟩ := (kids_iff l ht d i).1 hi
    obtain ⟨hj1, hj2⟩ := (kids_iff l ht d j).1 hj
    have ei := path_pre l ht i hi1
    have ej := path_pre l ht j hj1
    have ni := nm_up l ht i hi1
    have nj := nm_up l ht j hj1
    rw [hi2] at ei ni
    rw [hj2] at ej nj
    rw [ni, nj] at hij
    show less (pathAt l i) (pathAt l j) = true
    generalize nameOf (pathAt l i) = a at *
    generalize nameOf (pathAt l j) = b at *
    rw [ei, ej, less_pre]; exact hij
  refine order_one (fun a b : En => less a.path.data.toList b.path.data.toList) (fun _ => less_irr _) (fun _ _ _ => less_trans _ _ _) _ _ (hs x hx) (hs y hy) (fun e => ?_)
  rw [← mem_inDir x hx, ← mem_inDir y hy]
  unfold inDir
  simp only [List.mem_filter, h e]
/-- an entry's item -/
def itemE (p : List UInt8) (bl : List UInt8 → List UInt8) (e : En) : P.It :=
  if e.kind = 3 then ⟨bs (e.path.data.toList.drop p.length), 3, ⟨#[]⟩, 0, e.data⟩
  else ⟨bs (e.path.data.toList.drop p.length), e.kind, bs (P.digest (if e.kind = 0 then bl (e.path.data.toList ++ [47]) else e.data.data.toList)), ((if e.kind = 0 then bl (e.path.data.toList ++ [47]) else e.data.data.toList).length : Int), ⟨#[]⟩⟩
theorem items_ents (l : List En) (d : List UInt8) (bl : List UInt8 → List UInt8) : itemsP l (pre d) bl = ((kidsP l d).map (fun i => l.getD i en0)).map (itemE (pre d) bl) := by
  unfold itemsP kidsP
  rw [List.map_map]
  rfl
theorem blob_same (x y : List En) (hx : Tree x) (hy : Tree y) (h : ∀ e, e ∈ x ↔ e ∈ y) : ∀ f d, blobP x f (pre d) = blobP y f (pre d)
  | 0, _ => rfl
  | f + 1, d => by
    show dirBytes (itemsP x (pre d) (blobP x f)) = dirBytes (itemsP y (pre d) (blobP y f))
    rw [items_ents, items_ents, kid_ents x y hx hy h d]
    congr 1
    refine List.map_congr_left fun e he => ?_
    have hey := (mem_inDir y hy d e).2 he
    have hm : e ∈ y := by unfold inDir at hey; exact (List.mem_filter.1 hey).1
    obtain ⟨j, hj, rfl⟩ := List.getElem_of_mem hm
    have hne : y[j].path.data.toList ≠ [] := by
      have := path_ne y hy j hj
      unfold pathAt at this
      rwa [en_getD y j hj] at this
    have := blob_same x y hx hy h f y[j].path.data.toList
    rw [pre_some hne] at this
    unfold itemE
    rw [this]
theorem part_same (x y : List En) (hx : Tree x) (hy : Tree y) (h : ∀ e, e ∈ x ↔ e ∈ y) (b : List UInt8) : b ∈ allP x → b ∈ allP y := by
  unfold allP allTo
  rw [List.take_length, List.take_length]
  simp only [List.mem_cons, List.mem_flatMap]
  rintro (hb | ⟨e, he, hb⟩)
  · left; rw [hb]; exact blob_same x y hx hy h 6 []
  · right
    refine ⟨e, (h e).1 he, ?_⟩
    obtain ⟨j, hj, rfl⟩ := List.getElem_of_mem he
    have hne : x[j].path.data.toList ≠ [] := by
      have := path_ne x hx j hj
      unfold pathAt at this
      rwa [en_getD x j hj] at this
    have := blob_same x y hx hy h 6 x[j].path.data.toList
    rw [pre_some hne] at this
    unfold partP at hb ⊢
    rw [← this]; exact hb
theorem last_of (kr : List (List UInt8)) (hc : clashR kr = false) (b : List UInt8) (hb : b ∈ kr) : lastR kr (P.digest b) = some b := by
  cases hl : lastR kr (P.digest b) with
  | none => exact absurd rfl (lastR_none hl b hb)
  | some y =>
    obtain ⟨hy, e⟩ := lastR_some hl
    rw [clashR_false kr hc y hy b hb e]
/-- wherever the two agree on digests, what stands in one stands in the other -/
theorem walk_same (x y : List En) (hx : Tree x) (hy : Tree y) (hcx : clashR (keptAll x) = false) (hcy : clashR (keptAll y) = false) (hag : ∀ d s t, lastR (keptAll x) d = some s → lastR (keptAll y) d = some t → s = t) :
    ∀ f d, blobP x 6 (pre d) = blobP y 6 (pre d) → ∀ i ∈ walkP x f d, x.getD i en0 ∈ y
  | 0, _, _, i, hi => by simp [walkP] at hi
  | f + 1, d, hb, i, hi => by
    rw [blob_dir x hx, blob_dir y hy] at hb
    have h1 := (decOk_iff _ _).2 ⟨kids_ok x hx d, rfl⟩
    have h2 := (decOk_iff _ _).2 ⟨kids_ok y hy d, rfl⟩
    rw [hb, h2] at h1
    have hit : (kidsP y d).map (itemQ y) = (kidsP x d).map (itemQ x) := Option.some.inj h1
    rw [walk_succ] at hi
    simp only [List.mem_flatMap] at hi
    obtain ⟨k, hk, hik⟩ := hi
    obtain ⟨hkl, hku⟩ := (kids_iff x hx d k).1 hk
    have hmem : itemQ x k ∈ (kidsP y d).map (itemQ y) := by rw [hit]; exact List.mem_map.2 ⟨k, hk, rfl⟩
    obtain ⟨m, hm, hq⟩ := List.mem_map.1 hmem
    obtain ⟨hml, hmu⟩ := (kids_iff y hy d m).1 hm
    have px := path_pre x hx k hkl
    have py := path_pre y hy m hml
    rw [hku] at px
    rw [hmu] at py
    have kx := fineP_kind x k hkl (hx.fine k hkl)
    have ky := fineP_kind y m hml (hy.fine m hml)
    have memx : x.getD k en0 ∈ x := by rw [en_getD x k hkl]; exact List.getElem_mem hkl
    have memy : y.getD m en0 ∈ y := by rw [en_getD y m hml]; exact List.getElem_mem hml
    rw [← en_getD x k hkl] at kx
    rw [← en_getD y m hml] at ky
    have qx := itemQ_eq x hx k hkl (x.getD k en0).path.data.toList (x.getD k en0).data.data.toList (x.getD k en0).kind (by rw [bs_of, bs_of])
    have qy := itemQ_eq y hy m hml (y.getD m en0).path.data.toList (y.getD m en0).data.data.toList (y.getD m en0).kind (by rw [bs_of, bs_of])
    rw [qx, qy] at hq
    have bsi : ∀ a b : List UInt8, bs a = bs b → a = b := fun a b h => by rw [← bs_data a, h, bs_data]
    have hkp : ∀ (l : List En), Tree l → ∀ e ∈ l, ∀ b ∈ partP l e, b ∈ keptAll l := fun l hl e he b hbp => (kept_mem l hl b).2 (by
      unfold allP allTo
      rw [List.take_length]
      exact List.mem_cons_of_mem _ (List.mem_flatMap.2 ⟨e, he, hbp⟩))
    have fin : ∀ (pe : (x.getD k en0).path.data.toList = (y.getD m en0).path.data.toList) (ke : (x.getD k en0).kind = (y.getD m en0).kind) (de : (x.getD k en0).data.data.toList = (y.getD m en0).data.data.toList), x.getD k en0 = y.getD m en0 := by
      intro pe ke de
      generalize x.getD k en0 = a at *
      generalize y.getD m en0 = b at *
      obtain ⟨p1, k1, d1⟩ := a
      obtain ⟨p2, k2, d2⟩ := b
      simp only at pe ke de
      rw [← bs_of p1, ← bs_of d1, pe, ke, de, bs_of, bs_of]
    have hpeq : nameOf (pathAt x k) = nameOf (pathAt y m) → (x.getD k en0).path.data.toList = (y.getD m en0).path.data.toList := fun h => by
      show pathAt x k = pathAt y m
      rw [px, py, h]
    have hmain : x.getD k en0 = y.getD m en0 ∧ ((x.getD k en0).kind = 0 → blobP x 6 ((x.getD k en0).path.data.toList ++ [47]) = blobP y 6 ((x.getD k en0).path.data.toList ++ [47])) := by
      by_cases h3y : (y.getD m en0).kind = 3
      · by_cases h3x : (x.getD k en0).kind = 3
        · rw [if_pos h3y, if_pos h3x] at hq
          simp only [P.It.mk.injEq] at hq
          have hn := bsi _ _ hq.1
          exact ⟨fin (hpeq hn.symm) (by rw [h3x, h3y]) (bsi _ _ hq.2.2.2.2).symm, fun h => by rw [h3x] at h; simp at h⟩
        · rw [if_pos h3y, if_neg h3x] at hq
          simp only [P.It.mk.injEq] at hq
          exact absurd hq.2.1.symm h3x
      · by_cases h3x : (x.getD k en0).kind = 3
        · rw [if_neg h3y, if_pos h3x] at hq
          simp only [P.It.mk.injEq] at hq
          exact absurd hq.2.1 h3y
        · rw [if_neg h3y, if_neg h3x] at hq
          simp only [P.It.mk.injEq] at hq
          have hn := bsi _ _ hq.1
          have hkk : (x.getD k en0).kind = (y.getD m en0).kind := hq.2.1.symm
          have hdd := bsi _ _ hq.2.2.1
          have hpp := hpeq hn.symm
          by_cases h0 : (y.getD m en0).kind = 0
          · have h0x : (x.getD k en0).kind = 0 := by rw [hkk, h0]
            rw [if_pos h0, if_pos h0x] at hdd
            have bx := hkp x hx _ memx (blobP x 6 ((x.getD k en0).path.data.toList ++ [47])) (by unfold partP; rw [if_pos h0x]; simp)
            have bY := hkp y hy _ memy (blobP y 6 ((y.getD m en0).path.data.toList ++ [47])) (by unfold partP; rw [if_pos h0]; simp)
            have e := hag _ _ _ (last_of _ hcx _ bx) (by rw [← hdd]; exact last_of _ hcy _ bY)
            have dx : (x.getD k en0).data.data.toList = [] := by
              have := dataOk_bad (x.getD k en0)
              rw [kx, h0x] at this
              simpa [dataOk] using this
            have dy : (y.getD m en0).data.data.toList = [] := by
              have := dataOk_bad (y.getD m en0)
              rw [ky, h0] at this
              simpa [dataOk] using this
            exact ⟨fin hpp hkk (by rw [dx, dy]), fun _ => by rw [e, hpp]⟩
          · have h0x : ¬ (x.getD k en0).kind = 0 := by rw [hkk]; exact h0
            rw [if_neg h0, if_neg h0x] at hdd
            have h12 : ∀ e : En, kindBad e = false → ¬ e.kind = 3 → ¬ e.kind = 0 → e.kind = 1 ∨ e.kind = 2 := by
              intro e he h3 h0
              simp only [kindBad, Bool.or_eq_false_iff, decide_eq_false_iff_not] at he
              omega
            have bx := hkp x hx _ memx (x.getD k en0).data.data.toList (by unfold partP; rw [if_neg h0x, if_pos (h12 _ kx h3x h0x)]; simp)
            have bY := hkp y hy _ memy (y.getD m en0).data.data.toList (by unfold partP; rw [if_neg h0, if_pos (h12 _ ky h3y h0)]; simp)
            have e := hag _ _ _ (last_of _ hcx _ bx) (by rw [← hdd]; exact last_of _ hcy _ bY)
            exact ⟨fin hpp hkk e, fun h => absurd h h0x⟩
    unfold blk at hik
    rcases List.mem_append.1 hik with hik | hik
    · split at hik
      · rename_i h0
        have hbl := hmain.2 h0
        refine walk_same x y hx hy hcx hcy hag f (pathAt x k) ?_ i hik
        rw [pre_some (path_ne x hx k hkl)]
        exact hbl
      · simp at hik
    · rw [List.mem_singleton] at hik
      rw [hik, hmain.1]; exact memy
end Go.Proofs.YtjmacegibchplaaGreatDoor
