import Derived.Test.YtjmacegibchplaaGreatDoorBldLaw
import Derived.Test.YtjmacegibchplaaGreatDoorUpE
import Derived.Test.YtjmacegibchplaaGreatDoorFetR
/-
  The statement on Build: its body.
-/
namespace Go.Proofs.YtjmacegibchplaaGreatDoor
open Go.RowKit
set_option linter.unusedVariables false
def smallL : List En := [⟨⟨#[100, 47, 102]⟩, 2, ⟨#[98, 121, 116, 101, 115]⟩⟩, ⟨⟨#[100]⟩, 0, ⟨#[]⟩⟩, ⟨⟨#[97]⟩, 3, ⟨#[100, 47, 102]⟩⟩]
theorem small_len : (outOf smallL).length = 3 := by kernel_rfl
theorem small_fit : TFit smallL := by
  intro i hi
  match i, hi with
  | 0, _ => show (3 : Nat) ≤ 1100000 ∧ (5 : Nat) ≤ maxLen; decide
  | 1, _ => show (1 : Nat) ≤ 1100000 ∧ (0 : Nat) ≤ maxLen; decide
  | 2, _ => show (1 : Nat) ≤ 1100000 ∧ (3 : Nat) ≤ maxLen; decide
end Go.Proofs.YtjmacegibchplaaGreatDoor

/-
  The statement on Clash: its body, over any Clash that answers as the document asks.
-/
namespace Go.Proofs.YtjmacegibchplaaGreatDoor
open Go.RowKit
set_option linter.unusedVariables false
def errOf (l : List En) : Int := if wrongP l ≠ 0 then wrongP l else if builtP l = none then 3 else 0
def rootOf (l : List En) : List UInt8 := if errOf l = 0 then P.digest (blobP l 6 []) else []
end Go.Proofs.YtjmacegibchplaaGreatDoor

/-
  A small tree that is built, brought and fetched: the plain answers. No walk.
-/
namespace Go.Proofs.YtjmacegibchplaaGreatDoor
set_option linter.unusedVariables false
def awkU := upP 1000 smallL 3 5000 [1, 2, 0, 3] []
theorem awk_err : errOf smallL = 0 := by kernel_rfl
theorem awk_code : awkU.2.2.1 = 0 := by kernel_rfl
theorem awk_tries : awkU.2.1.1 = 4 ∧ awkU.2.1.2.1 = 3 := by constructor <;> kernel_rfl
theorem awk_root : awkU.1 = rootOf smallL := by kernel_rfl
theorem awk_sum : sumP awkU.2.2.2 ≤ 1000 := by decide +kernel
theorem awk_fetch : fetchP (atP awkU.2.2.2) (rootOf smallL) 40 5 = (0, [⟨⟨#[97]⟩, 3, ⟨#[100, 47, 102]⟩⟩, ⟨⟨#[100]⟩, 0, ⟨#[]⟩⟩, ⟨⟨#[100, 47, 102]⟩, 2, ⟨#[98, 121, 116, 101, 115]⟩⟩]) := by kernel_rfl
theorem at_sum : ∀ (st : List (List UInt8 × List UInt8)) (d b : List UInt8), atP st d = some b → b.length ≤ sumP st
  | [], d, b, h => by simp [atP] at h
  | (k, x) :: r, d, b, h => by
    simp only [atP] at h
    simp only [sumP]
    split at h
    · obtain rfl := Option.some.inj h; omega
    · have := at_sum r d b h; omega
end Go.Proofs.YtjmacegibchplaaGreatDoor

/-
  Trees made of raw numbers and texts: each is one, and none of its links leads out. Plain lists, no walk.
-/
namespace Go.Proofs.YtjmacegibchplaaGreatDoor
set_option linter.unusedVariables false
def pickP (c n : Int) : Int := (if c < 0 then -(c + 1) else c) % n
def digP (n : Nat) : List UInt8 := if n < 10 then [UInt8.ofNat (48 + n)] else [UInt8.ofNat (48 + n / 10), UInt8.ofNat (48 + n % 10)]
def lnkP (m : Nat) : List UInt8 := if m = 0 then [120] else if m = 1 then [46, 47, 97, 47, 46, 46] else if m = 2 then [98, 47, 47, 99, 47] else [46]
def inT (dirs : List (List UInt8 × Nat)) (v : Int) : List UInt8 × Nat := dirs.getD (v / 8 % dirs.length).toNat ([], 0)
def nameT (i : Nat) (v : Int) : List UInt8 := UInt8.ofNat (97 + (v / 800 % 26).toNat) :: digP i
def entT (dirs : List (List UInt8 × Nat)) (texts : List (List UInt8)) (i : Nat) (v : Int) : En :=
  if v % 8 ≤ 1 then ⟨bs ((inT dirs v).1 ++ nameT i v), 0, ⟨#[]⟩⟩
  else if v % 8 = 2 then ⟨bs ((inT dirs v).1 ++ nameT i v), 3, bs ((if (inT dirs v).2 = 0 then [] else [46, 46, 47]) ++ lnkP (v / 80 % 4).toNat)⟩
  else ⟨bs ((inT dirs v).1 ++ nameT i v), if v % 8 = 3 then 2 else 1, bs (if texts = [] then [] else (texts.getD (v / 80 % texts.length).toNat []).take 60)⟩
def dirT (dirs : List (List UInt8 × Nat)) (i : Nat) (v : Int) : List (List UInt8 × Nat) :=
  if v % 8 ≤ 1 ∧ (inT dirs v).2 < 4 then dirs ++ [((inT dirs v).1 ++ nameT i v ++ [47], (inT dirs v).2 + 1)] else dirs
def treeG (texts : List (List UInt8)) : List Int → Nat → List (List UInt8 × Nat) → List En
  | [], _, _ => []
  | v :: r, i, dirs => entT dirs texts i v :: treeG texts r (i + 1) (dirT dirs i v)
def treeP (raw : List Int) (texts : List (List UInt8)) : List En := treeG texts ((raw.take 30).map (fun c => pickP c 1099511627776)) 0 [([], 0)]
theorem treeG_len (texts : List (List UInt8)) : ∀ r i dirs, (treeG texts r i dirs).length = r.length
  | [], _, _ => rfl
  | v :: r, i, dirs => by simp [treeG, treeG_len texts r]
theorem dig_name : ∀ i : Fin 30, (digP i.val).length ≤ 2 ∧ ¬ (47 : UInt8) ∈ digP i.val ∧ ¬ (0 : UInt8) ∈ digP i.val ∧ 1 ≤ (digP i.val).length := by decide
theorem dig_inj : ∀ i j : Fin 30, digP i.val = digP j.val → i = j := by decide
theorem let_name : ∀ m : Fin 26, UInt8.ofNat (97 + m.val) ≠ 47 ∧ UInt8.ofNat (97 + m.val) ≠ 0 ∧ UInt8.ofNat (97 + m.val) ≠ 46 := by decide
theorem nameT_ok (i : Nat) (hi : i < 30) (v : Int) : P.isName (nameT i v) = true := by
  obtain ⟨h1, h2, h3, h4⟩ := dig_name ⟨i, hi⟩
  obtain ⟨l1, l2, l3⟩ := let_name ⟨(v / 800 % 26).toNat, by omega⟩
  simp only at h1 h2 h3 h4 l1 l2 l3
  unfold P.isName nameT
  simp only [Bool.and_eq_true, Bool.not_eq_true', decide_eq_true_eq, beq_eq_false_iff_ne, List.length_cons]
  refine ⟨⟨⟨⟨by omega, has_false.2 (fun hm => (List.mem_cons.1 hm).elim (fun e => l1 e.symm) h2)⟩, has_false.2 (fun hm => (List.mem_cons.1 hm).elim (fun e => l2 e.symm) h3)⟩, ?_⟩, ?_⟩
  · intro e
    exact l3 (List.cons.inj e).1
  · intro e
    exact l3 (List.cons.inj e).1
theorem outGo_more : ∀ (L : List (List UInt8)) (a b : Int), a ≤ b → outGo a L = false → outGo b L = false
  | [], _, _, _, _ => rfl
  | x :: r, a, b, hab, h => by
    have hle : (if x = [46, 46] then a - 1 else if x = [] ∨ x = [46] then a else a + 1) ≤ (if x = [46, 46] then b - 1 else if x = [] ∨ x = [46] then b else b + 1) := by
      split
      · omega
      · split <;> omega
    simp only [outGo] at h ⊢
    generalize (if x = [46, 46] then a - 1 else if x = [] ∨ x = [46] then a else a + 1) = da at *
    generalize (if x = [46, 46] then b - 1 else if x = [] ∨ x = [46] then b else b + 1) = db at *
    by_cases hn : da < 0
    · rw [if_pos hn] at h; simp at h
    · rw [if_neg hn] at h
      rw [if_neg (by omega)]
      exact outGo_more r _ _ hle h
theorem out_more {a b : Int} {t : List UInt8} (hab : a ≤ b) (h : outP a t = false) : outP b t = false := by
  unfold outP at h ⊢
  split at h
  · simp at h
  · rename_i hn
    rw [if_neg hn]
    exact outGo_more _ _ _ hab h
theorem lnk_top : ∀ m : Fin 4, outP 0 (lnkP m.val) = false ∧ P.isTarget (lnkP m.val) = true ∧ outP 1 ([46, 46, 47] ++ lnkP m.val) = false ∧ P.isTarget ([46, 46, 47] ++ lnkP m.val) = true := by decide
def DirsOk (seen : List En) (dirs : List (List UInt8 × Nat)) : Prop := ∀ p ∈ dirs, ∃ q, p.1 = pre q ∧ NamesOk q p.2 ∧ p.2 ≤ 4 ∧ (q = [] ∨ ∃ t ∈ seen, pth t = q ∧ t.kind = 0)
theorem inT_ok {seen : List En} {dirs : List (List UInt8 × Nat)} (h : DirsOk seen dirs) (v : Int) : ∃ q, (inT dirs v).1 = pre q ∧ NamesOk q (inT dirs v).2 ∧ (inT dirs v).2 ≤ 4 ∧ (q = [] ∨ ∃ t ∈ seen, pth t = q ∧ t.kind = 0) := by
  unfold inT
  rcases Nat.lt_or_ge (v / 8 % dirs.length).toNat dirs.length with hl | hl
  · rw [List.getD_eq_getElem?_getD, List.getElem?_eq_getElem hl]
    exact h _ (List.getElem_mem hl)
  · rw [List.getD_eq_getElem?_getD, List.getElem?_eq_none hl]
    exact ⟨[], rfl, .inl ⟨rfl, rfl⟩, by simp, .inl rfl⟩
structure TFine (seen : List En) (i : Nat) (e : En) : Prop where
  names : ∀ p ∈ sp (pth e), P.isName p = true
  deep : (sp (pth e)).length ≤ 5
  kind : kindBad e = false
  out : e.kind = 3 → outP ((sp (pth e)).length - 1) e.data.data.toList = false
  up : upPath (pth e) = [] ∨ ∃ t ∈ seen, pth t = upPath (pth e) ∧ t.kind = 0
  last : (nameOf (pth e)).drop 1 = digP i
theorem entT_pth (dirs : List (List UInt8 × Nat)) (texts : List (List UInt8)) (i : Nat) (v : Int) : pth (entT dirs texts i v) = (inT dirs v).1 ++ nameT i v := by
  unfold entT
  split
  · exact bs_data _
  · split <;> exact bs_data _
theorem entT_fine {seen : List En} {dirs : List (List UInt8 × Nat)} (h : DirsOk seen dirs) (texts : List (List UInt8)) (i : Nat) (hi : i < 30) (v : Int) : TFine seen i (entT dirs texts i v) ∧ (sp (pth (entT dirs texts i v))).length = (inT dirs v).2 + 1 := by
  obtain ⟨q, h1, h2, h3, h4⟩ := inT_ok h v
  have hn := nameT_ok i hi v
  obtain ⟨n1, n2, n3⟩ := names_sp h2 hn
  have hp := entT_pth dirs texts i v
  rw [h1] at hp
  have hname : nameOf (pre q ++ nameT i v) = nameT i v := by
    rcases h2 with ⟨rfl, _⟩ | ⟨hq, _⟩
    · rw [pre_nil, List.nil_append]; exact (cut_none (isName_no hn)).2.2
    · rw [pre_some hq, List.append_assoc, List.singleton_append]; exact (cut_some q _ (isName_no hn)).2.2
  have hl : (sp (pth (entT dirs texts i v))).length = (inT dirs v).2 + 1 := by rw [hp]; exact n2
  refine ⟨⟨by rw [hp]; exact n1, by omega, ?_, ?_, ?_, by rw [hp, hname]; rfl⟩, hl⟩
  · unfold entT
    split
    · simp [kindBad]
    · split
      · obtain ⟨l1, l2, l3, l4⟩ := lnk_top ⟨(v / 80 % 4).toNat, by omega⟩
        simp only at l1 l2 l3 l4
        have : P.isTarget ((if (inT dirs v).2 = 0 then [] else [46, 46, 47]) ++ lnkP (v / 80 % 4).toNat) = true := by
          split
          · exact l2
          · exact l4
        generalize hd : (if (inT dirs v).2 = 0 then [] else [46, 46, 47]) ++ lnkP (v / 80 % 4).toNat = dd at *
        have : P.isTarget (bs dd).data.toList = true := by rw [bs_data]; exact this
        generalize bs dd = bb at *
        simp [kindBad, this]
      · have hsz : (bs (if texts = [] then [] else (texts.getD (v / 80 % texts.length).toNat []).take 60)).size ≤ 60 := by
          show (bs _).data.toList.length ≤ 60
          rw [bs_data]
          split
          · simp
          · rw [List.length_take]; omega
        have hk : (if v % 8 = 3 then (2 : Int) else 1) = 1 ∨ (if v % 8 = 3 then (2 : Int) else 1) = 2 := by split <;> simp
        generalize (if v % 8 = 3 then (2 : Int) else 1) = k at *
        generalize bs (if texts = [] then [] else (texts.getD (v / 80 % texts.length).toNat []).take 60) = b at *
        rcases hk with rfl | rfl <;> (simp [kindBad]; omega)
  · rw [hl]
    unfold entT
    split
    · intro hc; simp at hc
    · split
      · intro _
        show outP _ (bs _).data.toList = false
        rw [bs_data]
        obtain ⟨l1, l2, l3, l4⟩ := lnk_top ⟨(v / 80 % 4).toNat, by omega⟩
        simp only at l1 l2 l3 l4
        split
        · exact out_more (by omega) l1
        · exact out_more (by omega) l3
      · intro hc
        exfalso
        simp only at hc
        split at hc <;> simp at hc
  · rw [hp, n3]
    rcases h4 with rfl | ⟨t, ht, e, hk⟩
    · exact .inl rfl
    · exact .inr ⟨t, ht, e, hk⟩
theorem dirT_ok {seen : List En} {dirs : List (List UInt8 × Nat)} (h : DirsOk seen dirs) (texts : List (List UInt8)) (i : Nat) (hi : i < 30) (v : Int) : DirsOk (seen ++ [entT dirs texts i v]) (dirT dirs i v) := by
  have hold : DirsOk (seen ++ [entT dirs texts i v]) dirs := by
    intro p hp
    obtain ⟨q, h1, h2, h3, h4⟩ := h p hp
    exact ⟨q, h1, h2, h3, h4.imp id (fun ⟨t, ht, r⟩ => ⟨t, List.mem_append.2 (.inl ht), r⟩)⟩
  unfold dirT
  split
  · rename_i hc
    obtain ⟨q, h1, h2, h3, h4⟩ := inT_ok h v
    have hn := nameT_ok i hi v
    intro p hp
    rcases List.mem_append.1 hp with hp | hp
    · exact hold p hp
    · rw [List.mem_singleton.1 hp]
      refine ⟨pre q ++ nameT i v, ?_, names_next h2 hn, by have := hc.2; show _ + 1 ≤ 4; omega, .inr ⟨entT dirs texts i v, by simp, ?_, ?_⟩⟩
      · show _ ++ [47] = _
        rw [h1, pre_some (pre_name_ne (isName_ne hn))]
      · rw [entT_pth, h1]
      · unfold entT; rw [if_pos hc.1]
  · exact hold
theorem treeG_fine (texts : List (List UInt8)) : ∀ (r : List Int) (i : Nat) (dirs : List (List UInt8 × Nat)) (seen : List En), DirsOk seen dirs → i + r.length ≤ 30 → ∀ k (hk : k < (treeG texts r i dirs).length), TFine (seen ++ treeG texts r i dirs) (i + k) (treeG texts r i dirs)[k]
  | [], i, dirs, seen, _, _, k, hk => by simp [treeG] at hk
  | v :: r, i, dirs, seen, h, hi, k, hk => by
    have hi' : i < 30 := by simp at hi; omega
    have he : seen ++ treeG texts (v :: r) i dirs = (seen ++ [entT dirs texts i v]) ++ treeG texts r (i + 1) (dirT dirs i v) := by simp [treeG]
    cases k with
    | zero =>
      have := (entT_fine h texts i hi' v).1
      refine ⟨this.names, this.deep, this.kind, this.out, this.up.imp id (fun ⟨t, ht, q⟩ => ⟨t, List.mem_append.2 (.inl ht), q⟩), this.last⟩
    | succ k =>
      have := treeG_fine texts r (i + 1) (dirT dirs i v) (seen ++ [entT dirs texts i v]) (dirT_ok h texts i hi' v) (by simp at hi; omega) k (by simpa [treeG] using hk)
      rw [he, show i + (k + 1) = i + 1 + k by omega]
      exact this
theorem treeP_ok (raw : List Int) (texts : List (List UInt8)) : Tree (treeP raw texts) ∧ wrongP (treeP raw texts) = 0 ∧ (treeP raw texts).length ≤ 30 := by
  have hlen : (treeP raw texts).length ≤ 30 := by
    unfold treeP
    rw [treeG_len, List.length_map, List.length_take]
    omega
  have hf : ∀ k (hk : k < (treeP raw texts).length), TFine (treeP raw texts) k (treeP raw texts)[k] := by
    intro k hk
    have := treeG_fine texts ((raw.take 30).map (fun c => pickP c 1099511627776)) 0 [([], 0)] [] ?_ (by rw [List.length_map, List.length_take]; omega) k hk
    · rw [List.nil_append, Nat.zero_add] at this
      exact this
    · intro p hp
      rw [List.mem_singleton.1 hp]
      exact ⟨[], rfl, .inl ⟨rfl, rfl⟩, by simp, .inl rfl⟩
  have hm : ∀ e ∈ treeP raw texts, ∃ k, TFine (treeP raw texts) k e := by
    intro e he
    obtain ⟨k, hk, rfl⟩ := List.mem_iff_getElem.1 he
    exact ⟨k, hf k hk⟩
  have hon : (treeP raw texts).Pairwise (fun a b => pth a ≠ pth b) := by
    rw [List.pairwise_iff_getElem]
    intro a b ha hb hab e
    have h1 := (hf a ha).last
    have h2 := (hf b hb).last
    rw [e, h2] at h1
    have := dig_inj ⟨b, by omega⟩ ⟨a, by omega⟩ h1
    simp only [Fin.mk.injEq] at this
    omega
  obtain ⟨t1, t2⟩ := treeIs (treeP raw texts) (by omega) hon (fun e he => let ⟨_, h⟩ := hm e he; h.up) (fun e he => let ⟨_, h⟩ := hm e he; h.names) (fun e he => let ⟨_, h⟩ := hm e he; h.deep) (fun e he => let ⟨_, h⟩ := hm e he; h.kind) (fun e he => let ⟨_, h⟩ := hm e he; h.out)
  exact ⟨t1, t2, hlen⟩
end Go.Proofs.YtjmacegibchplaaGreatDoor
