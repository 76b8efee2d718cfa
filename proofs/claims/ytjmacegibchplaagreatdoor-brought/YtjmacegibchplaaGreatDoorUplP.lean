/-
  Stores and Upload, told over plain lists: what a store holds behind an upload, and what was sent. No walk.
-/
import Derived.Test.YtjmacegibchplaaGreatDoorFetT
namespace Go.Proofs.YtjmacegibchplaaGreatDoor
set_option linter.unusedVariables false
def atP : List (List UInt8 × List UInt8) → List UInt8 → Option (List UInt8)
  | [], _ => none
  | (k, b) :: r, d => if k = d then some b else atP r d
def sumP : List (List UInt8 × List UInt8) → Nat
  | [] => 0
  | (_, b) :: r => b.length + sumP r
def putP (room : Int) (st : List (List UInt8 × List UInt8)) (b : List UInt8) : Int × List (List UInt8 × List UInt8) :=
  if (atP st (P.digest b)).isSome then (0, st) else if room < (b.length : Int) + (sumP st : Int) then (6, st) else (0, st ++ [(P.digest b, b)])
def putsP (room : Int) : List (List UInt8 × List UInt8) → List (List UInt8) → Int × List (List UInt8 × List UInt8)
  | st, [] => (0, st)
  | st, b :: r => if (putP room st b).1 ≠ 0 then putP room st b else putsP room (putP room st b).2 r
def bytesP : List (List UInt8) → Nat
  | [] => 0
  | b :: r => b.length + bytesP r
def tryP (room : Int) (link : List Int) (l : List (List UInt8)) : Nat → List (List UInt8 × List UInt8) → Nat × Nat × Nat → Int × List (List UInt8 × List UInt8) × (Nat × Nat × Nat)
  | 0, st, s => (10, st, s)
  | k + 1, st, s =>
    let s' := (s.1 + 1, s.2.1 + l.length, s.2.2 + bytesP l)
    if link.getD s.1 0 = 1 then tryP room link l k st s'
    else
      let q := if link.getD s.1 0 = 3 then putsP room (putsP room st l).2 l else putsP room st l
      if link.getD s.1 0 ≠ 2 then (q.1, q.2, s') else tryP room link l k q.2 s'
def moreP (batch : Int) : Nat → List (List UInt8) → Nat
  | _, [] => 0
  | n, b :: r => if (n : Int) + (b.length : Int) ≤ batch then moreP batch (n + b.length) r + 1 else 0
def sizeP (batch : Int) : List (List UInt8) → Nat
  | [] => 0
  | b :: r => moreP batch b.length r + 1
def sendP (room batch : Int) (tries : Nat) (link : List Int) : Nat → List (List UInt8) → List (List UInt8 × List UInt8) → Nat × Nat × Nat → Int × List (List UInt8 × List UInt8) × (Nat × Nat × Nat)
  | 0, _, st, s => (0, st, s)
  | f + 1, miss, st, s =>
    if miss = [] then (0, st, s)
    else
      let q := tryP room link (miss.take (sizeP batch miss)) tries st s
      if q.1 ≠ 0 then q else sendP room batch tries link f (miss.drop (sizeP batch miss)) q.2.1 q.2.2
def bringP (room batch : Int) (tries : Nat) (link : List Int) (blobs : List (List UInt8)) (st : List (List UInt8 × List UInt8)) : Int × List (List UInt8 × List UInt8) × (Nat × Nat × Nat) :=
  let miss := blobs.filter (fun b => !(atP st (P.digest b)).isSome)
  let q := tryP room link [] tries st (0, 0, 0)
  if q.1 ≠ 0 then q else sendP room batch tries link miss.length miss q.2.1 q.2.2
def planOk (tries batch : Int) (link : List Int) : Bool := decide (1 ≤ tries ∧ tries ≤ 9 ∧ 1 ≤ batch ∧ batch ≤ 5000) && link.all (fun k => decide (0 ≤ k ∧ k ≤ 3))
theorem atP_app (st : List (List UInt8 × List UInt8)) (k b d : List UInt8) : atP (st ++ [(k, b)]) d = if (atP st d).isSome then atP st d else if k = d then some b else none := by
  induction st with
  | nil => simp [atP]
  | cons p r ih =>
    obtain ⟨k2, b2⟩ := p
    rw [List.cons_append]
    simp only [atP]
    split
    · simp
    · exact ih
theorem sumP_app (st : List (List UInt8 × List UInt8)) (k b : List UInt8) : sumP (st ++ [(k, b)]) = sumP st + b.length := by
  induction st with
  | nil => simp [sumP]
  | cons p r ih => obtain ⟨k2, b2⟩ := p; rw [List.cons_append]; simp only [sumP]; rw [ih]; omega
theorem bytes_app (a b : List (List UInt8)) : bytesP (a ++ b) = bytesP a + bytesP b := by
  induction a with
  | nil => simp [bytesP]
  | cons x r ih => rw [List.cons_append]; simp only [bytesP]; rw [ih]; omega
structure Grew (st st' : List (List UInt8 × List UInt8)) (l : List (List UInt8)) : Prop where
  old : ∀ d b, atP st d = some b → atP st' d = some b
  new : ∀ d b, atP st' d = some b → atP st d = some b ∨ (b ∈ l ∧ d = P.digest b)
theorem Grew.refl (st : List (List UInt8 × List UInt8)) (l : List (List UInt8)) : Grew st st l := ⟨fun _ _ h => h, fun _ _ h => .inl h⟩
theorem Grew.trans {a b c : List (List UInt8 × List UInt8)} {l m : List (List UInt8)} (h1 : Grew a b l) (h2 : Grew b c m) (n : List (List UInt8)) (hl : ∀ x ∈ l, x ∈ n) (hm : ∀ x ∈ m, x ∈ n) : Grew a c n :=
  ⟨fun d b h => h2.old d b (h1.old d b h), fun d b h => by
    rcases h2.new d b h with h | ⟨h, e⟩
    · rcases h1.new d b h with h | ⟨h, e⟩
      · exact .inl h
      · exact .inr ⟨hl b h, e⟩
    · exact .inr ⟨hm b h, e⟩⟩
theorem putP_grew (room : Int) (st : List (List UInt8 × List UInt8)) (b : List UInt8) : Grew st (putP room st b).2 [b] := by
  unfold putP
  split
  · exact Grew.refl _ _
  · rename_i hn
    split
    · exact Grew.refl _ _
    · refine ⟨fun d x h => ?_, fun d x h => ?_⟩
      · show atP (st ++ [(P.digest b, b)]) d = some x
        rw [atP_app, h]; rfl
      · change atP (st ++ [(P.digest b, b)]) d = some x at h
        rw [atP_app] at h
        split at h
        · exact .inl h
        · split at h
          · rename_i hd
            obtain rfl := Option.some.inj h
            exact .inr ⟨by simp, hd.symm⟩
          · simp at h
theorem putsP_grew (room : Int) : ∀ (l : List (List UInt8)) (st : List (List UInt8 × List UInt8)), Grew st (putsP room st l).2 l
  | [], st => Grew.refl _ _
  | b :: r, st => by
    simp only [putsP]
    split
    · exact (putP_grew room st b).trans (Grew.refl _ []) _ (by simp) (by simp)
    · exact (putP_grew room st b).trans (putsP_grew room r _) _ (by simp) (fun x h => by simp [h])
theorem tryP_grew (room : Int) (link : List Int) (l : List (List UInt8)) : ∀ k st s, Grew st (tryP room link l k st s).2.1 l
  | 0, st, s => Grew.refl _ _
  | k + 1, st, s => by
    have hq : Grew st (if link.getD s.1 0 = 3 then putsP room (putsP room st l).2 l else putsP room st l).2 l := by
      split
      · exact (putsP_grew room l st).trans (putsP_grew room l _) _ (fun _ h => h) (fun _ h => h)
      · exact putsP_grew room l st
    simp only [tryP]
    split
    · exact tryP_grew room link l k st _
    · split
      · exact hq
      · exact hq.trans (tryP_grew room link l k _ _) _ (fun _ h => h) (fun _ h => h)
def Roomy (room : Int) (all : List (List UInt8)) (st : List (List UInt8 × List UInt8)) : Prop := ∃ done : List (List UInt8), done.Pairwise (fun x y => x ≠ y) ∧ (∀ x ∈ done, x ∈ all) ∧ st = done.map (fun b => (P.digest b, b))
theorem sum_done (done : List (List UInt8)) : sumP (done.map (fun b => (P.digest b, b))) = bytesP done := by
  induction done with
  | nil => rfl
  | cons b r ih => simp only [List.map_cons, sumP, bytesP]; rw [ih]
theorem at_done (done : List (List UInt8)) (b : List UInt8) (h : b ∈ done) : (atP (done.map (fun b => (P.digest b, b))) (P.digest b)).isSome = true := by
  induction done with
  | nil => simp at h
  | cons c r ih =>
    simp only [List.map_cons, atP]
    split
    · rfl
    · rcases List.mem_cons.1 h with rfl | h
      · rename_i hn; exact absurd rfl hn
      · exact ih h
theorem bytes_sub : ∀ (done all : List (List UInt8)), done.Pairwise (fun x y => x ≠ y) → (∀ x ∈ done, x ∈ all) → bytesP done ≤ bytesP all
  | [], all, _, _ => by simp [bytesP]
  | b :: r, all, hn, hs => by
    rw [List.pairwise_cons] at hn
    have hb := hs b (by simp)
    have h := bytes_sub r (all.erase b) hn.2 (fun c hc => (List.mem_erase_of_ne (fun e => hn.1 c hc e.symm)).2 (hs c (by simp [hc])))
    have he : ∀ (m : List (List UInt8)), b ∈ m → bytesP m = b.length + bytesP (m.erase b) := by
      intro m
      induction m with
      | nil => intro h; simp at h
      | cons c m ih =>
        intro hm
        by_cases e : c = b
        · subst e; simp [bytesP]
        · rw [List.erase_cons_tail (by simpa using e)]
          simp only [bytesP]
          rw [ih ((List.mem_cons.1 hm).resolve_left (fun h => e h.symm))]
          omega
    rw [he all hb]
    simp only [bytesP]
    omega
theorem putP_roomy {room : Int} {all : List (List UInt8)} {st : List (List UInt8 × List UInt8)} (hr : (bytesP all : Int) ≤ room) (h : Roomy room all st) (b : List UInt8) (hb : b ∈ all) : (putP room st b).1 = 0 ∧ Roomy room all (putP room st b).2 ∧ (atP (putP room st b).2 (P.digest b)).isSome = true := by
  obtain ⟨done, hn, hs, rfl⟩ := h
  unfold putP
  split
  · rename_i hc
    exact ⟨rfl, ⟨done, hn, hs, rfl⟩, hc⟩
  · rename_i hc
    have hnb : b ∉ done := fun h => hc (at_done done b h)
    have hn2 : (done ++ [b]).Pairwise (fun x y => x ≠ y) := by
      rw [List.pairwise_append]
      refine ⟨hn, by simp, ?_⟩
      rintro x hx y hy rfl
      exact hnb (by rw [← List.mem_singleton.1 hy]; exact hx)
    have hs2 : ∀ x ∈ done ++ [b], x ∈ all := by
      intro x hx
      rcases List.mem_append.1 hx with h | h
      · exact hs x h
      · rw [List.mem_singleton.1 h]; exact hb
    have hle := bytes_sub _ _ hn2 hs2
    rw [bytes_app] at hle
    simp only [bytesP] at hle
    rw [if_neg (by rw [sum_done]; omega)]
    refine ⟨rfl, ⟨done ++ [b], hn2, hs2, by simp⟩, ?_⟩
    rw [atP_app]
    split
    · assumption
    · simp
theorem putsP_roomy {room : Int} {all : List (List UInt8)} (hr : (bytesP all : Int) ≤ room) : ∀ (l : List (List UInt8)) (st : List (List UInt8 × List UInt8)), Roomy room all st → (∀ b ∈ l, b ∈ all) →
    (putsP room st l).1 = 0 ∧ Roomy room all (putsP room st l).2 ∧ ∀ b ∈ l, (atP (putsP room st l).2 (P.digest b)).isSome = true
  | [], st, h, _ => ⟨rfl, h, by simp⟩
  | b :: r, st, h, hl => by
    obtain ⟨h1, h2, h3⟩ := putP_roomy hr h b (hl b (by simp))
    simp only [putsP]
    rw [if_neg (by rw [h1]; simp)]
    obtain ⟨h4, h5, h6⟩ := putsP_roomy hr r _ h2 (fun c hc => hl c (by simp [hc]))
    refine ⟨h4, h5, fun c hc => ?_⟩
    rcases List.mem_cons.1 hc with rfl | hc
    · obtain ⟨x, hx⟩ := Option.isSome_iff_exists.1 h3
      rw [(putsP_grew room r _).old _ _ hx]; rfl
    · exact h6 c hc
theorem tryP_roomy {room : Int} {all : List (List UInt8)} (hr : (bytesP all : Int) ≤ room) (link : List Int) (l : List (List UInt8)) (hl : ∀ b ∈ l, b ∈ all) : ∀ (k : Nat) (st : List (List UInt8 × List UInt8)) (s : Nat × Nat × Nat), Roomy room all st →
    Roomy room all (tryP room link l k st s).2.1 ∧
    ∃ n, n ≤ k ∧ (tryP room link l k st s).2.2 = (s.1 + n, s.2.1 + n * l.length, s.2.2 + n * bytesP l) ∧
      (((tryP room link l k st s).1 = 0 ∧ 1 ≤ n ∧ (∀ b ∈ l, (atP (tryP room link l k st s).2.1 (P.digest b)).isSome = true) ∧ ((∀ i, link.getD i 0 ≠ 1 ∧ link.getD i 0 ≠ 2) → n = 1)) ∨
        ((tryP room link l k st s).1 = 10 ∧ n = k ∧ ∀ i, i < k → link.getD (s.1 + i) 0 = 1 ∨ link.getD (s.1 + i) 0 = 2))
  | 0, st, s, h => ⟨h, 0, by omega, by simp [tryP], .inr ⟨rfl, rfl, by simp⟩⟩
  | k + 1, st, s, h => by
    obtain ⟨p1, p2, p3⟩ := putsP_roomy hr l st h hl
    obtain ⟨q1, q2, q3⟩ := putsP_roomy hr l _ p2 hl
    have hq : (if link.getD s.1 0 = 3 then putsP room (putsP room st l).2 l else putsP room st l).1 = 0 ∧ Roomy room all (if link.getD s.1 0 = 3 then putsP room (putsP room st l).2 l else putsP room st l).2 ∧ ∀ b ∈ l, (atP (if link.getD s.1 0 = 3 then putsP room (putsP room st l).2 l else putsP room st l).2 (P.digest b)).isSome = true := by
      split
      · exact ⟨q1, q2, q3⟩
      · exact ⟨p1, p2, p3⟩
    generalize hg : (if link.getD s.1 0 = 3 then putsP room (putsP room st l).2 l else putsP room st l) = q at hq
    have step : ∀ st2, Roomy room all st2 → (link.getD s.1 0 = 1 ∨ link.getD s.1 0 = 2) →
        Roomy room all (tryP room link l k st2 (s.1 + 1, s.2.1 + l.length, s.2.2 + bytesP l)).2.1 ∧
        ∃ n, n ≤ k + 1 ∧ (tryP room link l k st2 (s.1 + 1, s.2.1 + l.length, s.2.2 + bytesP l)).2.2 = (s.1 + n, s.2.1 + n * l.length, s.2.2 + n * bytesP l) ∧
          (((tryP room link l k st2 (s.1 + 1, s.2.1 + l.length, s.2.2 + bytesP l)).1 = 0 ∧ 1 ≤ n ∧ (∀ b ∈ l, (atP (tryP room link l k st2 (s.1 + 1, s.2.1 + l.length, s.2.2 + bytesP l)).2.1 (P.digest b)).isSome = true) ∧ ((∀ i, link.getD i 0 ≠ 1 ∧ link.getD i 0 ≠ 2) → n = 1)) ∨
            ((tryP room link l k st2 (s.1 + 1, s.2.1 + l.length, s.2.2 + bytesP l)).1 = 10 ∧ n = k + 1 ∧ ∀ i, i < k + 1 → link.getD (s.1 + i) 0 = 1 ∨ link.getD (s.1 + i) 0 = 2)) := by
      intro st2 h2 hbad
      obtain ⟨r1, n, r2, r3, r4⟩ := tryP_roomy hr link l hl k st2 (s.1 + 1, s.2.1 + l.length, s.2.2 + bytesP l) h2
      refine ⟨r1, n + 1, by omega, ?_, ?_⟩
      · rw [r3]
        simp only [Nat.succ_mul, Prod.mk.injEq]
        refine ⟨by omega, by omega, by omega⟩
      · rcases r4 with ⟨a1, a2, a3, a4⟩ | ⟨a1, a2, a3⟩
        · refine .inl ⟨a1, by omega, a3, fun hall => ?_⟩
          have := hall s.1
          omega
        · refine .inr ⟨a1, by omega, fun i hi => ?_⟩
          cases i with
          | zero => exact hbad
          | succ i =>
            have := a3 i (by omega)
            simp only at this
            rwa [show s.1 + (i + 1) = s.1 + 1 + i by omega]
    simp only [tryP]
    rw [hg]
    split
    · rename_i h1
      exact step st h (.inl h1)
    · split
      · refine ⟨hq.2.1, 1, by omega, by simp, .inl ⟨hq.1, Nat.le_refl _, hq.2.2, fun _ => rfl⟩⟩
      · rename_i h2
        exact step q.2 hq.2.1 (.inr (by omega))
theorem size_pos (batch : Int) (b : List UInt8) (r : List (List UInt8)) : 1 ≤ sizeP batch (b :: r) := by simp [sizeP]
theorem sendP_roomy {room : Int} {all : List (List UInt8)} (hr : (bytesP all : Int) ≤ room) (batch : Int) (tries : Nat) (link : List Int) : ∀ (f : Nat) (miss : List (List UInt8)) (st : List (List UInt8 × List UInt8)) (s : Nat × Nat × Nat), miss.length ≤ f → (∀ b ∈ miss, b ∈ all) → Roomy room all st →
    Grew st (sendP room batch tries link f miss st s).2.1 miss ∧
    (((sendP room batch tries link f miss st s).1 = 0 ∧ (∀ b ∈ miss, (atP (sendP room batch tries link f miss st s).2.1 (P.digest b)).isSome = true) ∧
        s.2.1 + miss.length ≤ (sendP room batch tries link f miss st s).2.2.2.1 ∧ (sendP room batch tries link f miss st s).2.2.2.1 ≤ s.2.1 + tries * miss.length ∧ s.2.2 + bytesP miss ≤ (sendP room batch tries link f miss st s).2.2.2.2 ∧
        ((∀ i, link.getD i 0 ≠ 1 ∧ link.getD i 0 ≠ 2) → (sendP room batch tries link f miss st s).2.2.2.1 = s.2.1 + miss.length)) ∨
      ((sendP room batch tries link f miss st s).1 = 10 ∧ ∃ a, ∀ i, i < tries → link.getD (a + i) 0 = 1 ∨ link.getD (a + i) 0 = 2))
  | 0, miss, st, s, hf, _, _ => by
    obtain rfl : miss = [] := List.eq_nil_of_length_eq_zero (by omega)
    exact ⟨Grew.refl _ _, .inl ⟨rfl, by simp, by simp [sendP], by simp [sendP], by simp [sendP, bytesP], by simp [sendP]⟩⟩
  | f + 1, miss, st, s, hf, hm, h => by
    cases miss with
    | nil => exact ⟨Grew.refl _ _, .inl ⟨by simp [sendP], by simp, by simp [sendP], by simp [sendP], by simp [sendP, bytesP], by simp [sendP]⟩⟩
    | cons b r =>
      have hpos := size_pos batch b r
      generalize hmm : b :: r = m at *
      have hne : m ≠ [] := by rw [← hmm]; simp
      generalize hz : sizeP batch m = z at *
      have htk : ∀ x ∈ m.take z, x ∈ m := fun x hx => List.mem_of_mem_take hx
      have hdk : ∀ x ∈ m.drop z, x ∈ m := fun x hx => List.mem_of_mem_drop hx
      obtain ⟨r1, n, r2, r3, r4⟩ := tryP_roomy hr link (m.take z) (fun x hx => hm x (htk x hx)) tries st s h
      have hgr := tryP_grew room link (m.take z) tries st s
      simp only [sendP]
      rw [if_neg hne, hz]
      rcases r4 with ⟨a1, a2, a3, a4⟩ | ⟨a1, a2, a3⟩
      · rw [if_neg (by rw [a1]; simp)]
        have hlen : m.length = (m.take z).length + (m.drop z).length := by rw [← List.length_append, List.take_append_drop]
        have hby : bytesP m = bytesP (m.take z) + bytesP (m.drop z) := by rw [← bytes_app, List.take_append_drop]
        have hlp : 0 < m.length := List.length_pos_iff.2 hne
        have hdl : (m.drop z).length ≤ f := by rw [List.length_drop]; omega
        obtain ⟨g1, g2⟩ := sendP_roomy hr batch tries link f (m.drop z) (tryP room link (m.take z) tries st s).2.1 (tryP room link (m.take z) tries st s).2.2 hdl (fun x hx => hm x (hdk x hx)) r1
        generalize tryP room link (m.take z) tries st s = q at *
        refine ⟨hgr.trans g1 m htk hdk, ?_⟩
        generalize sendP room batch tries link f (m.drop z) q.2.1 q.2.2 = t at *
        rcases g2 with ⟨b1, b2, b3, b4, b5, b6⟩ | ⟨b1, b2⟩
        · refine .inl ⟨b1, ?_, ?_, ?_, ?_, ?_⟩
          · intro x hx
            rw [← List.take_append_drop z m] at hx
            rcases List.mem_append.1 hx with hx | hx
            · obtain ⟨y, hy⟩ := Option.isSome_iff_exists.1 (a3 x hx)
              rw [g1.old _ _ hy]; rfl
            · exact b2 x hx
          · rw [r3] at b3
            simp only at b3
            have : (m.take z).length ≤ n * (m.take z).length := Nat.le_mul_of_pos_left _ a2
            omega
          · rw [r3] at b4
            simp only at b4
            have h1 : n * (m.take z).length ≤ tries * (m.take z).length := Nat.mul_le_mul_right _ r2
            rw [hlen, Nat.mul_add]
            omega
          · rw [r3] at b5
            simp only at b5
            have : bytesP (m.take z) ≤ n * bytesP (m.take z) := Nat.le_mul_of_pos_left _ a2
            omega
          · intro hall
            have hn1 := a4 hall
            have := b6 hall
            rw [r3, hn1] at this
            simp only at this
            omega
        · exact .inr ⟨b1, b2⟩
      · rw [if_pos (by rw [a1]; simp)]
        refine ⟨hgr.trans (Grew.refl _ []) m htk (by simp), .inr ⟨a1, s.1, a3⟩⟩
end Go.Proofs.YtjmacegibchplaaGreatDoor
