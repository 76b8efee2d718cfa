/-
  Trees as lists of entries: what the document says of them. No walk.
-/
import Derived.Test.YtjmacegibchplaaGreatDoorDecP
namespace Go.Proofs.YtjmacegibchplaaGreatDoor
set_option linter.unusedVariables false

/-- an entry of a tree -/
structure En where
  path : ByteArray
  kind : Int
  data : ByteArray
def en0 : En := ⟨⟨#[]⟩, 0, ⟨#[]⟩⟩
/-- a text at each slash -/
def sp : List UInt8 → List (List UInt8)
  | [] => [[]]
  | c :: r => if c = 47 then [] :: sp r else match sp r with
    | [] => [[c]]
    | h :: t => (c :: h) :: t
theorem sp_end : ∀ (a : List UInt8), P.has a 47 = false → sp a = [a]
  | [], _ => rfl
  | c :: a, h => by
    simp only [P.has] at h
    by_cases e : c == 47
    · simp [e] at h
    · simp only [e, Bool.false_eq_true, if_false] at h
      have hc : ¬ c = 47 := by simpa using e
      simp only [sp, if_neg hc, sp_end a h]
theorem sp_slash : ∀ (a r : List UInt8), P.has a 47 = false → sp (a ++ 47 :: r) = a :: sp r
  | [], r, _ => by simp [sp]
  | c :: a, r, h => by
    simp only [P.has] at h
    by_cases e : c == 47
    · simp [e] at h
    · simp only [e, Bool.false_eq_true, if_false] at h
      have hc : ¬ c = 47 := by simpa using e
      simp only [List.cons_append, sp, if_neg hc, sp_slash a r h]
theorem sp_ne : ∀ (a : List UInt8), sp a ≠ []
  | [] => by simp [sp]
  | c :: a => by
    simp only [sp]
    split
    · simp
    · split <;> simp
theorem sp_len : ∀ (a : List UInt8), (sp a).length ≤ a.length + 1
  | [] => by simp [sp]
  | c :: a => by
    have ih := sp_len a
    simp only [sp]
    split
    · simp; omega
    · split
      · simp
      · rename_i h t e; rw [e] at ih; simp at ih ⊢; omega
theorem sp_part : ∀ (a x : List UInt8), x ∈ sp a → x.length ≤ a.length
  | [], x, h => by simp [sp] at h; subst h; simp
  | c :: a, x, h => by
    simp only [sp] at h
    split at h
    · simp at h
      rcases h with rfl | h
      · simp
      · have := sp_part a x h; simp; omega
    · split at h
      · simp at h; subst h; simp
      · rename_i hh t e
        simp at h
        rcases h with rfl | h
        · have := sp_part a hh (by rw [e]; simp); simp; omega
        · have := sp_part a x (by rw [e]; simp [h]); simp; omega
/-- does a link lead out, from so deep? -/
def outGo : Int → List (List UInt8) → Bool
  | _, [] => false
  | d, x :: r =>
    let d' := if x = [46, 46] then d - 1 else if x = [] ∨ x = [46] then d else d + 1
    if d' < 0 then true else outGo d' r
def outP (d : Int) (t : List UInt8) : Bool := if t.head? = some 47 then true else outGo d (sp t)
/-- the place of a path -/
def findP (l : List En) (path : List UInt8) : Int :=
  match l.findIdx? (fun e => e.path.data.toList == path) with
  | some i => (i : Int)
  | none => -1
def kindBad (e : En) : Bool :=
  decide (e.kind < 0) || decide (3 < e.kind) || (e.kind == 0 && !e.data.toList.isEmpty) || ((e.kind == 1 || e.kind == 2) && decide ((60 : Int) < (e.data.size : Int))) || (e.kind == 3 && !P.isTarget e.data.data.toList)
/-- the path of the directory that an entry stands in -/
def upPath (path : List UInt8) : List UInt8 := path.take (path.length - ((sp path).getLastD []).length - 1)
def upBad (l : List En) (path : List UInt8) : Bool :=
  if (sp path).length ≤ 1 then false else
    if findP l (upPath path) < 0 then true else (l.getD (findP l (upPath path)).toNat en0).kind != 0
/-- is the i-th entry as it should be? -/
def fineP (l : List En) (i : Nat) : Bool :=
  let e := l.getD i en0
  decide ((sp e.path.data.toList).length ≤ 5) && (sp e.path.data.toList).all P.isName && !kindBad e && !upBad l e.path.data.toList && (findP l e.path.data.toList == (i : Int))
def wrongP (l : List En) : Int :=
  if 40 < l.length then 1 else if (List.range l.length).all (fineP l) = false then 1
    else if (l.any fun e => e.kind == 3 && outP ((sp e.path.data.toList).length - 1) e.data.data.toList) then 2 else 0
end Go.Proofs.YtjmacegibchplaaGreatDoor
