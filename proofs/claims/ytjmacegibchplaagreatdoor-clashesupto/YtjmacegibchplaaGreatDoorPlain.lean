/-
  Plain lists and numbers: the digest of a row of bytes. Nothing of the program is named here.
-/

namespace Go.Proofs.YtjmacegibchplaaGreatDoor
namespace P

/-- one byte more -/
def step (n : Int) (c : UInt8) : Int := (263 * n + (c.toNat : Int) + 1) % 4093
/-- the number of a row of bytes -/
def dnum (l : List UInt8) : Int := l.foldl P.step 1
theorem step_bd (n : Int) (c : UInt8) : 0 ≤ P.step n c ∧ P.step n c ≤ 4092 := by unfold P.step; omega
theorem dnum_snoc (l : List UInt8) (c : UInt8) : P.dnum (l ++ [c]) = P.step (P.dnum l) c := by simp [P.dnum]
theorem dnum_bd (l : List UInt8) : 0 ≤ P.dnum l ∧ P.dnum l ≤ 4092 := by
  rcases List.eq_nil_or_concat l with h | ⟨a, c, h⟩
  · subst h; decide
  · rw [h, List.concat_eq_append, P.dnum_snoc]; exact P.step_bd _ _
theorem take_snoc (s : ByteArray) (k : Nat) (h : k < s.size) : s.data.toList.take (k + 1) = s.data.toList.take k ++ [s[k]] := by
  rw [List.take_succ_eq_append_getElem (by simpa using h)]; rfl
theorem dnum_next (s : ByteArray) (k : Nat) (h : k < s.size) : P.dnum (s.data.toList.take (k + 1)) = (263 * P.dnum (s.data.toList.take k) + (s[k].toNat : Int) + 1) % 4093 := by
  rw [P.take_snoc s k h, P.dnum_snoc]; rfl
/-- the sixteen digits -/
def hexd : List UInt8 := [48, 49, 50, 51, 52, 53, 54, 55, 56, 57, 97, 98, 99, 100, 101, 102]
def hex (n : Int) : UInt8 := P.hexd.getD n.toNat 0
/-- a number in three digits -/
def three (n : Int) : List UInt8 := [P.hex (n / 256), P.hex (n / 16 % 16), P.hex (n % 16)]
def digest (l : List UInt8) : List UInt8 := P.three (P.dnum l)

def hexb : ByteArray := { data := #[48, 49, 50, 51, 52, 53, 54, 55, 56, 57, 97, 98, 99, 100, 101, 102] }
theorem cut16 : ∀ i : Fin 16, P.hexb.extract i.val (i.val + 1) = ⟨#[P.hexd.getD i.val 0]⟩ := by decide
theorem cut1 (a : Int) (h0 : 0 ≤ a) (h1 : a ≤ 15) : P.hexb.extract a.toNat (a + 1).toNat = ⟨#[P.hex a]⟩ := by
  have h := P.cut16 ⟨a.toNat, by omega⟩
  rw [show (a + 1).toNat = a.toNat + 1 by omega]
  exact h
theorem three_cuts (n : Int) (h0 : 0 ≤ n) (h1 : n ≤ 4092) :
    (({ data := #[48, 49, 50, 51, 52, 53, 54, 55, 56, 57, 97, 98, 99, 100, 101, 102] } : ByteArray).extract (n / 256).toNat (n / 256 + 1).toNat
      ++ ({ data := #[48, 49, 50, 51, 52, 53, 54, 55, 56, 57, 97, 98, 99, 100, 101, 102] } : ByteArray).extract (n / 16 % 16).toNat (n / 16 % 16 + 1).toNat
      ++ ({ data := #[48, 49, 50, 51, 52, 53, 54, 55, 56, 57, 97, 98, 99, 100, 101, 102] } : ByteArray).extract (n % 16).toNat (n % 16 + 1).toNat)
      = ⟨(P.three n).toArray⟩ := by
  have a := P.cut1 (n / 256) (by omega) (by omega)
  have b := P.cut1 (n / 16 % 16) (by omega) (by omega)
  have c := P.cut1 (n % 16) (by omega) (by omega)
  unfold P.hexb at a b c
  rw [a, b, c]
  rfl

/-- a byte stands in a text -/
def has : List UInt8 → UInt8 → Bool
  | [], _ => false
  | b :: l, c => if b == c then true else P.has l c
def within (a b c : Int) : Bool := decide (b ≤ a ∧ a ≤ c)
def isName (l : List UInt8) : Bool := decide (1 ≤ l.length ∧ l.length ≤ 12) && !P.has l 47 && !P.has l 0 && !(l == [46]) && !(l == [46, 46])
def isTarget (l : List UInt8) : Bool := decide (1 ≤ l.length ∧ l.length ≤ 30) && !P.has l 0
def isDigest (l : List UInt8) : Bool := decide (l.length = 3) && l.all (fun c => P.has P.hexd c)
theorem has_take_succ : ∀ (l : List UInt8) (c : UInt8) (k : Nat) (h : k < l.length), P.has (l.take k) c = false → l[k] ≠ c → P.has (l.take (k + 1)) c = false
  | [], _, k, h, _, _ => absurd h (by simp)
  | b :: l, c, 0, _, _, hne => by simp [P.has] at *; exact hne
  | b :: l, c, k + 1, h, hh, hne => by
    simp only [List.take_succ_cons, P.has] at hh ⊢
    by_cases e : b == c
    · simp [e] at hh
    · simp only [e, Bool.false_eq_true, if_false] at hh ⊢
      exact P.has_take_succ l c k (by simpa using h) hh (by simpa using hne)
theorem has_at : ∀ (l : List UInt8) (c : UInt8) (k : Nat) (h : k < l.length), l[k] = c → P.has l c = true
  | [], _, k, h, _ => absurd h (by simp)
  | b :: l, c, 0, _, he => by simp at he; simp [P.has, he]
  | b :: l, c, k + 1, h, he => by
    simp only [P.has]
    by_cases e : b == c
    · simp [e]
    · simp only [e, Bool.false_eq_true, if_false]; exact P.has_at l c k (by simpa using h) (by simpa using he)

def shape (k : Int) : Int := if k = 0 then 1 else if k = 1 then 1 else if k = 2 then 1 else if k = 3 then 2 else 0

/-- an item of a directory -/
structure It where
  name : ByteArray
  kind : Int
  dig : ByteArray
  size : Int
  tgt : ByteArray

def plainOk (x : P.It) : Bool := P.isDigest x.dig.data.toList && P.within x.size 0 2000 && x.tgt.toList.isEmpty
def linkOk (x : P.It) : Bool := P.isTarget x.tgt.data.toList && x.dig.toList.isEmpty && (x.size == 0)
def itemOk (x : P.It) : Bool := P.isName x.name.data.toList && (if P.shape x.kind = 1 then P.plainOk x else if P.shape x.kind = 2 then P.linkOk x else false)

end P
end Go.Proofs.YtjmacegibchplaaGreatDoor
