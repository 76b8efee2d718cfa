import Derived.Test.YtjmacegibchplaaGreatDoorLawZ
/-
  What a script keeps, taken as one: the calls that take a list.
-/
namespace Go.Proofs.YtjmacegibchplaaGreatDoor
open Go.RowKit Go.Maps Go.WideMaps
set_option linter.unusedVariables false
def KS (wb : Nat) (kT wT kI wI kE wE tx tx3 it it3 en en3 : Value) (Mk : Nat → Prop) (x : Nat) : Prop :=
  MSet wb tx tx3 x ∨ MISet wb it it3 x ∨ MESet wb en en3 x ∨ kT.ownBlock = some x ∨ wT.ownBlock = some x ∨ kI.ownBlock = some x ∨ wI.ownBlock = some x ∨ kE.ownBlock = some x ∨ wE.ownBlock = some x ∨ Mk x
theorem TM.mono {w : World} {l l3 : List Value} {A B : Nat → Prop} (h : TM w l l3 A) (hm : ∀ x, A x → B x) : TM w l l3 B := ⟨h.len, h.full, fun u hu x hx => hm x (h.blk u hu x hx)⟩
theorem TMI.mono {w : World} {l l3 : List Value} {A B : Nat → Prop} (h : TMI w l l3 A) (hm : ∀ x, A x → B x) : TMI w l l3 B := ⟨h.len, h.full, fun u hu x hx => hm x (h.blk u hu x hx)⟩
theorem TME.mono {w : World} {l l3 : List Value} {A B : Nat → Prop} (h : TME w l l3 A) (hm : ∀ x, A x → B x) : TME w l l3 B := ⟨h.len, h.full, fun u hu x hx => hm x (h.blk u hu x hx)⟩
section
variable {w w' : World} {wb base : Nat} {came : Int} {kT wT kI wI kE wE ps tx tx3 it it3 en en3 : Value} {lT lT3 lI lI3 lE lE3 : List Value} {T : List (List UInt8)} {I : List P.It} {E : List En} {Mk : Nat → Prop}
theorem Kt.setLt (h : Kt w wb base came kT wT kI wI kE wE ps tx tx3 it it3 en en3 lT lT3 lI lI3 lE lE3 T I E Mk) (x : Nat) (hx : KS wb kT wT kI wI kE wE tx tx3 it it3 en en3 Mk x) : x < w.heap.size := by
  rcases hx with hx | hx | hx | hx | hx | hx | hx | hx | hx | hx
  · exact h.ms.setLt x hx
  · exact h.mi.setLt x hx
  · exact h.me.setLt x hx
  · exact own_lt h.kt hx
  · exact own_lt h.wt hx
  · exact own_lt h.ki hx
  · exact own_lt h.wi hx
  · exact own_lt h.ke hx
  · exact own_lt h.we hx
  · exact (h.mt x hx).2.2.2
theorem Kt.fr {S : Nat → Prop} (h : Kt w wb base came kT wT kI wI kE wE ps tx tx3 it it3 en en3 lT lT3 lI lI3 lE lE3 T I E Mk) (hf : Fr S w w') (hn : ∀ x, KS wb kT wT kI wI kE wE tx tx3 it it3 en en3 Mk x → ¬ S x) : Kt w' wb base came kT wT kI wI kE wE ps tx tx3 it it3 en en3 lT lT3 lI lI3 lE lE3 T I E Mk where
  ms := h.ms.fr hf (fun x hx => hn x (.inl hx))
  mi := h.mi.fr hf (fun x hx => hn x (.inr (.inl hx)))
  me := h.me.fr hf (fun x hx => hn x (.inr (.inr (.inl hx))))
  kt := ownsRow_same h.kt (fun g e => hf.block g (own_lt h.kt e) (hn g (.inr (.inr (.inr (.inl e))))))
  wt := ownsRow_same h.wt (fun g e => hf.block g (own_lt h.wt e) (hn g (.inr (.inr (.inr (.inr (.inl e)))))))
  ki := ownsRow_same h.ki (fun g e => hf.block g (own_lt h.ki e) (hn g (.inr (.inr (.inr (.inr (.inr (.inl e))))))))
  wi := ownsRow_same h.wi (fun g e => hf.block g (own_lt h.wi e) (hn g (.inr (.inr (.inr (.inr (.inr (.inr (.inl e)))))))))
  ke := ownsRow_same h.ke (fun g e => hf.block g (own_lt h.ke e) (hn g (.inr (.inr (.inr (.inr (.inr (.inr (.inr (.inl e))))))))))
  we := ownsRow_same h.we (fun g e => hf.block g (own_lt h.we e) (hn g (.inr (.inr (.inr (.inr (.inr (.inr (.inr (.inr (.inl e)))))))))))
  nt := h.nt
  ni := h.ni
  ne := h.ne
  lt := h.lt
  li := h.li
  le := h.le
  tm := h.tm.fr hf (fun x hx => hn x (.inr (.inr (.inr (.inr (.inr (.inr (.inr (.inr (.inr hx))))))))))
  tmi := h.tmi.fr hf (fun x hx => hn x (.inr (.inr (.inr (.inr (.inr (.inr (.inr (.inr (.inr hx))))))))))
  tme := h.tme.fr hf (fun x hx => hn x (.inr (.inr (.inr (.inr (.inr (.inr (.inr (.inr (.inr hx))))))))))
  mt := fun x hx => ⟨(h.mt x hx).1, (h.mt x hx).2.1, (h.mt x hx).2.2.1, Nat.lt_of_lt_of_le (h.mt x hx).2.2.2 hf.size⟩
  mi' := h.mi'
  me' := h.me'
theorem Kt.offT (h : Kt w wb base came kT wT kI wI kE wE ps tx tx3 it it3 en en3 lT lT3 lI lI3 lE lE3 T I E Mk) {u : Value} {lu : List (List UInt8)} (ho : OwnsS w base u lu) (x : Nat) (hx : u.ownBlock = some x) :
    (¬ MISet wb it it3 x ∧ kI.ownBlock ≠ some x ∧ wI.ownBlock ≠ some x) ∧ (¬ MESet wb en en3 x ∧ kE.ownBlock ≠ some x ∧ wE.ownBlock ≠ some x) := by
  refine ⟨⟨?_, fun e => rows_ne ho h.ki (by decide) hx e, fun e => rows_ne ho h.wi (by decide) hx e⟩, ?_, fun e => rows_ne ho h.ke (by decide) hx e, fun e => rows_ne ho h.we (by decide) hx e⟩
  · rintro (e | e | e)
    · exact row_neS ho h.ms.wa (by decide) (by rw [hx, e])
    · exact rows_ne ho h.mi.t (by decide) hx e
    · exact rows_ne ho h.mi.t3 (by decide) hx e
  · rintro (e | e | e)
    · exact row_neS ho h.ms.wa (by decide) (by rw [hx, e])
    · exact rows_ne ho h.me.t (by decide) hx e
    · exact rows_ne ho h.me.t3 (by decide) hx e
theorem Kt.new (h : Kt w wb base came kT wT kI wI kE wE ps tx tx3 it it3 en en3 lT lT3 lI lI3 lE lE3 T I E Mk) (x : Nat) (hx : w.heap.size ≤ x) :
    (¬ MSet wb tx tx3 x ∧ kT.ownBlock ≠ some x ∧ wT.ownBlock ≠ some x) ∧ (¬ MISet wb it it3 x ∧ kI.ownBlock ≠ some x ∧ wI.ownBlock ≠ some x) ∧ (¬ MESet wb en en3 x ∧ kE.ownBlock ≠ some x ∧ wE.ownBlock ≠ some x) :=
  ⟨⟨fun e => by have := h.ms.setLt x e; omega, fun e => by have := own_lt h.kt e; omega, fun e => by have := own_lt h.wt e; omega⟩, ⟨fun e => by have := h.mi.setLt x e; omega, fun e => by have := own_lt h.ki e; omega, fun e => by have := own_lt h.wi e; omega⟩, fun e => by have := h.me.setLt x e; omega, fun e => by have := own_lt h.ke e; omega, fun e => by have := own_lt h.we e; omega⟩
theorem Kt.rowT {S : Nat → Prop} {e : TypeId} {s n : Nat} {xs : List Value} {u v : Value} {lv : List (List UInt8)} (h : Kt w wb base came kT wT kI wI kE wE ps tx tx3 it it3 en en3 lT lT3 lI lI3 lE lE3 T I E Mk) (hv : OwnsS w base v lv) (ho : w.ownsRow base e s u n xs)
    (hf : Fr (fun x => MSet wb tx tx3 x ∨ kT.ownBlock = some x ∨ v.ownBlock = some x) w w') (h1 : e ≠ 23) (h2 : e ≠ 9) (h3 : e ≠ 90) : w'.ownsRow base e s u n xs :=
  ownsRow_same ho (fun g eg => hf.block g (own_lt ho eg) (by
    rintro ((e2 | e2 | e2) | e2 | e2)
    · exact row_neS ho h.ms.wa h3 (by rw [eg, e2])
    · exact rows_ne ho h.ms.t h1 eg e2
    · exact rows_ne ho h.ms.t3 h1 eg e2
    · exact rows_ne ho h.kt h2 eg e2
    · exact rows_ne ho hv h2 eg e2))
theorem Kt.takeT {v : Value} {lv : List (List UInt8)} (h : Kt w wb base came kT wT kI wI kE wE ps tx tx3 it it3 en en3 lT lT3 lI lI3 lE lE3 T I E Mk) (hv : OwnsS w base v lv) (hvn : ∀ x, v.ownBlock = some x → ¬ KS wb kT wT kI wI kE wE tx tx3 it it3 en en3 Mk x) (hlv : lv.length ≤ 1200000) (hl : lT.length ≤ 4000000) (hbase : base ≤ w.heap.size) (hc0 : 0 ≤ came) (hc1 : came ≤ 1000000000000) :
    Calls Tryz.prog 77 #[.pointer (some ⟨wb, 0, none⟩), v] w fun e w' => e = .returned (.tuple #[]) ∧ ∃ kT' wT' tx' tx3' lT' lT3' T', ∃ Mk' : Nat → Prop, Kt w' wb base (came + 1) kT' wT' kI wI kE wE ps tx' tx3' it it3 en en3 lT' lT3' lI lI3 lE lE3 T' I E Mk' ∧ (∀ x, KS wb kT' wT' kI wI kE wE tx' tx3' it it3 en en3 Mk' x → KS wb kT wT kI wI kE wE tx tx3 it it3 en en3 Mk x ∨ v.ownBlock = some x ∨ w.heap.size ≤ x) ∧ lT'.length ≤ lT.length + 2 ∧ Fr (fun x => MSet wb tx tx3 x ∨ kT.ownBlock = some x ∨ v.ownBlock = some x) w w' := by
  have hmv : ∀ x, Mk x → v.ownBlock ≠ some x := fun x hx e => hvn x e (.inr (.inr (.inr (.inr (.inr (.inr (.inr (.inr (.inr hx)))))))))
  refine (takeTexts_any v lv T w h.ms h.kt h.wt hv (fun g e => ⟨h.nt g e, fun e2 => hvn g e2 (.inr (.inr (.inr (.inl e))))⟩) h.tm (fun x hx => ⟨(h.mt x hx).1, (h.mt x hx).2.1, hmv x hx, (h.mt x hx).2.2.2⟩) h.lt hlv hl hbase hc0 hc1).mono ?_
  rintro e w' ⟨rfl, kT', wT', tx', tx3', lT', lT3', T', Mk', M, ⟨o1, o2, o3⟩, hne, tm, hmk, hset, hkw, hlen, hf⟩
  have hsz := hf.size
  have offS : ∀ x, Mk x → ¬ (MSet wb tx tx3 x ∨ kT.ownBlock = some x ∨ v.ownBlock = some x) := fun x hx hs => by
    rcases hs with hs | hs | hs
    · exact (h.mt x hx).1 hs
    · exact (h.mt x hx).2.1 hs
    · exact hmv x hx hs
  have oth : ∀ x, Mk' x → (¬ MISet wb it it3 x ∧ kI.ownBlock ≠ some x ∧ wI.ownBlock ≠ some x) ∧ (¬ MESet wb en en3 x ∧ kE.ownBlock ≠ some x ∧ wE.ownBlock ≠ some x) := fun x hx => by
    rcases (hmk x hx).1 with h1 | h1 | h1 | h1
    · exact ⟨h.mi' x h1, h.me' x h1⟩
    · exact h.offT h.kt x h1
    · exact h.offT hv x h1
    · exact (h.new x h1).2
  have mt' : ∀ x, Mk x → ¬ MSet wb tx' tx3' x ∧ kT'.ownBlock ≠ some x ∧ wT'.ownBlock ≠ some x ∧ x < w'.heap.size := fun x hx => by
    have hxl := (h.mt x hx).2.2.2
    refine ⟨fun e => ?_, fun e => ?_, fun e => ?_, by omega⟩
    · rcases hset x e with e | e
      · exact (h.mt x hx).1 e
      · omega
    · rcases hkw x (.inl e) with e | e
      · exact hmv x hx e
      · omega
    · rcases hkw x (.inr e) with e | e
      · exact hmv x hx e
      · omega
  refine ⟨rfl, kT', wT', tx', tx3', lT', lT3', T', fun x => Mk x ∨ Mk' x, ?_, ?_, hlen, hf⟩
  · exact {
      ms := M
      mi := ⟨M.wa, h.rowT (S := fun _ => False) hv h.mi.t hf (by decide) (by decide) (by decide), h.rowT (S := fun _ => False) hv h.mi.t3 hf (by decide) (by decide) (by decide), h.mi.ne⟩
      me := ⟨M.wa, h.rowT (S := fun _ => False) hv h.me.t hf (by decide) (by decide) (by decide), h.rowT (S := fun _ => False) hv h.me.t3 hf (by decide) (by decide) (by decide), h.me.ne⟩
      kt := o1
      wt := o2
      ki := h.rowT (S := fun _ => False) hv h.ki hf (by decide) (by decide) (by decide)
      wi := h.rowT (S := fun _ => False) hv h.wi hf (by decide) (by decide) (by decide)
      ke := h.rowT (S := fun _ => False) hv h.ke hf (by decide) (by decide) (by decide)
      we := h.rowT (S := fun _ => False) hv h.we hf (by decide) (by decide) (by decide)
      nt := hne
      ni := h.ni
      ne := h.ne
      lt := o3
      li := h.li
      le := h.le
      tm := tm.mono (fun x hx => .inr hx)
      tmi := (h.tmi.fr hf offS).mono (fun x hx => .inl hx)
      tme := (h.tme.fr hf offS).mono (fun x hx => .inl hx)
      mt := fun x hx => hx.elim (mt' x) (fun hx => (hmk x hx).2)
      mi' := fun x hx => hx.elim (h.mi' x) (fun hx => (oth x hx).1)
      me' := fun x hx => hx.elim (h.me' x) (fun hx => (oth x hx).2) }
  · rintro x (hx | hx | hx | hx | hx | hx | hx | hx | hx | hx | hx)
    · exact (hset x hx).elim (fun e => .inl (.inl e)) (fun e => .inr (.inr e))
    · exact .inl (.inr (.inl hx))
    · exact .inl (.inr (.inr (.inl hx)))
    · exact .inr (hkw x (.inl hx))
    · exact .inr (hkw x (.inr hx))
    · exact .inl (.inr (.inr (.inr (.inr (.inr (.inl hx))))))
    · exact .inl (.inr (.inr (.inr (.inr (.inr (.inr (.inl hx)))))))
    · exact .inl (.inr (.inr (.inr (.inr (.inr (.inr (.inr (.inl hx))))))))
    · exact .inl (.inr (.inr (.inr (.inr (.inr (.inr (.inr (.inr (.inl hx)))))))))
    · exact .inl (.inr (.inr (.inr (.inr (.inr (.inr (.inr (.inr (.inr hx)))))))))
    · rcases (hmk x hx).1 with h1 | h1 | h1 | h1
      · exact .inl (.inr (.inr (.inr (.inr (.inr (.inr (.inr (.inr (.inr h1)))))))))
      · exact .inl (.inr (.inr (.inr (.inl h1))))
      · exact .inr (.inl h1)
      · exact .inr (.inr h1)
end
end Go.Proofs.YtjmacegibchplaaGreatDoor

/-
  What a script keeps, taken as one: lists of items and of entries taken.
-/
namespace Go.Proofs.YtjmacegibchplaaGreatDoor
open Go.RowKit Go.Maps Go.WideMaps
set_option linter.unusedVariables false

section
variable {w w' : World} {wb base : Nat} {came : Int} {kT wT kI wI kE wE ps tx tx3 it it3 en en3 : Value} {lT lT3 lI lI3 lE lE3 : List Value} {T : List (List UInt8)} {I : List P.It} {E : List En} {Mk : Nat → Prop}
theorem Kt.offI (h : Kt w wb base came kT wT kI wI kE wE ps tx tx3 it it3 en en3 lT lT3 lI lI3 lE lE3 T I E Mk) {u : Value} {lu : List P.It} (ho : OwnsIt w base u lu) (x : Nat) (hx : u.ownBlock = some x) :
    (¬ MSet wb tx tx3 x ∧ kT.ownBlock ≠ some x ∧ wT.ownBlock ≠ some x) ∧ (¬ MESet wb en en3 x ∧ kE.ownBlock ≠ some x ∧ wE.ownBlock ≠ some x) := by
  refine ⟨⟨?_, fun e => rows_ne ho h.kt (by decide) hx e, fun e => rows_ne ho h.wt (by decide) hx e⟩, ?_, fun e => rows_ne ho h.ke (by decide) hx e, fun e => rows_ne ho h.we (by decide) hx e⟩
  · rintro (e | e | e)
    · exact row_neS ho h.ms.wa (by decide) (by rw [hx, e])
    · exact rows_ne ho h.ms.t (by decide) hx e
    · exact rows_ne ho h.ms.t3 (by decide) hx e
  · rintro (e | e | e)
    · exact row_neS ho h.ms.wa (by decide) (by rw [hx, e])
    · exact rows_ne ho h.me.t (by decide) hx e
    · exact rows_ne ho h.me.t3 (by decide) hx e
theorem Kt.rowI {e : TypeId} {s n : Nat} {xs : List Value} {u v : Value} {lv : List P.It} (h : Kt w wb base came kT wT kI wI kE wE ps tx tx3 it it3 en en3 lT lT3 lI lI3 lE lE3 T I E Mk) (hv : OwnsIt w base v lv) (ho : w.ownsRow base e s u n xs)
    (hf : Fr (fun x => MISet wb it it3 x ∨ kI.ownBlock = some x ∨ v.ownBlock = some x) w w') (h1 : e ≠ 43) (h2 : e ≠ 47) (h3 : e ≠ 90) : w'.ownsRow base e s u n xs :=
  ownsRow_same ho (fun g eg => hf.block g (own_lt ho eg) (by
    rintro ((e2 | e2 | e2) | e2 | e2)
    · exact row_neS ho h.ms.wa h3 (by rw [eg, e2])
    · exact rows_ne ho h.mi.t h1 eg e2
    · exact rows_ne ho h.mi.t3 h1 eg e2
    · exact rows_ne ho h.ki h2 eg e2
    · exact rows_ne ho hv h2 eg e2))
theorem Kt.takeI {v : Value} {lv : List P.It} (h : Kt w wb base came kT wT kI wI kE wE ps tx tx3 it it3 en en3 lT lT3 lI lI3 lE lE3 T I E Mk) (hv : OwnsIt w base v lv) (hvn : ∀ x, v.ownBlock = some x → ¬ KS wb kT wT kI wI kE wE tx tx3 it it3 en en3 Mk x) (hlv : lv.length ≤ 1200000) (hl : lI.length ≤ 4000000) (hbase : base ≤ w.heap.size) (hc0 : 0 ≤ came) (hc1 : came ≤ 1000000000000) :
    Calls Tryz.prog 76 #[.pointer (some ⟨wb, 0, none⟩), v] w fun e w' => e = .returned (.tuple #[]) ∧ ∃ kI' wI' it' it3' lI' lI3' I', ∃ Mk' : Nat → Prop, Kt w' wb base (came + 1) kT wT kI' wI' kE wE ps tx tx3 it' it3' en en3 lT lT3 lI' lI3' lE lE3 T I' E Mk' ∧ (∀ x, KS wb kT wT kI' wI' kE wE tx tx3 it' it3' en en3 Mk' x → KS wb kT wT kI wI kE wE tx tx3 it it3 en en3 Mk x ∨ v.ownBlock = some x ∨ w.heap.size ≤ x) ∧ lI'.length ≤ lI.length + 2 ∧ Fr (fun x => MISet wb it it3 x ∨ kI.ownBlock = some x ∨ v.ownBlock = some x) w w' := by
  have hmv : ∀ x, Mk x → v.ownBlock ≠ some x := fun x hx e => hvn x e (.inr (.inr (.inr (.inr (.inr (.inr (.inr (.inr (.inr hx)))))))))
  refine (takeItems_any v lv I w h.mi h.ki h.wi hv (fun g e => ⟨h.ni g e, fun e2 => hvn g e2 (.inr (.inr (.inr (.inr (.inr (.inl e))))))⟩) h.tmi (fun x hx => ⟨(h.mi' x hx).1, (h.mi' x hx).2.1, hmv x hx, (h.mt x hx).2.2.2⟩) h.li hlv hl hbase hc0 hc1).mono ?_
  rintro e w' ⟨rfl, kI', wI', it', it3', lI', lI3', I', Mk', M, ⟨o1, o2, o3⟩, hne, tm, hmk, hset, hkw, hlen, hf⟩
  have hsz := hf.size
  have offS : ∀ x, Mk x → ¬ (MISet wb it it3 x ∨ kI.ownBlock = some x ∨ v.ownBlock = some x) := fun x hx hs => by
    rcases hs with hs | hs | hs
    · exact (h.mi' x hx).1 hs
    · exact (h.mi' x hx).2.1 hs
    · exact hmv x hx hs
  have oth : ∀ x, Mk' x → (¬ MSet wb tx tx3 x ∧ kT.ownBlock ≠ some x ∧ wT.ownBlock ≠ some x) ∧ (¬ MESet wb en en3 x ∧ kE.ownBlock ≠ some x ∧ wE.ownBlock ≠ some x) := fun x hx => by
    rcases (hmk x hx).1 with h1 | h1 | h1 | h1
    · exact ⟨⟨(h.mt x h1).1, (h.mt x h1).2.1, (h.mt x h1).2.2.1⟩, h.me' x h1⟩
    · exact h.offI h.ki x h1
    · exact h.offI hv x h1
    · exact ⟨(h.new x h1).1, (h.new x h1).2.2⟩
  have mt' : ∀ x, Mk x → ¬ MISet wb it' it3' x ∧ kI'.ownBlock ≠ some x ∧ wI'.ownBlock ≠ some x ∧ x < w'.heap.size := fun x hx => by
    have hxl := (h.mt x hx).2.2.2
    refine ⟨fun e => ?_, fun e => ?_, fun e => ?_, by omega⟩
    · rcases hset x e with e | e
      · exact (h.mi' x hx).1 e
      · omega
    · rcases hkw x (.inl e) with e | e
      · exact hmv x hx e
      · omega
    · rcases hkw x (.inr e) with e | e
      · exact hmv x hx e
      · omega
  refine ⟨rfl, kI', wI', it', it3', lI', lI3', I', fun x => Mk x ∨ Mk' x, ?_, ?_, hlen, hf⟩
  · exact {
      ms := ⟨M.wa, h.rowI hv h.ms.t hf (by decide) (by decide) (by decide), h.rowI hv h.ms.t3 hf (by decide) (by decide) (by decide), h.ms.ne⟩
      mi := M
      me := ⟨M.wa, h.rowI hv h.me.t hf (by decide) (by decide) (by decide), h.rowI hv h.me.t3 hf (by decide) (by decide) (by decide), h.me.ne⟩
      kt := h.rowI hv h.kt hf (by decide) (by decide) (by decide)
      wt := h.rowI hv h.wt hf (by decide) (by decide) (by decide)
      ki := o1
      wi := o2
      ke := h.rowI hv h.ke hf (by decide) (by decide) (by decide)
      we := h.rowI hv h.we hf (by decide) (by decide) (by decide)
      nt := h.nt
      ni := hne
      ne := h.ne
      lt := h.lt
      li := o3
      le := h.le
      tm := (h.tm.fr hf offS).mono (fun x hx => .inl hx)
      tmi := tm.mono (fun x hx => .inr hx)
      tme := (h.tme.fr hf offS).mono (fun x hx => .inl hx)
      mt := fun x hx => hx.elim (fun hx => ⟨(h.mt x hx).1, (h.mt x hx).2.1, (h.mt x hx).2.2.1, by have := (h.mt x hx).2.2.2; omega⟩) (fun hx => ⟨(oth x hx).1.1, (oth x hx).1.2.1, (oth x hx).1.2.2, (hmk x hx).2.2.2.2⟩)
      mi' := fun x hx => hx.elim (fun hx => ⟨(mt' x hx).1, (mt' x hx).2.1, (mt' x hx).2.2.1⟩) (fun hx => ⟨(hmk x hx).2.1, (hmk x hx).2.2.1, (hmk x hx).2.2.2.1⟩)
      me' := fun x hx => hx.elim (h.me' x) (fun hx => (oth x hx).2) }
  · rintro x (hx | hx | hx | hx | hx | hx | hx | hx | hx | hx | hx)
    · exact .inl (.inl hx)
    · exact (hset x hx).elim (fun e => .inl (.inr (.inl e))) (fun e => .inr (.inr e))
    · exact .inl (.inr (.inr (.inl hx)))
    · exact .inl (.inr (.inr (.inr (.inl hx))))
    · exact .inl (.inr (.inr (.inr (.inr (.inl hx)))))
    · exact .inr (hkw x (.inl hx))
    · exact .inr (hkw x (.inr hx))
    · exact .inl (.inr (.inr (.inr (.inr (.inr (.inr (.inr (.inl hx))))))))
    · exact .inl (.inr (.inr (.inr (.inr (.inr (.inr (.inr (.inr (.inl hx)))))))))
    · exact .inl (.inr (.inr (.inr (.inr (.inr (.inr (.inr (.inr (.inr hx)))))))))
    · rcases (hmk x hx).1 with h1 | h1 | h1 | h1
      · exact .inl (.inr (.inr (.inr (.inr (.inr (.inr (.inr (.inr (.inr h1)))))))))
      · exact .inl (.inr (.inr (.inr (.inr (.inr (.inl h1))))))
      · exact .inr (.inl h1)
      · exact .inr (.inr h1)
end
end Go.Proofs.YtjmacegibchplaaGreatDoor

/-
  What a script keeps, in a set of blocks: the list of stores apart.
-/
namespace Go.Proofs.YtjmacegibchplaaGreatDoor
open Go.RowKit Go.Maps Go.WideMaps
set_option linter.unusedVariables false
def Kp (w : World) (wb base : Nat) (ps : Value) (B : Nat → Prop) (N : Nat) : Prop :=
  ∃ (came : Int) (kT wT kI wI kE wE tx tx3 it it3 en en3 : Value) (lT lT3 lI lI3 lE lE3 : List Value) (T : List (List UInt8)) (I : List P.It) (E : List En) (Mk : Nat → Prop), Kt w wb base came kT wT kI wI kE wE ps tx tx3 it it3 en en3 lT lT3 lI lI3 lE lE3 T I E Mk ∧
    (∀ x, KS wb kT wT kI wI kE wE tx tx3 it it3 en en3 Mk x → B x) ∧ (∀ x, B x → x < w.heap.size) ∧ (lT.length ≤ N ∧ lI.length ≤ N ∧ lE.length ≤ N ∧ 0 ≤ came ∧ came ≤ N)
section
variable {w w' : World} {wb base N : Nat} {ps : Value} {B : Nat → Prop}
theorem Kp.fr {S : Nat → Prop} (h : Kp w wb base ps B N) (hf : Fr S w w') (hn : ∀ x, B x → ¬ S x) : Kp w' wb base ps B N := by
  obtain ⟨came, kT, wT, kI, wI, kE, wE, tx, tx3, it, it3, en, en3, lT, lT3, lI, lI3, lE, lE3, T, I, E, Mk, hk, hB, hlt, hl⟩ := h
  exact ⟨came, kT, wT, kI, wI, kE, wE, tx, tx3, it, it3, en, en3, lT, lT3, lI, lI3, lE, lE3, T, I, E, Mk, hk.fr hf (fun x hx => hn x (hB x hx)), hB, fun x hx => Nat.lt_of_lt_of_le (hlt x hx) hf.size, hl⟩
theorem Kp.below (h : Kp w wb base ps B N) (hb : Below w.heap.size w w') : Kp w' wb base ps B N := h.fr (S := fun _ => False) (Fr.below hb) (fun _ _ h => h)
theorem Kp.mono {M : Nat} (h : Kp w wb base ps B N) (hm : N ≤ M) : Kp w wb base ps B M := by
  obtain ⟨came, kT, wT, kI, wI, kE, wE, tx, tx3, it, it3, en, en3, lT, lT3, lI, lI3, lE, lE3, T, I, E, Mk, hk, hB, hlt, h1, h2, h3, h4, h5⟩ := h
  exact ⟨came, kT, wT, kI, wI, kE, wE, tx, tx3, it, it3, en, en3, lT, lT3, lI, lI3, lE, lE3, T, I, E, Mk, hk, hB, hlt, by omega, by omega, by omega, h4, by omega⟩
theorem Kp.setLt (h : Kp w wb base ps B N) (x : Nat) (hx : B x) : x < w.heap.size := by
  obtain ⟨came, kT, wT, kI, wI, kE, wE, tx, tx3, it, it3, en, en3, lT, lT3, lI, lI3, lE, lE3, T, I, E, Mk, hk, hB, hlt, hl⟩ := h
  exact hlt x hx
theorem Kp.wa (h : Kp w wb base ps B N) : B wb ∧ ∃ cur, w.heap[wb]? = some (.cells cur 90 (0, 0)) ∧ w.cell? ⟨wb, 8, none⟩ = some ps := by
  obtain ⟨came, kT, wT, kI, wI, kE, wE, tx, tx3, it, it3, en, en3, lT, lT3, lI, lI3, lE, lE3, T, I, E, Mk, hk, hB, hlt, hl⟩ := h
  have h8 := cell_of_block (j := 8) hk.ms.wa
  simp at h8
  exact ⟨hB wb (.inl (.inl rfl)), _, hk.ms.wa, h8⟩
theorem Kp.put8 (h : Kp w wb base ps B N) (ps' : Value) : Kp (w.setCell ⟨wb, 8, none⟩ ps') wb base ps' B N := by
  obtain ⟨came, kT, wT, kI, wI, kE, wE, tx, tx3, it, it3, en, en3, lT, lT3, lI, lI3, lE, lE3, T, I, E, Mk, h, hB, hlt, hl⟩ := h
  have hf : Fr (fun x => x = wb) w (w.setCell ⟨wb, 8, none⟩ ps') := Fr.set w wb 8 ps' rfl
  have wa' : WorldAt (w.setCell ⟨wb, 8, none⟩ ps') wb came kT wT kI wI kE wE ps' tx tx3 it it3 en en3 := heap_setCell_same w wb 8 _ _ ps' h.ms.wa
  have row : ∀ {e : TypeId} {s n : Nat} {u : Value} {xs : List Value}, w.ownsRow base e s u n xs → e ≠ 90 → (w.setCell ⟨wb, 8, none⟩ ps').ownsRow base e s u n xs := fun ho hne => ownsRow_same ho (fun g eg => hf.block g (own_lt ho eg) (fun e2 => row_neS ho h.ms.wa hne (by rw [eg, e2])))
  have hmk : ∀ x, Mk x → ¬ x = wb := fun x hx e => (h.mt x hx).1 (.inl e)
  refine ⟨came, kT, wT, kI, wI, kE, wE, tx, tx3, it, it3, en, en3, lT, lT3, lI, lI3, lE, lE3, T, I, E, Mk, ?_, hB, fun x hx => Nat.lt_of_lt_of_le (hlt x hx) hf.size, hl⟩
  exact {
    ms := ⟨wa', row h.ms.t (by decide), row h.ms.t3 (by decide), h.ms.ne⟩
    mi := ⟨wa', row h.mi.t (by decide), row h.mi.t3 (by decide), h.mi.ne⟩
    me := ⟨wa', row h.me.t (by decide), row h.me.t3 (by decide), h.me.ne⟩
    kt := row h.kt (by decide)
    wt := row h.wt (by decide)
    ki := row h.ki (by decide)
    wi := row h.wi (by decide)
    ke := row h.ke (by decide)
    we := row h.we (by decide)
    nt := h.nt
    ni := h.ni
    ne := h.ne
    lt := h.lt
    li := h.li
    le := h.le
    tm := h.tm.fr hf hmk
    tmi := h.tmi.fr hf hmk
    tme := h.tme.fr hf hmk
    mt := fun x hx => ⟨(h.mt x hx).1, (h.mt x hx).2.1, (h.mt x hx).2.2.1, Nat.lt_of_lt_of_le (h.mt x hx).2.2.2 hf.size⟩
    mi' := h.mi'
    me' := h.me' }
theorem Kp.looks (h : Kp w wb base ps B N) (hN : N ≤ 4000000) :
    Calls Tryz.prog 50 #[.pointer (some ⟨wb, 0, none⟩)] w fun e w' => e = .returned (.bool true) ∧ Below w.heap.size w w' := by
  obtain ⟨came, kT, wT, kI, wI, kE, wE, tx, tx3, it, it3, en, en3, lT, lT3, lI, lI3, lE, lE3, T, I, E, Mk, hk, hB, hlt, h1, h2, h3, h4, h5⟩ := h
  exact looks_any hk (by omega) (by omega) (by omega)
theorem Kp.takeT {v : Value} {lv : List (List UInt8)} (h : Kp w wb base ps B N) (hv : OwnsS w base v lv) (hvn : ∀ x, v.ownBlock = some x → ¬ B x) (hlv : lv.length ≤ 1200000) (hN : N ≤ 4000000) (hbase : base ≤ w.heap.size) :
    Calls Tryz.prog 77 #[.pointer (some ⟨wb, 0, none⟩), v] w fun e w' => e = .returned (.tuple #[]) ∧ Kp w' wb base ps (fun x => (B x ∨ v.ownBlock = some x ∨ w.heap.size ≤ x) ∧ x < w'.heap.size) (N + 2) ∧ Fr (fun x => B x ∨ v.ownBlock = some x) w w' := by
  obtain ⟨came, kT, wT, kI, wI, kE, wE, tx, tx3, it, it3, en, en3, lT, lT3, lI, lI3, lE, lE3, T, I, E, Mk, hk, hB, hlt, h1, h2, h3, h4, h5⟩ := h
  refine (hk.takeT hv (fun x hx hs => hvn x hx (hB x hs)) hlv (by omega) hbase h4 (by omega)).mono ?_
  rintro e w' ⟨rfl, kT', wT', tx', tx3', lT', lT3', T', Mk', hk', hs, hl, hf⟩
  refine ⟨rfl, ⟨came + 1, kT', wT', kI, wI, kE, wE, tx', tx3', it, it3, en, en3, lT', lT3', lI, lI3, lE, lE3, T', I, E, Mk', hk', fun x hx => ⟨(hs x hx).imp (hB x) id, hk'.setLt x hx⟩, fun x hx => hx.2, by omega, by omega, by omega, by omega, by omega⟩, hf.mono ?_⟩
  rintro x (hx | hx | hx)
  · exact .inl (hB x (.inl hx))
  · exact .inl (hB x (.inr (.inr (.inr (.inl hx)))))
  · exact .inr hx
theorem Kp.takeI {v : Value} {lv : List P.It} (h : Kp w wb base ps B N) (hv : OwnsIt w base v lv) (hvn : ∀ x, v.ownBlock = some x → ¬ B x) (hlv : lv.length ≤ 1200000) (hN : N ≤ 4000000) (hbase : base ≤ w.heap.size) :
    Calls Tryz.prog 76 #[.pointer (some ⟨wb, 0, none⟩), v] w fun e w' => e = .returned (.tuple #[]) ∧ Kp w' wb base ps (fun x => (B x ∨ v.ownBlock = some x ∨ w.heap.size ≤ x) ∧ x < w'.heap.size) (N + 2) ∧ Fr (fun x => B x ∨ v.ownBlock = some x) w w' := by
  obtain ⟨came, kT, wT, kI, wI, kE, wE, tx, tx3, it, it3, en, en3, lT, lT3, lI, lI3, lE, lE3, T, I, E, Mk, hk, hB, hlt, h1, h2, h3, h4, h5⟩ := h
  refine (hk.takeI hv (fun x hx hs => hvn x hx (hB x hs)) hlv (by omega) hbase h4 (by omega)).mono ?_
  rintro e w' ⟨rfl, kI', wI', it', it3', lI', lI3', I', Mk', hk', hs, hl, hf⟩
  refine ⟨rfl, ⟨came + 1, kT, wT, kI', wI', kE, wE, tx, tx3, it', it3', en, en3, lT, lT3, lI', lI3', lE, lE3, T, I', E, Mk', hk', fun x hx => ⟨(hs x hx).imp (hB x) id, hk'.setLt x hx⟩, fun x hx => hx.2, by omega, by omega, by omega, by omega, by omega⟩, hf.mono ?_⟩
  rintro x (hx | hx | hx)
  · exact .inl (hB x (.inr (.inl hx)))
  · exact .inl (hB x (.inr (.inr (.inr (.inr (.inr (.inl hx)))))))
  · exact .inr hx
end
theorem Kp.zero (w : World) (base : Nat) (hb : base ≤ w.heap.size) : Kp (w.alloc (.cells #[.int .i64 0, .bool false, .slice none 0 0, .slice none 0 0, .slice none 0 0, .slice none 0 0, .slice none 0 0, .slice none 0 0, .slice none 0 0, .slice none 0 0, .slice none 0 0, .slice none 0 0, .slice none 0 0, .slice none 0 0, .slice none 0 0] 90)) w.heap.size base (.slice none 0 0) (fun x => x = w.heap.size) 0 := by
  have hw := heap_alloc_new w (.cells #[.int .i64 0, .bool false, .slice none 0 0, .slice none 0 0, .slice none 0 0, .slice none 0 0, .slice none 0 0, .slice none 0 0, .slice none 0 0, .slice none 0 0, .slice none 0 0, .slice none 0 0, .slice none 0 0, .slice none 0 0, .slice none 0 0] 90)
  have hz : ∀ g, (Value.slice none 0 0).ownBlock ≠ some g := fun g e => by simp [Value.ownBlock] at e
  refine ⟨0, .slice none 0 0, .slice none 0 0, .slice none 0 0, .slice none 0 0, .slice none 0 0, .slice none 0 0, .slice none 0 0, .slice none 0 0, .slice none 0 0, .slice none 0 0, .slice none 0 0, .slice none 0 0, [], [], [], [], [], [], [], [], [], fun _ => False, ?_, ?_, ?_, by simp⟩
  · exact {
      ms := ⟨hw, World.ownsRow_nil _ _ _ _, World.ownsRow_nil _ _ _ _, fun g e => (hz g e).elim⟩
      mi := ⟨hw, World.ownsRow_nil _ _ _ _, World.ownsRow_nil _ _ _ _, fun g e => (hz g e).elim⟩
      me := ⟨hw, World.ownsRow_nil _ _ _ _, World.ownsRow_nil _ _ _ _, fun g e => (hz g e).elim⟩
      kt := World.ownsRow_nil _ _ _ _
      wt := World.ownsRow_nil _ _ _ _
      ki := World.ownsRow_nil _ _ _ _
      wi := World.ownsRow_nil _ _ _ _
      ke := World.ownsRow_nil _ _ _ _
      we := World.ownsRow_nil _ _ _ _
      nt := fun g e => (hz g e).elim
      ni := fun g e => (hz g e).elim
      ne := fun g e => (hz g e).elim
      lt := by simp
      li := by simp
      le := by simp
      tm := ⟨rfl, fun k hk => by simp at hk, fun u hu => by simp at hu⟩
      tmi := ⟨rfl, fun k hk => by simp at hk, fun u hu => by simp at hu⟩
      tme := ⟨rfl, fun k hk => by simp at hk, fun u hu => by simp at hu⟩
      mt := fun x hx => hx.elim
      mi' := fun x hx => hx.elim
      me' := fun x hx => hx.elim }
  · rintro x ((e | e | e) | (e | e | e) | (e | e | e) | e | e | e | e | e | e | e)
    all_goals first | exact e | exact (hz x e).elim | exact e.elim
  · rintro x rfl
    simp
end Go.Proofs.YtjmacegibchplaaGreatDoor
