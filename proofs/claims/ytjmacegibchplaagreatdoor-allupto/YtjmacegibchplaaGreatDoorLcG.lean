import Derived.Test.YtjmacegibchplaaGreatDoorLcD
import Derived.Test.YtjmacegibchplaaGreatDoorLawC
import Derived.Deep.DrawnRows
namespace Go.Proofs.YtjmacegibchplaaGreatDoor
open Go.RowKit Go.Maps Go.WideMaps
set_option linter.unusedVariables false
theorem sent_new {S : Nat → Prop} {wr w10 : World} (hf : Fr S wr w10) (s : Nat × Nat × Nat) :
  SentAt (w10.alloc (.cells #[.int .i64 (s.1 : Int), .int .i64 (s.2.1 : Int), .int .i64 (s.2.2 : Int)] 52)) w10.heap.size s ∧ wr.heap.size ≤ w10.heap.size ∧
  Fr S wr (w10.alloc (.cells #[.int .i64 (s.1 : Int), .int .i64 (s.2.1 : Int), .int .i64 (s.2.2 : Int)] 52)) ∧ Fr (fun x => w10.heap.size ≤ x) w10 (w10.alloc (.cells #[.int .i64 (s.1 : Int), .int .i64 (s.2.1 : Int), .int .i64 (s.2.2 : Int)] 52)) := by
 have hb : Below w10.heap.size w10 (w10.alloc (.cells #[.int .i64 (s.1 : Int), .int .i64 (s.2.1 : Int), .int .i64 (s.2.2 : Int)] 52)) := (Below.refl _ _).alloc (Nat.le_refl _) _
 exact ⟨heap_alloc_new w10 _, hf.size, hf.trans (Fr.below hb), Fr.below hb⟩
theorem sent_set {S : Nat → Prop} {wr w10 : World} (hf : Fr S wr w10) (s : Nat × Nat × Nat) {b : Nat} (hb : wr.heap.size ≤ b) (hz : w10.heap[b]? = some (.cells #[.int .i64 0, .int .i64 0, .int .i64 0] 52 (0, 0))) :
  SentAt (((w10.setCell ⟨b, 0, none⟩ (.int .i64 (s.1 : Int))).setCell ⟨b, 1, none⟩ (.int .i64 (s.2.1 : Int))).setCell ⟨b, 2, none⟩ (.int .i64 (s.2.2 : Int))) b s ∧ wr.heap.size ≤ b ∧
  Fr S wr (((w10.setCell ⟨b, 0, none⟩ (.int .i64 (s.1 : Int))).setCell ⟨b, 1, none⟩ (.int .i64 (s.2.1 : Int))).setCell ⟨b, 2, none⟩ (.int .i64 (s.2.2 : Int))) ∧ Fr (fun x => wr.heap.size ≤ x) w10 (((w10.setCell ⟨b, 0, none⟩ (.int .i64 (s.1 : Int))).setCell ⟨b, 1, none⟩ (.int .i64 (s.2.1 : Int))).setCell ⟨b, 2, none⟩ (.int .i64 (s.2.2 : Int))) := by
 have h1 := heap_setCell_same w10 b 0 _ _ (.int .i64 (s.1 : Int)) hz
 have h2 := heap_setCell_same _ b 1 _ _ (.int .i64 (s.2.1 : Int)) h1
 have h3 := heap_setCell_same _ b 2 _ _ (.int .i64 (s.2.2 : Int)) h2
 exact ⟨h3, hb, ((hf.setNew b 0 _ hb).setNew b 1 _ hb).setNew b 2 _ hb, ((Fr.set (S := fun x => wr.heap.size ≤ x) w10 b 0 _ hb).trans (Fr.set (S := fun x => wr.heap.size ≤ x) _ b 1 _ hb)).trans (Fr.set (S := fun x => wr.heap.size ≤ x) _ b 2 _ hb)⟩
theorem sent_at (w10 : World) (b : Nat) (s : Nat × Nat × Nat) : Fr (fun x => x = b) w10 (((w10.setCell ⟨b, 0, none⟩ (.int .i64 (s.1 : Int))).setCell ⟨b, 1, none⟩ (.int .i64 (s.2.1 : Int))).setCell ⟨b, 2, none⟩ (.int .i64 (s.2.2 : Int))) :=
 ((Fr.set (S := fun x => x = b) w10 b 0 _ rfl).trans (Fr.set (S := fun x => x = b) _ b 1 _ rfl)).trans (Fr.set (S := fun x => x = b) _ b 2 _ rfl)
theorem liesE_fr {S : Nat → Prop} {w w' : World} {a : Option Addr} {l : List En} (h : LiesE w a l) (hf : Fr S w w') (hn : ∀ b o, a = some ⟨b, o, none⟩ → l ≠ [] → ¬ S b) : LiesE w' a l := by
 by_cases hl : l = []
 ·exact .inl hl
 ·rcases h with h | ⟨b, o, e, h⟩
  ·exact absurd h hl
  ·exact .inr ⟨b, o, e, h.fr hf (hn b o e hl)⟩
theorem liesE_lt {w : World} {a : Option Addr} {l : List En} (h : LiesE w a l) : ∀ b o, a = some ⟨b, o, none⟩ → l ≠ [] → b < w.heap.size := by
 intro b o e hl
 rcases h with h | ⟨b', o', e', h⟩
 ·exact absurd h hl
 ·rw [e'] at e
  obtain ⟨rfl, rfl⟩ : b' = b ∧ o' = o := by simpa using e
  exact entAt_lt (h 0 (by cases l; exact absurd rfl hl; simp))
theorem ints_lt {w : World} {a : Option Addr} {l : List Int} (h : IntsAt w a l) : ∀ b o, a = some ⟨b, o, none⟩ → l ≠ [] → b < w.heap.size := by
 intro b o e hl
 rcases h with h | ⟨b', o', e', h⟩
 ·exact absurd h hl
 ·rw [e'] at e
  obtain ⟨rfl, rfl⟩ : b' = b ∧ o' = o := by simpa using e
  exact block_lt (h 0 (by cases l; exact absurd rfl hl; simp))
def zEn : En := ⟨⟨#[122]⟩, -77, ⟨#[119, 114, 105, 116, 116, 101, 110, 32, 111, 118, 101, 114]⟩⟩
set_option maxRecDepth 100000 in
set_option maxHeartbeats 4000000 in
theorem uploaded_any (t : List En) (ae : Option Addr) (ce : Nat) (tries batch : Int) (L : List Int) (a : Option Addr) (c : Nat) (pp sb pb um n rb : Nat) (v1 v2 : Value) (base : Nat) (room : Int) (st : List (List UInt8 × List UInt8)) (w : World) (M : Nat)
  (h : Pair w pp sb pb um n rb v1 v2 base room st) (hbase : base ≤ w.heap.size) (hg : GlobOk w) (hl : t.length ≤ 1100000) (hle : LiesE w ae t) (hae : ae = none → t = [] ∧ ce = 0) (hf : TFit t) (hi : IntsAt w a L) (hia : a = none → L = [] ∧ c = 0) (hL : L.length ≤ 1100000)
  (hap : ∀ b o, ae = some ⟨b, o, none⟩ → t ≠ [] → ¬ PSet pp sb pb um rb v1 v2 b) (hap2 : ∀ b o, a = some ⟨b, o, none⟩ → L ≠ [] → ¬ PSet pp sb pb um rb v1 v2 b)
  (hn : n ≤ 90000000000) (hlen : st.length ≤ 800000000) (hsum : sumP st ≤ M) (hM : M ≤ 1000000000000) (hr0 : 0 ≤ room) (hr : room ≤ 100000) (hrM : room ≤ (M : Int)) :
  Calls Tryz.prog 122 #[.pointer (some ⟨pp, 0, none⟩), .slice ae t.length ce, planV tries batch a L.length c] w fun e w' => e = .returned (.bool true) ∧ ∃ n' v1' v2', n' ≤ n + 100000 ∧ Pair w' pp sb pb um n' rb v1' v2' base room (upP room t tries batch L st).2.2.2 ∧ Fr (PSet pp sb pb um rb v1 v2) w w' ∧ ∀ x, PSet pp sb pb um rb v1' v2' x → PSet pp sb pb um rb v1 v2 x ∨ w.heap.size ≤ x := by
 obtain ⟨ap1, ap2, ap3, ap4⟩ := h.apart
 have hplt := h.lt
 have hb0 : Below w.heap.size w (w.alloc (.cells #[.int .i64 tries, .int .i64 batch, .slice a L.length c] 57)) := (Below.refl _ _).alloc (Nat.le_refl _) _
 have hB0 := heap_alloc_new w (.cells #[.int .i64 tries, .int .i64 batch, .slice a L.length c] 57)
 obtain ⟨W0, hW0⟩ : ∃ W0, w.alloc (.cells #[.int .i64 tries, .int .i64 batch, .slice a L.length c] 57) = W0 := ⟨_, rfl⟩
 have hz0 : W0.heap.size = w.heap.size + 1 := by rw [← hW0]; simp
 rw [hW0] at hb0 hB0
 have H1 := hide (copyE_any t ae ce W0 (by omega) (hle.below hb0 (Nat.le_refl _)) hae)
 have HW0 := hide hW0
 clear hW0
 unfold planV
 go_enter Tryz.func122, Tryz.ntmps122
 go_wp2_with fail
 rw [unhide HW0]
 refine (unhide H1).mono ?_
 rintro e W1 ⟨ao, co, rfl, hce1, hb1, hano⟩
 have hbw1 := hb0.trans (hb1.mono hb0.size)
 have hB1 := (hb1.block w.heap.size (by omega)).trans hB0
 have p2 := cell_of_block (j := 2) hB1
 simp only [List.getElem?_toArray, List.getElem?_cons_zero, List.getElem?_cons_succ] at p2
 have hl1 : w.heap.size < W1.heap.size := by have := hb1.size; omega
 have H2 := hide (copyI_any L a c W1 (by omega) (hi.below hbw1 (Nat.le_refl _)) hia)
 clear H1 HW0
 go_wp2_with fail
 refine (unhide H2).mono ?_
 rintro e W2 ⟨al, cl, rfl, hci2, hb2, halo⟩
 have hbw2 := hbw1.trans (hb2.mono hbw1.size)
 have hs1 := hb1.size
 have hs2 := hb2.size
 have hB2 := (hb2.block w.heap.size hl1).trans hB1
 have hce2 : CopyE W0.heap.size W2 t ao co := hce1.fr (Fr.below (S := fun _ => False) hb2) (fun _ _ hh => hh)
 have hP2 := h.below hbw2 (Nat.le_refl _)
 have hl2 : w.heap.size < W2.heap.size := by omega
 clear p2 H2
 -- the program's Upload
 have hup : ∀ W, Below W2.heap.size W2 W → Calls Tryz.prog 27 #[.pointer (some ⟨sb, 0, none⟩), .slice ao t.length co, .agg #[.int .i64 tries, .int .i64 batch, .slice al L.length cl]] W fun e w' =>
   e = .returned (.tuple #[.string (bs (upP room t tries batch L st).1), sentV (upP room t tries batch L st).2.1, .int .i64 (upP room t tries batch L st).2.2.1]) ∧ (∃ n', n' ≤ n + 100000 ∧ CS w' sb pb um n' room (upP room t tries batch L st).2.2.2) ∧ Fr (fun x => x = pb ∨ x = um) W w' ∧ Fr (fun x => x = pb ∨ x = um) W2 w' := by
  intro W hW
  have hcW := hP2.c.below hW (Nat.le_refl _)
  have hh := cUpload_any t ao co tries batch L al cl st sb pb um n room W (hg.below (hbw2.trans (hW.mono hbw2.size)) (Nat.le_refl _)) (by unfold maxLen; omega) (hce2.lies.below hW (Nat.le_refl _)) hf hcW (hci2.ints.below hW (Nat.le_refl _)) (fun b o e hne => by
   rcases hci2 with ⟨e2, -, -⟩ | ⟨g, e2, hgl, -⟩
   ·rw [e2] at e; simp at e
   ·rw [e2] at e
    obtain ⟨rfl, -⟩ : g = b ∧ _ := by simpa using e
    have h1 := hplt pb (.inr (.inr (.inl rfl)))
    have h2 := hplt um (.inr (.inr (.inr (.inl rfl))))
    omega) (by unfold maxLen; omega) hn (by omega) hr0 hr
  unfold planV at hh
  refine hh.mono ?_
  rintro e w' ⟨rfl, ⟨n', hn', hp'⟩, -, hf'⟩
  exact ⟨rfl, ⟨n', hn', hcW.next hf' hp'⟩, hf', Fr.widen hW hf' (fun x _ h => h)⟩
 generalize hU : upP room t tries batch L st = U at *
 obtain ⟨u1, u2, u3, u4⟩ := U
 simp only at hup
 unfold sentV at hup
 have p0 := cell_of_block (j := 0) hB2
 have p1 := cell_of_block (j := 1) hB2
 have p2 := cell_of_block (j := 2) hB2
 have y0 := cell_of_block (j := 0) hP2.p
 have y1 := cell_of_block (j := 1) hP2.p
 simp only [List.getElem?_toArray, List.getElem?_cons_zero, List.getElem?_cons_succ] at p0 p1 p2 y0 y1
 have hpl2 : pp < W2.heap.size := hP2.lt pp (.inl rfl)
 have Hup := hide hup
 clear hup hB0 hB1
 have hpbl := hplt pb (.inr (.inr (.inl rfl)))
 have huml := hplt um (.inr (.inr (.inr (.inl rfl))))
 have hsbl := hplt sb (.inr (.inl rfl))
 have Hx := hide (And.intro h (And.intro hle (And.intro hi (And.intro hce2 (And.intro hci2 (And.intro hP2 (And.intro hB2 (And.intro hbw2 (And.intro hap hap2)))))))))
 have Hy := hide (And.intro ap1 (And.intro hplt (And.intro hano (And.intro halo (And.intro hce1 (And.intro ap3 (And.intro ap4 (And.intro hf hU))))))))
 clear h hle hi hce2 hci2 hP2 hB2 hbw2 hap hap2 ap1 hplt hano halo hce1 hb0 hb1 hb2 hbw1 hg hf hU hae hia ap2 ap3 ap4
 go_upto_region 3 with fail
 go_cut [9, 10, 11] (fun s9 s10 s11 wx => ∃ bS n', s9 = .string (bs u1) ∧ s10 = .pointer (some ⟨bS, 0, none⟩) ∧ s11 = .int .i64 u3 ∧ SentAt wx bS u2 ∧ W2.heap.size ≤ bS ∧ n' ≤ n + 100000 ∧ CS wx sb pb um n' room u4 ∧ Fr (fun x => x = pb ∨ x = um) W2 wx)
 case first =>
  clear Hx Hy hl hL hbase hlen hsum hM hr0 hr hrM hn
  go_region_with ((go_at_call 27; refine (unhide Hup _ (by first | exact (Below.refl _ _).drew | exact ((Below.refl _ _).alloc (Nat.le_refl _) _).drew)).mono ?_; rintro e w10 ⟨rfl, ⟨n', hn', hc'⟩, hf', hfW⟩; have hs10 := hfW.size; (try have hA10 : w10.heap[W2.heap.size]? = some (.cells #[.int .i64 0, .int .i64 0, .int .i64 0] 52 (0, 0)) := (hf'.block W2.heap.size (by simp) (by omega)).trans (heap_alloc_new W2 _)); (try have k0 := cell_of_block (j := 0) hA10); (try have k1 := cell_of_block (j := 1) hA10); (try have k2 := cell_of_block (j := 2) hA10); (try simp at k0 k1 k2); (try have kf := fun j => free_block (j := j) hA10); (try have kl := (Array.getElem?_eq_some_iff.1 hA10).1); have Hh := hide (And.intro hc' hfW); (try have HA10 := hide hA10); clear hc' hfW hf'; (try clear hA10)))
  all_goals
   go_wp2_with fail
   go_meet
   have hc' := (unhide Hh).1
   have hfW := (unhide Hh).2
   first
    | exact ⟨_, n', rfl, rfl, rfl, (sent_new hfW u2).1, (sent_new hfW u2).2.1, hn', hc'.fr (sent_new hfW u2).2.2.2 (by omega) (by omega) (by omega), (sent_new hfW u2).2.2.1⟩
    | exact ⟨_, n', rfl, rfl, rfl, (sent_set hfW u2 (Nat.le_refl _) (unhide HA10)).1, (sent_set hfW u2 (Nat.le_refl _) (unhide HA10)).2.1, hn', hc'.fr (sent_set hfW u2 (Nat.le_refl _) (unhide HA10)).2.2.2 (by omega) (by omega) (by omega), (sent_set hfW u2 (Nat.le_refl _) (unhide HA10)).2.2.1⟩
 case rest =>
  clear p0 p1 p2 y0 y1 Hup
  rename World => W3
  obtain ⟨bS, n', rfl, rfl, rfl, hS3, hbS, hn', hc3, hf3⟩ := hcut
  obtain ⟨h, hle, hi, hce2, hci2, hP2, hB2, hbw2, hap, hap2⟩ := unhide Hx
  obtain ⟨ap1, hplt, hano, halo, -, -, -, -, -⟩ := unhide Hy
  have hs3 := hf3.size
  have hce3 : CopyE W0.heap.size W3 t ao co := hce2.fr hf3 (fun x hx hh => by omega)
  have hci3 : CopyI W1.heap.size W3 L al cl := hci2.fr hf3 (fun x hx hh => by omega)
  have hle3 := liesE_fr (hle.below hbw2 (Nat.le_refl _)) hf3 (fun b o e hne hh => hap b o e hne (by rcases hh with rfl | rfl; exact .inr (.inr (.inl rfl)); exact .inr (.inr (.inr (.inl rfl)))))
  have hi3 := (hi.below hbw2 (Nat.le_refl _)).fr hf3 (fun b o e hne hh => hap2 b o e hne (by rcases hh with rfl | rfl; exact .inr (.inr (.inl rfl)); exact .inr (.inr (.inr (.inl rfl)))))
  have hB3 := (hf3.block w.heap.size hl2 (by omega)).trans hB2
  have hst1 := stillE_any t W0.heap.size ao co ae ce W3 (by omega) hce3 hle3 hano
  have p2 := cell_of_block (j := 2) hB3
  simp only [List.getElem?_toArray, List.getElem?_cons_zero, List.getElem?_cons_succ] at p2
  have hst2 : ∀ k, Calls Tryz.prog 165 #[.slice al L.length cl, .slice a L.length c] (W3.drewN k) fun e w3 => e = .returned (.bool true) ∧ ∃ n, w3 = (W3.drewN k).drewN n := fun k =>
   stillI_any L W1.heap.size al cl a c (W3.drewN k) (by omega) (hci3.fr (Fr.below (S := fun _ => False) (below_drewN (Below.refl _ _) k)) (fun _ _ hh => hh)) (hi3.below (below_drewN (Below.refl _ _) k) (Nat.le_refl _)) halo
  have Hst1 := hide hst1
  have Hst2 := hide hst2
  have hl3 : w.heap.size < W3.heap.size := by omega
  have H3 := hide (And.intro hce3 (And.intro hci3 (And.intro hle3 (And.intro hi3 (And.intro hB3 (And.intro hS3 (And.intro hc3 hf3)))))))
  clear hst1 hst2 hce3 hci3 hle3 hi3 hB3 hS3 hc3 hf3 h hle hi hce2 hci2 hP2 hB2 hbw2 hap hap2 ap1 hplt hano halo
  go_wp2_with fail
  refine (unhide Hst1).mono ?_
  rintro e W4 ⟨rfl, n4, hW4⟩
  rw [hW4]
  clear hW4 W4 Hst1
  go_wp2_with fail
  refine (unhide Hst2 n4).mono ?_
  rintro e W5 ⟨rfl, n5, hW5⟩
  have hb5 : Below W3.heap.size W3 W5 := by rw [hW5]; exact below_drewN (below_drewN (Below.refl _ _) _) _
  clear hW5 Hst2 p2
  have hs5 := hb5.size
  have hcE : t.length = 0 ∨ ∃ g q, ao = some ⟨g, 0, none⟩ ∧ (W0.heap.size ≤ g ∧ g < W1.heap.size) ∧ List.length q = t.length + 8 ∧ RowAt enCells 3 W5 g 0 q ∧ ∀ j, W5.frozen? ⟨g, j, none⟩ = false := by
   rcases (unhide Hy).2.2.2.2.1 with ⟨-, e, -⟩ | ⟨g, e, hg, -⟩
   ·left; rw [e]; rfl
   ·right
    rcases (unhide H3).1 with ⟨e2, -⟩ | ⟨g', e2, hg', -, hm, hz⟩
    ·rw [e2] at e; simp at e
    ·rw [e2] at e
     obtain rfl : g' = g := by simpa using e
     exact ⟨g', emarked t 8, e2, hg, emarked_len t 8 (by omega), (hm.below hb5 (Nat.le_refl _)).row, fun j => (frozen_same (hb5.block g' hg'.2)).trans (hz j)⟩
  have HcE := hide hcE
  clear hcE
  go_wp2_with fail
  go_loopw [14] (fun i wr => ∃ k : Nat, k ≤ t.length ∧ i = .int .i64 k ∧ Fr (fun x => W0.heap.size ≤ x ∧ x < W1.heap.size) W5 wr ∧ (t.length = 0 ∨ ∃ g q, ao = some ⟨g, 0, none⟩ ∧ (W0.heap.size ≤ g ∧ g < W1.heap.size) ∧ List.length q = t.length + 8 ∧ RowAt enCells 3 wr g 0 q ∧ ∀ j, wr.frozen? ⟨g, j, none⟩ = false)) (fun i _ => t.length - (intOf i).toNat)
  case atStart => exact ⟨0, by omega, rfl, fr_refl _ _, unhide HcE⟩
  case round =>
   obtain ⟨k, hk, rfl, hfr, hrow⟩ := hrel
   clear HcE
   by_cases hlt : k < t.length
   ·obtain ⟨g, q, rfl, hg, hql, hr, hz⟩ : ∃ g q, ao = some ⟨g, 0, none⟩ ∧ (W0.heap.size ≤ g ∧ g < W1.heap.size) ∧ List.length q = t.length + 8 ∧ RowAt enCells 3 wr g 0 q ∧ ∀ j, wr.frozen? ⟨g, j, none⟩ = false := by
     rcases hrow with h | h
     ·omega
     ·exact h
    obtain ⟨c0, c1, c2⟩ := EntsAt.of_row hr k (by omega)
    have hnew := hr.store enCells_len k (by omega) zEn
    generalize q[k]'(by omega) = y at *
    obtain ⟨nm, kd, dg⟩ := y
    simp only [Nat.zero_add] at c0 c1 c2
    have f0 := hz (k * 3)
    have f1 := hz (k * 3 + 1)
    have f2 := hz (k * 3 + 2)
    have hf' : ∀ j, (wr.setCells g (0 + k * 3) (enCells zEn)).frozen? ⟨g, j, none⟩ = false := fun j => by rw [World.frozen?_setCells]; exact hz j
    rw [Nat.zero_add, set3] at hnew
    simp only [Nat.zero_add, set3] at hf'
    have hfz := ((hfr.trans (Fr.set (S := fun x => W0.heap.size ≤ x ∧ x < W1.heap.size) wr g (k * 3) (.string zEn.path) hg)).trans (Fr.set (S := fun x => W0.heap.size ≤ x ∧ x < W1.heap.size) _ g (k * 3 + 1) (.int .i64 zEn.kind) hg)).trans (Fr.set (S := fun x => W0.heap.size ≤ x ∧ x < W1.heap.size) _ g (k * 3 + 2) (.string zEn.data) hg)
    simp only [zEn] at hnew hf' hfz
    have hql' : (q.set k ⟨⟨#[122]⟩, -77, ⟨#[119, 114, 105, 116, 116, 101, 110, 32, 111, 118, 101, 114]⟩⟩).length = t.length + 8 := by rw [List.length_set]; exact hql
    have q1 : (k : Int) < (t.length : Int) := by omega
    have hgl : g < wr.heap.size := by have := hfr.size; omega
    have H := hide (And.intro hnew (And.intro hf' (And.intro hfz hql')))
    clear hnew hf' hfz hql' hz hr hrow hfr
    go_wp2_with fail
    go_roundw
    case rel => exact ⟨k + 1, by omega, by go_num, (unhide H).2.2.1, .inr ⟨g, _, rfl, hg, (unhide H).2.2.2, (unhide H).1, (unhide H).2.1⟩⟩
    case measure => simp [intOf]; omega
   ·obtain rfl : k = t.length := by omega
    have Hf6 := hide hfr
    have hs6 := hfr.size
    obtain ⟨W6, hW6⟩ : ∃ W6, W6 = wr := ⟨_, rfl⟩
    subst hW6
    have hcI : L.length = 0 ∨ ∃ g q, al = some ⟨g, 0, none⟩ ∧ (W1.heap.size ≤ g ∧ g < W2.heap.size) ∧ List.length q = L.length + 8 ∧ RowAt inCells 1 W6 g 0 q ∧ ∀ j, W6.frozen? ⟨g, j, none⟩ = false := by
     rcases (unhide Hx).2.2.2.2.1 with ⟨-, e, -⟩ | ⟨g, e, hg, -⟩
     ·left; rw [e]; rfl
     ·right
      rcases ((unhide H3).2.1.fr (Fr.below (S := fun _ => False) hb5) (fun _ _ hh => hh)).fr hfr (fun x hx hh => by omega) with ⟨e2, -⟩ | ⟨g', e2, hg', -, hm, hz⟩
      ·rw [e2] at e; simp at e
      ·rw [e2] at e
       obtain rfl : g' = g := by simpa using e
       exact ⟨g', imarked L 8, e2, hg, imarked_len L 8 (by omega), hm.row, hz⟩
    have HcI := hide hcI
    clear hcI hrow hfr
    go_wp2_with fail
    go_loopw [15] (fun i wr => ∃ k : Nat, k ≤ L.length ∧ i = .int .i64 k ∧ Fr (fun x => W1.heap.size ≤ x ∧ x < W2.heap.size) W6 wr ∧ (L.length = 0 ∨ ∃ g q, al = some ⟨g, 0, none⟩ ∧ (W1.heap.size ≤ g ∧ g < W2.heap.size) ∧ List.length q = L.length + 8 ∧ RowAt inCells 1 wr g 0 q ∧ ∀ j, wr.frozen? ⟨g, j, none⟩ = false)) (fun i _ => L.length - (intOf i).toNat)
    case atStart => exact ⟨0, by omega, rfl, fr_refl _ _, unhide HcI⟩
    case round =>
     obtain ⟨k, hk, rfl, hfr, hrow⟩ := hrel
     clear HcI
     by_cases hlt : k < L.length
     ·obtain ⟨g, q, rfl, hg, hql, hr, hz⟩ : ∃ g q, al = some ⟨g, 0, none⟩ ∧ (W1.heap.size ≤ g ∧ g < W2.heap.size) ∧ List.length q = L.length + 8 ∧ RowAt inCells 1 wr g 0 q ∧ ∀ j, wr.frozen? ⟨g, j, none⟩ = false := by
       rcases hrow with h | h
       ·omega
       ·exact h
      have c0 := InAt.of_row hr k (by omega)
      have hnew := hr.store inCells_len k (by omega) (-77)
      generalize q[k]'(by omega) = y at *
      simp only [Nat.zero_add] at c0
      have f0 := hz k
      have hf' : ∀ j, (wr.setCells g (0 + k * 1) (inCells (-77))).frozen? ⟨g, j, none⟩ = false := fun j => by rw [World.frozen?_setCells]; exact hz j
      have e1 : wr.setCells g (0 + k * 1) (inCells (-77)) = wr.setCell ⟨g, k, none⟩ (.int .i64 (-77)) := by rw [Nat.zero_add, Nat.mul_one]; rfl
      rw [e1] at hnew
      simp only [e1] at hf'
      have hfz := hfr.trans (Fr.set (S := fun x => W1.heap.size ≤ x ∧ x < W2.heap.size) wr g k (.int .i64 (-77)) hg)
      have hql' : (q.set k (-77)).length = L.length + 8 := by rw [List.length_set]; exact hql
      have q1 : (k : Int) < (L.length : Int) := by omega
      have hgl : g < wr.heap.size := by have := hfr.size; omega
      have H := hide (And.intro hnew (And.intro hf' (And.intro hfz hql')))
      clear hnew hf' hfz hql' hz hr hrow hfr e1
      go_wp2_with fail
      go_roundw
      case rel => exact ⟨k + 1, by omega, by go_num, (unhide H).2.2.1, .inr ⟨g, _, rfl, hg, (unhide H).2.2.2, (unhide H).1, (unhide H).2.1⟩⟩
      case measure => simp [intOf]; omega
     ·obtain rfl : k = L.length := by omega
      have hs7 := hfr.size
      obtain ⟨W7, hW7⟩ : ∃ W7, W7 = wr := ⟨_, rfl⟩
      subst hW7
      have hF : Fr (fun x => W0.heap.size ≤ x ∧ x < W2.heap.size) W3 W7 := ((Fr.below hb5).trans ((unhide Hf6).mono (fun x hx => by omega))).trans (hfr.mono (fun x hx => by omega))
      obtain ⟨h, hle, hi, -, -, hP2, hB2, hbw2, hap, hap2⟩ := unhide Hx
      obtain ⟨ap1, hplt, -, -, -, ap3, ap4, hf, hU⟩ := unhide Hy
      obtain ⟨-, -, hle3, hi3, hB3, hS3, hc3, hf3⟩ := unhide H3
      have hDlt : ∀ x, DSet rb v1 v2 x → x < w.heap.size := fun x hx => hplt x (.inr (.inr (.inr (.inr hx))))
      have hle7 := liesE_fr hle3 hF (fun b o e hne hh => by have := liesE_lt hle b o e hne; omega)
      have hi7 := hi3.fr hF (fun b o e hne hh => by have := ints_lt hi b o e hne; omega)
      have hB7 := (hF.block w.heap.size hl3 (by omega)).trans hB3
      have hS7 := hS3.fr hF (by omega)
      have hc7 := hc3.fr hF (by omega) (by omega) (by omega)
      have hp7 : W7.heap[pp]? = some (.cells #[.pointer (some ⟨sb, 0, none⟩), .pointer (some ⟨rb, 0, none⟩)] 160 (0, 0)) := (hF.block pp (by omega) (by have := hplt pp (.inl rfl); omega)).trans ((hf3.block pp hpl2 (by omega)).trans hP2.p)
      have hd7 : DS W7 rb v1 v2 base room st := DSt.fr (DSt.fr hP2.d hf3 (fun x hx hh => by have := ap1 x hx; omega)) hF (fun x hx hh => by have := hDlt x hx; omega)
      have hru : ∀ W, Below W7.heap.size W7 W → Calls Tryz.prog 166 #[.pointer (some ⟨rb, 0, none⟩), .slice ae t.length ce, .agg #[.int .i64 tries, .int .i64 batch, .slice a L.length c]] W fun e w' =>
        e = .returned (.tuple #[.string (bs u1), .agg #[.int .i64 (u2.1 : Int), .int .i64 (u2.2.1 : Int), .int .i64 (u2.2.2 : Int)], .int .i64 u3]) ∧ ∃ z1 z2, DS w' rb z1 z2 base room u4 ∧ (Fr (DSet rb v1 v2) W w' ∧ Fr (DSet rb v1 v2) W7 w') ∧ ∀ x, DSet rb z1 z2 x → DSet rb v1 v2 x ∨ W.heap.size ≤ x := by
       intro W hW
       have hh := refUpload_any t ae ce tries batch L a c st rb v1 v2 base room W M (DSt.below hd7 hW (Nat.le_refl _)) (by have := hW.size; omega) (by unfold maxLen; omega) (hle7.below hW (Nat.le_refl _)) hf (hi7.below hW (Nat.le_refl _)) (fun b o e hne hd => hap2 b o e hne (.inr (.inr (.inr (.inr hd))))) (by unfold maxLen; omega) hlen hsum hM hrM
       unfold planV sentV at hh
       rw [hU] at hh
       refine hh.mono ?_
       rintro e w' ⟨rfl, z1, z2, d1, d2, d3⟩
       exact ⟨rfl, z1, z2, d1, ⟨d2, (Fr.below hW).trans d2⟩, d3⟩
      have p0 := cell_of_block (j := 0) hB7
      have p1 := cell_of_block (j := 1) hB7
      have p2 := cell_of_block (j := 2) hB7
      have y1 := cell_of_block (j := 1) hp7
      simp only [List.getElem?_toArray, List.getElem?_cons_zero, List.getElem?_cons_succ] at p0 p1 p2 y1
      have hpl7 : pp < W7.heap.size := by omega
      have hl7 : w.heap.size < W7.heap.size := by omega
      have Hru := hide hru
      have H7 := hide (And.intro hp7 (And.intro hS7 (And.intro hc7 (And.intro hF hf3))))
      have HD := hide hDlt
      clear hru hp7 hS7 hc7 hF hf3 hle7 hi7 hB7 hd7 h hle hi hP2 hB2 hbw2 hap hap2 ap1 hplt hle3 hi3 hB3 hS3 hc3 hf hU hrow hfr hDlt hb5 Hf6 H3
      go_upto_region 14 with fail
      go_cut [16, 17, 18] (fun s16 s17 s18 wx => ∃ bT, s16 = .string (bs u1) ∧ s17 = .pointer (some ⟨bT, 0, none⟩) ∧ s18 = .int .i64 u3 ∧ SentAt wx bT u2 ∧ W7.heap.size ≤ bT ∧ DEnd rb v1 v2 base room u4 W7 wx)
      case first =>
       clear Hx Hy H7 hl hL hbase hlen hsum hM hr0 hr hrM hn
       go_region_with ((go_at_call 166; refine (unhide Hru _ (by first | exact (Below.refl _ _).drew | exact ((Below.refl _ _).alloc (Nat.le_refl _) _).drew)).mono ?_; rintro e w10 ⟨rfl, z1, z2, hd', ⟨hf', hfW⟩, hsub'⟩; have hs10 := hfW.size; (try have hA10 : w10.heap[W7.heap.size]? = some (.cells #[.int .i64 0, .int .i64 0, .int .i64 0] 52 (0, 0)) := (hf'.block W7.heap.size (by simp) (fun hh => by have := unhide HD _ hh; omega)).trans (heap_alloc_new W7 _)); (try have k0 := cell_of_block (j := 0) hA10); (try have k1 := cell_of_block (j := 1) hA10); (try have k2 := cell_of_block (j := 2) hA10); (try simp at k0 k1 k2); (try have kf := fun j => free_block (j := j) hA10); (try have kl := (Array.getElem?_eq_some_iff.1 hA10).1); (try have hnb : ∀ x, DSet rb z1 z2 x → x ≠ W7.heap.size := (fun x hx => by rcases hsub' x hx with h | h; (have := unhide HD x h; omega); (simp at h; omega))); have hsW : ∀ x, DSet rb z1 z2 x → DSet rb v1 v2 x ∨ W7.heap.size ≤ x := (fun x hx => (hsub' x hx).imp id (fun h => by simp at h; omega)); have Hh := hide (And.intro hd' (And.intro hfW hsW)); (try have HA10 := hide (And.intro hA10 hnb)); clear hd' hfW hf' hsub' hsW; (try clear hA10 hnb)))
       all_goals
        go_wp2_with fail
        go_meet
        have hd' := (unhide Hh).1
        have hfW := (unhide Hh).2.1
        have hsW := (unhide Hh).2.2
        first
         | exact ⟨_, rfl, rfl, rfl, (sent_new hfW u2).1, (sent_new hfW u2).2.1, z1, z2, DSt.fr hd' (sent_new hfW u2).2.2.2 (fun x hx hh => by have := hd'.setLt x hx; omega), (sent_new hfW u2).2.2.1, hsW⟩
         | exact ⟨_, rfl, rfl, rfl, (sent_set hfW u2 (Nat.le_refl _) (unhide HA10).1).1, (sent_set hfW u2 (Nat.le_refl _) (unhide HA10).1).2.1, z1, z2, DSt.fr hd' (sent_at w10 W7.heap.size u2) (fun x hx hh => (unhide HA10).2 x hx hh), (sent_set hfW u2 (Nat.le_refl _) (unhide HA10).1).2.2.1, hsW⟩
      case rest =>
       clear p0 p1 p2 y1 Hru
       rename World => W8
       obtain ⟨bT, rfl, rfl, rfl, hT8, hbT, z1, z2, hd8, hf8, hs8⟩ := hcut
       have hS8 := (unhide H7).2.1.fr hf8 (fun hh => by have := unhide HD _ hh; omega)
       have hz8 := hf8.size
       have heS2 : ∀ (a1 a2 a3 : Int) (w : World), (Op.equalIn 10000 52 (.agg #[.int .i64 a1, .int .i64 a2, .int .i64 a3]) (.agg #[.int .i64 a1, .int .i64 a2, .int .i64 a3])).run Tryz.prog w = .ok true w := fun a1 a2 a3 w => by rw [eq_sentL]; simp
       have c0 := cell_of_block (j := 0) hS8
       have c1 := cell_of_block (j := 1) hS8
       have c2 := cell_of_block (j := 2) hS8
       have d0 := cell_of_block (j := 0) hT8
       have d1 := cell_of_block (j := 1) hT8
       have d2 := cell_of_block (j := 2) hT8
       simp only [List.getElem?_toArray, List.getElem?_cons_zero, List.getElem?_cons_succ] at c0 c1 c2 d0 d1 d2
       have lS := hS8.lt
       have lT := hT8.lt
       have H8 := hide (And.intro hd8 (And.intro hf8 hs8))
       clear hd8 hf8 hs8 hS8 hT8
       go_wp2_with fail
       go_ret
       obtain ⟨hd8, hf8, hs8⟩ := unhide H8
       obtain ⟨hp7, -, hc7, hF, hf3⟩ := unhide H7
       obtain ⟨h, -, -, -, -, -, -, hbw2, -, -⟩ := unhide Hx
       obtain ⟨ap1, hplt, -, -, -, -, -, -, hU⟩ := unhide Hy
       have hDlt := unhide HD
       rw [hU]
       refine ⟨rfl, n', z1, z2, hn', ⟨(hf8.block pp hpl7 (fun hh => (ap1 pp hh).2.2.2 rfl)).trans hp7, hc7.fr hf8 (fun hh => (ap1 sb hh).1 rfl) (fun hh => (ap1 pb hh).2.1 rfl) (fun hh => (ap1 um hh).2.2.1 rfl), hd8⟩, ?_, ?_⟩
       ·have g1 : Fr (PSet pp sb pb um rb v1 v2) w W3 := Fr.widen hbw2 hf3 (fun x _ hx => by rcases hx with rfl | rfl; exact .inr (.inr (.inl rfl)); exact .inr (.inr (.inr (.inl rfl))))
        exact fr_comp (fr_comp g1 hF (fun x hx => .inr (by omega))) hf8 (fun x hx => .inl (.inr (.inr (.inr (.inr hx)))))
       ·rintro x (rfl | rfl | rfl | rfl | hx)
        ·exact .inl (.inl rfl)
        ·exact .inl (.inr (.inl rfl))
        ·exact .inl (.inr (.inr (.inl rfl)))
        ·exact .inl (.inr (.inr (.inr (.inl rfl))))
        ·rcases hs8 x hx with h1 | h1
         ·exact .inl (.inr (.inr (.inr (.inr h1))))
         ·exact .inr (by omega)
end Go.Proofs.YtjmacegibchplaaGreatDoor