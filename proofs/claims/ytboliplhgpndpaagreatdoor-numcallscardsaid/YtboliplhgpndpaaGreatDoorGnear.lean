/- shuntref02.Near: the nearest whole number, of two the even one. -/
import Derived.Test.YtboliplhgpndpaaGreatDoorGav
import Derived.Test.YtboliplhgpndpaaGreatDoorGap
import Derived.Test.YtboliplhgpndpaaGreatDoorFround
namespace Go.Proofs.YtboliplhgpndpaaGreatDoor
open Go.RowKit
namespace F
theorem abs_is {w : World} {s : Bool} {v : Value} {z : Int} (h : D.NIs w s v z) : D.NIs w false v ((z.natAbs : Nat) : Int) := by
 obtain ⟨l, h1, h2, rfl⟩ := h
 exact ⟨l, h1, ⟨h2.bd, h2.tr, fun _ => rfl⟩, by rw [D.natAbs_int]; simp [D.int]⟩
theorem sgn_odd {z : Int} (h : ¬ Int.tmod z ((2 : Nat) : Int) = 0) : ((isgn (Int.tmod z ((2 : Nat) : Int)) 0) == 0) = false := by
 unfold isgn
 by_cases h1 : Int.tmod z ((2 : Nat) : Int) < 0
 ·
  rw [if_pos h1]; rfl
 ·
  rw [if_neg h1]
  split
  ·
   exact absurd (by assumption) h
  ·
   rfl
theorem twice_is {X Y : Int} (hY : 0 < Y) : isgn (((Int.tmod X Y).natAbs : Nat) * ((2 : Nat) : Int)) Y = isgn (Int.tmod X Y.toNat).natAbs ((Y.toNat : Int) - (Int.tmod X Y.toNat).natAbs) := by
 rw [Int.toNat_of_nonneg (by omega)]
 unfold isgn
 split <;> split <;> (try split) <;> (try split) <;> omega
theorem step_sgn {X Y : Int} {c : Int} (hX : c = isgn (Int.tmod X Y.toNat).natAbs ((Y.toNat : Int) - (Int.tmod X Y.toNat).natAbs)) (hc : c = 1 ∨ c = 0) (hY : 0 < Y) : isgn (Int.tmod X Y) 0 = if X < 0 then -1 else 1 := by
 rw [Int.toNat_of_nonneg (by omega)] at hX
 have hr : Int.tmod X Y ≠ 0 := by
  intro h
  rw [h] at hX
  unfold isgn at hX
  rw [if_pos (by simp; omega)] at hX
  omega
 by_cases h : X < 0
 ·
  rw [if_pos h]
  have := Int.tmod_nonneg Y (show 0 ≤ -X by omega)
  rw [Int.neg_tmod] at this
  unfold isgn
  rw [if_pos (by omega)]
 ·
  rw [if_neg h]
  have := Int.tmod_nonneg Y (show 0 ≤ X by omega)
  unfold isgn
  rw [if_neg (by omega), if_neg (by omega)]
theorem near_less {X Y c : Int} (hX : c = isgn (Int.tmod X Y.toNat).natAbs ((Y.toNat : Int) - (Int.tmod X Y.toNat).natAbs)) (hh : Int.tdiv X Y.toNat = Int.tdiv X Y) (hc : c = 1 ∨ (c = 0 ∧ ¬ Int.tdiv X Y % 2 = 0)) (hY : 0 < Y) (hn : X < 0) : near X Y.toNat = Int.tdiv X Y - 1 := by
 have h := near_step (z := Int.tdiv X Y) (sg := -1) hX hc hh.symm (by rw [Int.toNat_of_nonneg (by omega), step_sgn hX (by omega) hY, if_pos hn])
 rw [h]; omega
theorem near_plus {X Y c : Int} (hX : c = isgn (Int.tmod X Y.toNat).natAbs ((Y.toNat : Int) - (Int.tmod X Y.toNat).natAbs)) (hh : Int.tdiv X Y.toNat = Int.tdiv X Y) (hc : c = 1 ∨ (c = 0 ∧ ¬ Int.tdiv X Y % 2 = 0)) (hY : 0 < Y) (hn : ¬ X < 0) : near X Y.toNat = Int.tdiv X Y + 1 :=
 near_step (z := Int.tdiv X Y) (sg := 1) hX hc hh.symm (by rw [Int.toNat_of_nonneg (by omega), step_sgn hX (by omega) hY, if_neg hn])
def Cell2 (w : World) (p : Nat) (x0 x1 : Value) : Prop := w.cell? ⟨p, 0, none⟩ = some x0 ∧ w.cell? ⟨p, 1, none⟩ = some x1
theorem Cell2.c0 {w : World} {p : Nat} {x0 x1 : Value} (h : Cell2 w p x0 x1) : w.cell? ⟨p, 0, none⟩ = some x0 := h.1
theorem Cell2.c1 {w : World} {p : Nat} {x0 x1 : Value} (h : Cell2 w p x0 x1) : w.cell? ⟨p, 1, none⟩ = some x1 := h.2
theorem Cell2.kept {w w' : World} {p : Nat} {x0 x1 : Value} (h : Cell2 w p x0 x1) (k : Kept w w') : Cell2 w' p x0 x1 := ⟨cell_kept k h.1, cell_kept k h.2⟩
set_option maxRecDepth 100000 in
set_option maxHeartbeats 8000000 in
theorem Near_any (s t : Bool) (a1 a2 : Option Addr) (k1 c1 k2 c2 : Nat) (X Y : Int) (w : World) (h1 : D.NIs w s (.slice a1 k1 c1) X) (h2 : D.NIs w t (.slice a2 k2 c2) Y) (hl1 : k1 ≤ 900) (hl2 : k2 ≤ 900) (hy : 0 < Y) :
  Calls Tryz.prog 82 #[.agg #[.bool s, .slice a1 k1 c1, .bool t, .slice a2 k2 c2]] w fun e w' => Kept w w' ∧ ∃ s' ao k c, e = .returned (.agg #[.bool s', .slice ao k c]) ∧ D.NIs w' s' (.slice ao k c) (near X Y.toNat) ∧ k ≤ k1 + 2 := by
 have HL : Hid (k1 ≤ 900 ∧ k2 ≤ 900 ∧ 0 < Y) := ⟨hl1, hl2, hy⟩
 have HY0 := hid' hy
 have HHX : Hid (Int.tdiv X Y.toNat = Int.tdiv X Y) := by show _ = _; rw [Int.toNat_of_nonneg (by omega)]
 obtain ⟨cc, hcc⟩ : ∃ c, c = isgn (Int.tmod X Y.toNat).natAbs ((Y.toNat : Int) - (Int.tmod X Y.toNat).natAbs) := ⟨_, rfl⟩
 have HX : Hid (isgn (((Int.tmod X Y).natAbs : Nat) * ((2 : Nat) : Int)) Y = cc) := by show _ = _; rw [twice_is hy, hcc]
 have HX' := hid' hcc
 have h3 := sgn_three hcc
 have HA : Hid (D.NIs w s (.slice a1 k1 c1) X ∧ D.NIs w t (.slice a2 k2 c2) Y ∧ True) := ⟨h1, h2, trivial⟩
 clear h1 h2 hl1 hl2 hy hcc
 go_enter Tryz.func82, Tryz.ntmps82
 go_upto_region 1 with fail
 have r1 := ((FRow.alloc w (.bool s) (.slice a1 k1 c1) (.bool t) (.slice a2 k2 c2)).kept ((Kept.refl _).alloc (.cells #[.bool false, .slice none 0 0] 70)))
 have r2 := NRow.alloc (w.alloc (.cells #[.bool s, .slice a1 k1 c1, .bool t, .slice a2 k2 c2] 93)) (.bool false) (.slice none 0 0)
 have hK := ((Kept.refl w).alloc (.cells #[.bool s, .slice a1 k1 c1, .bool t, .slice a2 k2 c2] 93)).alloc (.cells #[.bool false, .slice none 0 0] 70)
 simp only [World.size_alloc] at r2
 generalize (w.alloc (.cells #[.bool s, .slice a1 k1 c1, .bool t, .slice a2 k2 c2] 93)).alloc (.cells #[.bool false, .slice none 0 0] 70) = W at r1 r2 hK ⊢
 obtain ⟨p2, hp2⟩ : ∃ p, p = w.heap.size + 1 := ⟨_, rfl⟩
 rw [← hp2] at r2 ⊢
 obtain ⟨p1, hp1⟩ : ∃ p, p = w.heap.size := ⟨_, rfl⟩
 rw [← hp1] at r1 ⊢
 have HP : Hid (w.heap.size ≤ p2) := by show _ ≤ _; omega
 have HK := hid' hK
 have H1 := hid' r1
 have H2 := hid' r2
 have HA := hid' (And.intro (HA.out.1.kept hK) (And.intro (HA.out.2.1.kept hK) trivial))
 clear hp1 hp2 r1 r2 hK
 go_wp2_with fail
 refine (D.small_any 2 _ (by omega)).mono ?_
 rintro e w1 ⟨hk, ae, ke, ce, le, rfl, se, te, ve, ee⟩
 have H1 := hid' (H1.out.kept ((Kept.refl W).trans hk))
 have H2 := hid' (H2.out.kept ((Kept.refl W).trans hk))
 have HK := hid' (HK.out.trans ((Kept.refl W).trans hk))
 have HA := hid' (And.intro (HA.out.1.kept ((Kept.refl W).trans hk)) (And.intro (HA.out.2.1.kept ((Kept.refl W).trans hk)) HA.out.2.2))
 have HE : Hid (D.NIs w1 false (.slice ae ke ce) ((2 : Nat) : Int) ∧ ke ≤ 1) := ⟨⟨le, se, ⟨se.bd, te, fun _ => rfl⟩, by rw [← ve]; simp [D.int]⟩, by have := se.len; omega⟩
 clear se te ve ee
 clear hk
 have f0 := fun x0 => (H1.out.kept ((Kept.refl w1).alloc x0)).c0
 have f1 := fun x0 => (H1.out.kept ((Kept.refl w1).alloc x0)).c1
 have f2 := fun x0 => (H1.out.kept ((Kept.refl w1).alloc x0)).c2
 have f3 := fun x0 => (H1.out.kept ((Kept.refl w1).alloc x0)).c3
 go_wp2_with fail
 refine (D.Divide_any s t a1 a2 k1 k2 c1 c2 X Y _ (HA.out.1.kept ((Kept.refl w1).alloc _)) (HA.out.2.1.kept ((Kept.refl w1).alloc _)) (by have := HL.out; omega) (by have := HL.out; omega) (by have := HL.out; omega)).mono ?_
 rintro e w2 ⟨hk, sq, aq, kq, cq, tq, ar, kr, cr, rfl, nq, nr, lq, lr⟩
 clear f0 f1 f2 f3
 have H3' := (NRow.alloc w1 (.bool false) (.slice ae ke ce)).kept ((Kept.refl _).trans hk)
 have H3 := hid' H3'
 clear H3'
 have H1 := hid' (H1.out.kept (((Kept.refl w1).alloc _).trans hk))
 have H2 := hid' (H2.out.kept (((Kept.refl w1).alloc _).trans hk))
 have HK := hid' (HK.out.trans (((Kept.refl w1).alloc _).trans hk))
 have HA := hid' (And.intro (HA.out.1.kept (((Kept.refl w1).alloc _).trans hk)) (And.intro (HA.out.2.1.kept (((Kept.refl w1).alloc _).trans hk)) HA.out.2.2))
 have HE := hid' (And.intro (HE.out.1.kept (((Kept.refl w1).alloc _).trans hk)) HE.out.2)
 have HQ := hid' (And.intro nq (And.intro nr (And.intro lq lr)))
 clear nq nr lq lr
 clear hk
 go_upto_region 3 with fail
 have hk := ((Kept.refl w2).alloc (.cells #[.bool sq, .slice aq kq cq] 70)).alloc (.cells #[.bool tq, .slice ar kr cr] 70)
 have h45 := NRow.alloc2 w2 (.bool sq) (.slice aq kq cq) (.bool tq) (.slice ar kr cr)
 generalize (w2.alloc (.cells #[.bool sq, .slice aq kq cq] 70)).alloc (.cells #[.bool tq, .slice ar kr cr] 70) = W3 at hk h45 ⊢
 obtain ⟨p5, hp5⟩ : ∃ p, p = w2.heap.size + 1 := ⟨_, rfl⟩
 rw [← hp5] at h45 ⊢
 obtain ⟨p4, hp4⟩ : ∃ p, p = w2.heap.size := ⟨_, rfl⟩
 rw [← hp4] at h45 ⊢
 obtain ⟨p3, hp3⟩ : ∃ p, p = w1.heap.size := ⟨_, rfl⟩
 rw [← hp3] at H3 ⊢
 have hlt2 := H2.out.lt
 have n24 : ¬ p2 = p4 := by omega
 clear hlt2
 have H1 := hid' (H1.out.kept hk)
 have H2 := hid' (H2.out.kept hk)
 have H3 := hid' (H3.out.kept hk)
 have H4 := hid' h45.1
 have H5 := hid' h45.2
 have HK := hid' (HK.out.trans hk)
 have HA := hid' (And.intro (HA.out.1.kept hk) (And.intro (HA.out.2.1.kept hk) trivial))
 have HE := hid' (And.intro (HE.out.1.kept hk) HE.out.2)
 have HQ := hid' (And.intro (HQ.out.1.kept hk) (And.intro (HQ.out.2.1.kept hk) HQ.out.2.2))
 clear hk h45 hp3 hp4 hp5
 go_cut [6] (fun s6 wc => ∃ (p6 : Nat) (sx : Bool) (ax : Option Addr) (kx cx : Nat), s6 = .pointer (some ⟨p6, 0, none⟩) ∧ Hid (Kept W3 wc ∧ (wc.cell? ⟨p6, 0, none⟩ = some (.bool sx) ∧ wc.cell? ⟨p6, 1, none⟩ = some (.slice ax kx cx)) ∧ D.NIs wc sx (.slice ax kx cx) (((Int.tmod X Y).natAbs : Nat) * ((2 : Nat) : Int)) ∧ kx ≤ kr + ke))
 case first =>
  have KT : Kept W3 W3.drew := (Kept.refl _).drew
  have sS := hid' (fun (V : World) (K : Kept W3 V) => And.intro ((H5.out.kept K).c0) (And.intro ((H5.out.kept K).c1) (And.intro ((H3.out.kept K).c0) ((H3.out.kept K).c1))))
  refine wp_region_held_drew (S := fun w' => w'.cell? ⟨p5, 0, none⟩ = some (.bool tq) ∧ w'.cell? ⟨p5, 1, none⟩ = some (.slice ar kr cr) ∧ w'.cell? ⟨p3, 0, none⟩ = some (.bool false) ∧ w'.cell? ⟨p3, 1, none⟩ = some (.slice ae ke ce)) (by kernel_rfl) (sS.out _ KT) (fun hHeld => ?_)
  generalize W3.drew = Wd at KT hHeld ⊢
  refine wpAnyH_take (i := 0) (v := ?vnx0x1) rfl (by kernel_rfl) (by kernel_rfl) (by kernel_rfl) (fun _ _ _ h => h) (Or.inl ⟨by rfl, ?ynx0x1⟩) hHeld ?rnx0x1
  case ynx0x1 =>
   intro w' hSw
   obtain ⟨hSw0, hSw1, hSw2, hSw3⟩ := hSw
   go_simp
   with_reducible rfl
  case rnx0x1 =>
  refine wpAnyH_take (i := 2) (v := ?vnx2x2) rfl (by kernel_rfl) (by kernel_rfl) (by kernel_rfl) (fun _ _ _ h => h) (Or.inl ⟨by rfl, ?ynx2x2⟩) hHeld ?rnx2x2
  case ynx2x2 =>
   intro w' hSw
   obtain ⟨hSw0, hSw1, hSw2, hSw3⟩ := hSw
   go_simp
   with_reducible rfl
  case rnx2x2 =>
  refine wpAnyH_ready (rs := [1, 4]) (by kernel_rfl) (by simp) ?_
  refine AllReadyH.cons rfl (fun K hK => ?_) ?_
  ·
   go_simp
   refine (D.Abs_any tq ar kr cr _).mono ?_
   rintro e wa ⟨rfl, hka⟩
   refine hK.out _ _ (sS.out _ (KT.trans hka)) (fun hHeld => ?_)
   clear hK K
   have KT := KT.trans hka
   refine wpAnyH_ready (rs := [3, 4]) (by kernel_rfl) (by simp) ?_
   refine AllReadyH.cons rfl (fun K hK => ?_) ?_
   ·
    go_simp
    refine (D.Times_any false false ar ae kr ke cr ce _ _ _ (abs_is (HQ.out.2.1.kept KT)) (HE.out.1.kept KT) (by have h1 := HQ.out.2.2.2; have h2 := HL.out; omega) (by have := HE.out.2; omega)).mono ?_
    rintro e wt ⟨hkt, s6, a6, k6, c6, rfl, n6, l6⟩
    have HL6 := hid' l6
    clear l6
    refine hK.out _ _ (sS.out _ (KT.trans hkt)) (fun hHeld => ?_)
    clear hK K
    have KT := KT.trans hkt
    refine wpAnyH_ready (rs := [4]) (by kernel_rfl) (by simp) ?_
    refine AllReadyH.cons rfl (fun K hK => ?_) AllReadyH.nil
    go_simp
    refine hK.out _ _ (sS.out _ (KT.alloc _)) (fun hHeld => ?_)
    clear hK K
    have zp6 : ZN (wt.alloc (.cells #[.bool false, .slice none 0 0] 70)) wt.heap.size := ZN.alloc _
    have hgp6 : W3.heap.size ≤ wt.heap.size := KT.size
    have n6 := D.NIs.kept n6 ((Kept.refl wt).alloc (.cells #[.bool false, .slice none 0 0] 70))
    have KT := KT.alloc (.cells #[.bool false, .slice none 0 0] 70)
    obtain ⟨p6, hpp6⟩ : ∃ p, p = wt.heap.size := ⟨_, rfl⟩
    rw [← hpp6] at zp6 hgp6  ⊢
    generalize wt.alloc (.cells #[.bool false, .slice none 0 0] 70) = Wa4 at zp6  n6 KT hHeld ⊢
    clear hpp6
    have cp60 := zp6.c0
    have cp61 := zp6.c1
    have gp60 := zp6.fz 0
    have gp61 := zp6.fz 1
    refine wpAnyH_ready (rs := [5]) (by kernel_rfl) (by simp) ?_
    refine AllReadyH.cons rfl (fun K hK => ?_) AllReadyH.nil
    go_simp
    refine hK.out _ _ (sS.out _ ((KT.setCell hgp6 _).setCell hgp6 _)) (fun hHeld => ?_)
    clear hK K
    have ep6 := set2_at (x := (.bool s6)) (y := (.slice a6 k6 c6)) cp60 cp61
    have n6 := D.NIs.box2 n6 cp60 cp61 (.bool s6) (.slice a6 k6 c6)
    have KT := (KT.setCell (p := ⟨p6, 0, none⟩) hgp6 (.bool s6)).setCell (p := ⟨p6, 1, none⟩) hgp6 (.slice a6 k6 c6)
    clear cp60 cp61 gp60 gp61
    generalize ((Wa4.setCell ⟨p6, 0, none⟩ (.bool s6)).setCell ⟨p6, 1, none⟩ (.slice a6 k6 c6)) = Ws0 at ep6  n6 KT hHeld ⊢
    refine wpAnyH_done (by kernel_rfl) ?_ _
    go_wp2_with fail
    go_meet
    case rel => exact ⟨p6, s6, a6, k6, c6, rfl, KT, ep6, n6, HL6.out⟩
   refine AllReadyH.cons rfl (fun K hK => ?_) AllReadyH.nil
   go_simp
   refine hK.out _ _ (sS.out _ (KT.alloc _)) (fun hHeld => ?_)
   clear hK K
   have zp6 : ZN (wa.alloc (.cells #[.bool false, .slice none 0 0] 70)) wa.heap.size := ZN.alloc _
   have hgp6 : W3.heap.size ≤ wa.heap.size := KT.size
   have KT := KT.alloc (.cells #[.bool false, .slice none 0 0] 70)
   obtain ⟨p6, hpp6⟩ : ∃ p, p = wa.heap.size := ⟨_, rfl⟩
   rw [← hpp6] at zp6 hgp6  ⊢
   generalize wa.alloc (.cells #[.bool false, .slice none 0 0] 70) = Wa4 at zp6   KT hHeld ⊢
   clear hpp6
   refine wpAnyH_ready (rs := [3]) (by kernel_rfl) (by simp) ?_
   refine AllReadyH.cons rfl (fun K hK => ?_) AllReadyH.nil
   go_simp
   refine (D.Times_any false false ar ae kr ke cr ce _ _ _ (abs_is (HQ.out.2.1.kept KT)) (HE.out.1.kept KT) (by have h1 := HQ.out.2.2.2; have h2 := HL.out; omega) (by have := HE.out.2; omega)).mono ?_
   rintro e wt ⟨hkt, s6, a6, k6, c6, rfl, n6, l6⟩
   have HL6 := hid' l6
   clear l6
   refine hK.out _ _ (sS.out _ (KT.trans hkt)) (fun hHeld => ?_)
   clear hK K
   have zp6 := zp6.kept hkt
   have KT := KT.trans hkt
   have cp60 := zp6.c0
   have cp61 := zp6.c1
   have gp60 := zp6.fz 0
   have gp61 := zp6.fz 1
   refine wpAnyH_ready (rs := [5]) (by kernel_rfl) (by simp) ?_
   refine AllReadyH.cons rfl (fun K hK => ?_) AllReadyH.nil
   go_simp
   refine hK.out _ _ (sS.out _ ((KT.setCell hgp6 _).setCell hgp6 _)) (fun hHeld => ?_)
   clear hK K
   have ep6 := set2_at (x := (.bool s6)) (y := (.slice a6 k6 c6)) cp60 cp61
   have n6 := D.NIs.box2 n6 cp60 cp61 (.bool s6) (.slice a6 k6 c6)
   have KT := (KT.setCell (p := ⟨p6, 0, none⟩) hgp6 (.bool s6)).setCell (p := ⟨p6, 1, none⟩) hgp6 (.slice a6 k6 c6)
   clear cp60 cp61 gp60 gp61
   generalize ((wt.setCell ⟨p6, 0, none⟩ (.bool s6)).setCell ⟨p6, 1, none⟩ (.slice a6 k6 c6)) = Ws0 at ep6  n6 KT hHeld ⊢
   refine wpAnyH_done (by kernel_rfl) ?_ _
   go_wp2_with fail
   go_meet
   case rel => exact ⟨p6, s6, a6, k6, c6, rfl, KT, ep6, n6, HL6.out⟩
  refine AllReadyH.cons rfl (fun K hK => ?_) AllReadyH.nil
  go_simp
  refine hK.out _ _ (sS.out _ (KT.alloc _)) (fun hHeld => ?_)
  clear hK K
  have zp6 : ZN (Wd.alloc (.cells #[.bool false, .slice none 0 0] 70)) Wd.heap.size := ZN.alloc _
  have hgp6 : W3.heap.size ≤ Wd.heap.size := KT.size
  have KT := KT.alloc (.cells #[.bool false, .slice none 0 0] 70)
  obtain ⟨p6, hpp6⟩ : ∃ p, p = Wd.heap.size := ⟨_, rfl⟩
  rw [← hpp6] at zp6 hgp6  ⊢
  generalize Wd.alloc (.cells #[.bool false, .slice none 0 0] 70) = Wa4 at zp6   KT hHeld ⊢
  clear hpp6
  refine wpAnyH_ready (rs := [1]) (by kernel_rfl) (by simp) ?_
  refine AllReadyH.cons rfl (fun K hK => ?_) AllReadyH.nil
  go_simp
  refine (D.Abs_any tq ar kr cr _).mono ?_
  rintro e wa ⟨rfl, hka⟩
  refine hK.out _ _ (sS.out _ (KT.trans hka)) (fun hHeld => ?_)
  clear hK K
  have zp6 := zp6.kept hka
  have KT := KT.trans hka
  refine wpAnyH_ready (rs := [3]) (by kernel_rfl) (by simp) ?_
  refine AllReadyH.cons rfl (fun K hK => ?_) AllReadyH.nil
  go_simp
  refine (D.Times_any false false ar ae kr ke cr ce _ _ _ (abs_is (HQ.out.2.1.kept KT)) (HE.out.1.kept KT) (by have h1 := HQ.out.2.2.2; have h2 := HL.out; omega) (by have := HE.out.2; omega)).mono ?_
  rintro e wt ⟨hkt, s6, a6, k6, c6, rfl, n6, l6⟩
  have HL6 := hid' l6
  clear l6
  refine hK.out _ _ (sS.out _ (KT.trans hkt)) (fun hHeld => ?_)
  clear hK K
  have zp6 := zp6.kept hkt
  have KT := KT.trans hkt
  have cp60 := zp6.c0
  have cp61 := zp6.c1
  have gp60 := zp6.fz 0
  have gp61 := zp6.fz 1
  refine wpAnyH_ready (rs := [5]) (by kernel_rfl) (by simp) ?_
  refine AllReadyH.cons rfl (fun K hK => ?_) AllReadyH.nil
  go_simp
  refine hK.out _ _ (sS.out _ ((KT.setCell hgp6 _).setCell hgp6 _)) (fun hHeld => ?_)
  clear hK K
  have ep6 := set2_at (x := (.bool s6)) (y := (.slice a6 k6 c6)) cp60 cp61
  have n6 := D.NIs.box2 n6 cp60 cp61 (.bool s6) (.slice a6 k6 c6)
  have KT := (KT.setCell (p := ⟨p6, 0, none⟩) hgp6 (.bool s6)).setCell (p := ⟨p6, 1, none⟩) hgp6 (.slice a6 k6 c6)
  clear cp60 cp61 gp60 gp61
  generalize ((wt.setCell ⟨p6, 0, none⟩ (.bool s6)).setCell ⟨p6, 1, none⟩ (.slice a6 k6 c6)) = Ws0 at ep6  n6 KT hHeld ⊢
  refine wpAnyH_done (by kernel_rfl) ?_ _
  go_wp2_with fail
  go_meet
  case rel => exact ⟨p6, s6, a6, k6, c6, rfl, KT, ep6, n6, HL6.out⟩
 case rest =>
  obtain ⟨p6, s6, a6, k6, c6, rfl, HC⟩ := hcut
  obtain ⟨hk, h6, n6, l6⟩ := HC.out
  have H1 := hid' (H1.out.kept hk)
  have H2 := hid' (H2.out.kept hk)
  have H3 := hid' (H3.out.kept hk)
  have H4 := hid' (H4.out.kept hk)
  have H5 := hid' (H5.out.kept hk)
  have H6 : Hid (Cell2 wc p6 (.bool s6) (.slice a6 k6 c6)) := h6
  have HK := hid' (HK.out.trans hk)
  have HA := hid' (And.intro (HA.out.1.kept hk) (And.intro (HA.out.2.1.kept hk) trivial))
  have HE := hid' (And.intro (HE.out.1.kept hk) HE.out.2)
  have HQ := hid' (And.intro (HQ.out.1.kept hk) (And.intro (HQ.out.2.1.kept hk) HQ.out.2.2))
  have HT := hid' (And.intro n6 l6)
  clear hk h6 n6 l6 HC
  have f300 := H1.out.c0
  have f301 := H1.out.c1
  have f302 := H1.out.c2
  have f303 := H1.out.c3
  have f304 := H6.out.c0
  have f305 := H6.out.c1
  go_wp2_with fail
  refine (D.Held_any s6 t a6 a2 k6 k2 c6 c2 _ _ _ (HT.out.1.kept (Kept.refl wc)) (HA.out.2.1.kept (Kept.refl wc)) (by have h1 := HT.out.2; have h2 := HQ.out.2.2.2; have h3 := HL.out; have h4 := HE.out.2; omega) (by have := HL.out; omega)).mono ?_
  rw [HX.out]
  rintro e w4 ⟨rfl, hk⟩
  clear f300 f301 f302 f303 f304 f305
  have H1 := hid' (H1.out.kept ((Kept.refl wc).trans hk))
  have H2 := hid' (H2.out.kept ((Kept.refl wc).trans hk))
  have H3 := hid' (H3.out.kept ((Kept.refl wc).trans hk))
  have H4 := hid' (H4.out.kept ((Kept.refl wc).trans hk))
  have H5 := hid' (H5.out.kept ((Kept.refl wc).trans hk))
  have H6 := hid' (H6.out.kept ((Kept.refl wc).trans hk))
  have HK := hid' (HK.out.trans ((Kept.refl wc).trans hk))
  have HA := hid' (And.intro (HA.out.1.kept ((Kept.refl wc).trans hk)) (And.intro (HA.out.2.1.kept ((Kept.refl wc).trans hk)) HA.out.2.2))
  have HE := hid' (And.intro (HE.out.1.kept ((Kept.refl wc).trans hk)) HE.out.2)
  have HQ := hid' (And.intro (HQ.out.1.kept ((Kept.refl wc).trans hk)) (And.intro (HQ.out.2.1.kept ((Kept.refl wc).trans hk)) HQ.out.2.2))
  have HT := hid' (And.intro (HT.out.1.kept ((Kept.refl wc).trans hk)) HT.out.2)
  clear hk
  have f306 := H3.out.c0
  have f307 := H3.out.c1
  have f308 := H4.out.c0
  have f309 := H4.out.c1
  go_wp2_with fail
  refine (D.Divide_any sq false aq ae kq ke cq ce _ _ _ (HQ.out.1.kept (Kept.refl w4)) (HE.out.1.kept (Kept.refl w4)) (by have h1 := HQ.out.2.2.1; have h2 := HL.out; omega) (by have := HE.out.2; omega) (by omega)).mono ?_
  rintro e w5 ⟨hk, su, au, ku, cu, so, a9, k9, c9, rfl, nu, no, lu, lo⟩
  clear f306 f307 f308 f309
  have H1 := hid' (H1.out.kept ((Kept.refl w4).trans hk))
  have H2 := hid' (H2.out.kept ((Kept.refl w4).trans hk))
  have H3 := hid' (H3.out.kept ((Kept.refl w4).trans hk))
  have H4 := hid' (H4.out.kept ((Kept.refl w4).trans hk))
  have H5 := hid' (H5.out.kept ((Kept.refl w4).trans hk))
  have H6 := hid' (H6.out.kept ((Kept.refl w4).trans hk))
  have HK := hid' (HK.out.trans ((Kept.refl w4).trans hk))
  have HA := hid' (And.intro (HA.out.1.kept ((Kept.refl w4).trans hk)) (And.intro (HA.out.2.1.kept ((Kept.refl w4).trans hk)) HA.out.2.2))
  have HE := hid' (And.intro (HE.out.1.kept ((Kept.refl w4).trans hk)) HE.out.2)
  have HQ := hid' (And.intro (HQ.out.1.kept ((Kept.refl w4).trans hk)) (And.intro (HQ.out.2.1.kept ((Kept.refl w4).trans hk)) HQ.out.2.2))
  have HT := hid' (And.intro (HT.out.1.kept ((Kept.refl w4).trans hk)) HT.out.2)
  have HO := hid' (And.intro no lo)
  clear nu no lu lo
  clear hk
  rcases h3 with rfl | rfl | rfl
  ·
   have HNR : Hid (near X Y.toNat = Int.tdiv X Y) := near_stay (x := -1) HX'.out (.inl rfl) HHX.out.symm
   go_upto_region 6 with fail
   have hk := ((Kept.refl w5).alloc (.cells #[.bool su, .slice au ku cu] 70)).alloc (.cells #[.bool so, .slice a9 k9 c9] 70)
   generalize (w5.alloc (.cells #[.bool su, .slice au ku cu] 70)).alloc (.cells #[.bool so, .slice a9 k9 c9] 70) = W6 at hk ⊢
   have H2 := hid' (H2.out.kept hk)
   have H4 := hid' (H4.out.kept hk)
   have HK := hid' (HK.out.trans hk)
   have HQ := hid' (And.intro (HQ.out.1.kept hk) (And.intro (HQ.out.2.1.kept hk) HQ.out.2.2))
   clear hk
   have f400 := H4.out.c0
   have f401 := H4.out.c1
   have z2 := H2.out
   have e0 := z2.c0
   have e1 := z2.c1
   have e2 := z2.fz 0
   have e3 := z2.fz 1
   clear z2
   go_wp2
   exact bodyPost_ret (v := .agg #[.bool sq, .slice aq kq cq]) (by simp [results, Tryz.results82, go_sem, e0, e1]) rfl ⟨(HK.out.setCell (p := ⟨p2, 0, none⟩) HP.out _).setCell (p := ⟨p2, 1, none⟩) HP.out _, _, _, _, _, rfl, D.NIs.box2 (by rw [HNR.out]; exact HQ.out.1) e0 e1 _ _, by have h1 := HQ.out.2.2.1; omega⟩
  ·
   go_wp2_with fail
   refine (D.Sign_any so a9 k9 c9 _ _ (HO.out.1.kept (((Kept.refl w5).alloc _).alloc _)) (by have h1 := HO.out.2; have h2 := HE.out.2; omega)).mono ?_
   rintro e w6 ⟨rfl, hk⟩
   have H8' := (NRow.alloc w5 (.bool su) (.slice au ku cu)).kept (((Kept.refl _).alloc _).trans hk)
   have H8 := hid' H8'
   clear H8'
   have H9' := (NRow.alloc (w5.alloc (.cells #[.bool su, .slice au ku cu] 70)) (.bool so) (.slice a9 k9 c9)).kept ((Kept.refl _).trans hk)
   simp only [World.size_alloc] at H9'
   have H9 := hid' H9'
   clear H9'
   have H1 := hid' (H1.out.kept ((((Kept.refl w5).alloc _).alloc _).trans hk))
   have H2 := hid' (H2.out.kept ((((Kept.refl w5).alloc _).alloc _).trans hk))
   have H3 := hid' (H3.out.kept ((((Kept.refl w5).alloc _).alloc _).trans hk))
   have H4 := hid' (H4.out.kept ((((Kept.refl w5).alloc _).alloc _).trans hk))
   have H5 := hid' (H5.out.kept ((((Kept.refl w5).alloc _).alloc _).trans hk))
   have H6 := hid' (H6.out.kept ((((Kept.refl w5).alloc _).alloc _).trans hk))
   have HK := hid' (HK.out.trans ((((Kept.refl w5).alloc _).alloc _).trans hk))
   have HA := hid' (And.intro (HA.out.1.kept ((((Kept.refl w5).alloc _).alloc _).trans hk)) (And.intro (HA.out.2.1.kept ((((Kept.refl w5).alloc _).alloc _).trans hk)) HA.out.2.2))
   have HE := hid' (And.intro (HE.out.1.kept ((((Kept.refl w5).alloc _).alloc _).trans hk)) HE.out.2)
   have HQ := hid' (And.intro (HQ.out.1.kept ((((Kept.refl w5).alloc _).alloc _).trans hk)) (And.intro (HQ.out.2.1.kept ((((Kept.refl w5).alloc _).alloc _).trans hk)) HQ.out.2.2))
   have HT := hid' (And.intro (HT.out.1.kept ((((Kept.refl w5).alloc _).alloc _).trans hk)) HT.out.2)
   have HO := hid' (And.intro (HO.out.1.kept ((((Kept.refl w5).alloc _).alloc _).trans hk)) HO.out.2)
   clear hk
   by_cases hod : Int.tmod (Int.tdiv X Y) ((2 : Nat) : Int) = 0
   ·
    rw [show isgn (Int.tmod (Int.tdiv X Y) ((2 : Nat) : Int)) 0 = 0 by rw [hod]; rfl]
    have HOD := hid' hod
    clear hod
    have HNR : Hid (near X Y.toNat = Int.tdiv X Y) := near_stay (x := 0) HX'.out (.inr ⟨rfl, even_tmod.1 HOD.out⟩) HHX.out.symm
    have f600 := H4.out.c0
    have f601 := H4.out.c1
    have z2 := H2.out
    have e0 := z2.c0
    have e1 := z2.c1
    have e2 := z2.fz 0
    have e3 := z2.fz 1
    clear z2
    go_wp2
    exact bodyPost_ret (v := .agg #[.bool sq, .slice aq kq cq]) (by simp [results, Tryz.results82, go_sem, e0, e1]) rfl ⟨(HK.out.setCell (p := ⟨p2, 0, none⟩) HP.out _).setCell (p := ⟨p2, 1, none⟩) HP.out _, _, _, _, _, rfl, D.NIs.box2 (by rw [HNR.out]; exact HQ.out.1) e0 e1 _ _, by have h1 := HQ.out.2.2.1; omega⟩
   ·
    have hsn := sgn_odd hod
    have HOD := hid' hod
    generalize isgn (Int.tmod (Int.tdiv X Y) ((2 : Nat) : Int)) 0 = so' at *
    clear hod
    have f700 := H1.out.c0
    have f701 := H1.out.c1
    have f702 := H1.out.c2
    have f703 := H1.out.c3
    have f704 := H4.out.c0
    have f705 := H4.out.c1
    go_wp2_with fail
    refine (D.Sign_any s a1 k1 c1 X _ (HA.out.1.kept (Kept.refl w6)) (by have := HL.out; omega)).mono ?_
    rintro e w7 ⟨rfl, hk⟩
    clear f700 f701 f702 f703 f704 f705
    have H1 := hid' (H1.out.kept ((Kept.refl w6).trans hk))
    have H2 := hid' (H2.out.kept ((Kept.refl w6).trans hk))
    have H3 := hid' (H3.out.kept ((Kept.refl w6).trans hk))
    have H4 := hid' (H4.out.kept ((Kept.refl w6).trans hk))
    have H5 := hid' (H5.out.kept ((Kept.refl w6).trans hk))
    have H6 := hid' (H6.out.kept ((Kept.refl w6).trans hk))
    have H8 := hid' (H8.out.kept ((Kept.refl w6).trans hk))
    have H9 := hid' (H9.out.kept ((Kept.refl w6).trans hk))
    have HK := hid' (HK.out.trans ((Kept.refl w6).trans hk))
    have HA := hid' (And.intro (HA.out.1.kept ((Kept.refl w6).trans hk)) (And.intro (HA.out.2.1.kept ((Kept.refl w6).trans hk)) HA.out.2.2))
    have HE := hid' (And.intro (HE.out.1.kept ((Kept.refl w6).trans hk)) HE.out.2)
    have HQ := hid' (And.intro (HQ.out.1.kept ((Kept.refl w6).trans hk)) (And.intro (HQ.out.2.1.kept ((Kept.refl w6).trans hk)) HQ.out.2.2))
    have HT := hid' (And.intro (HT.out.1.kept ((Kept.refl w6).trans hk)) HT.out.2)
    have HO := hid' (And.intro (HO.out.1.kept ((Kept.refl w6).trans hk)) HO.out.2)
    clear hk
    by_cases hneg : X < 0
    ·
     rw [show isgn X 0 = -1 by unfold isgn; rw [if_pos hneg]]
     have HNR : Hid (near X Y.toNat = Int.tdiv X Y - 1) := near_less HX'.out HHX.out (.inr ⟨rfl, fun h => HOD.out (even_tmod.2 h)⟩) HY0.out hneg
     clear hneg
     have q0 := H4.out.c0
     have q1 := H4.out.c1
     go_upto_region 8 with fail
     go_region_held3 (fun w' => w'.cell? ⟨p4, 0, none⟩ = some (.bool sq) ∧ w'.cell? ⟨p4, 1, none⟩ = some (.slice aq kq cq)) (go_keep) (first
      | (go_at_call 26; refine (D.small_any 1 _ (by omega)).mono ?_; rintro e w8 ⟨hk8, a8, k8, c8, l8, rfl, s8, t8, v8, e8⟩; have K8 := (Kept.refl w7).drew.trans hk8; have H8' : Hid (D.NIs w8 false (.slice a8 k8 c8) ((1 : Nat) : Int) ∧ k8 ≤ 1) := ⟨⟨l8, s8, ⟨s8.bd, t8, fun _ => rfl⟩, by rw [← v8]; simp [D.int]⟩, by have := s8.len; omega⟩; clear s8 t8 v8 e8; have d0 := (H4.out.kept K8).c0; have d1 := (H4.out.kept K8).c1)
      | (go_at_call 100; refine (D.Less_any sq false aq a8 kq k8 cq c8 _ _ _ (HQ.out.1.kept K8) H8'.out.1 (by have h1 := HQ.out.2.2.1; have h2 := HL.out; omega) (by have := H8'.out.2; omega)).mono ?_; rintro e w9 ⟨hk9, sa, aa, ka, ca, rfl, na, la⟩; have K9 := K8.trans hk9; have HNA := hid' (And.intro na la); clear na la; have g0 := (H4.out.kept K9).c0; have g1 := (H4.out.kept K9).c1; have z2 := H2.out.kept K9; have e0 := z2.c0; have e1 := z2.c1; have e2 := z2.fz 0; have e3 := z2.fz 1))
     have HK9 := hid' (HK.out.trans K9)
     clear q0 q1 d0 d1 g0 g1 z2 hk8 hk9 K8 K9
     go_wp2
     exact bodyPost_ret (v := .agg #[.bool sa, .slice aa ka ca]) (by simp [results, Tryz.results82, go_sem, e0, e1]) rfl ⟨(HK9.out.setCell (p := ⟨p2, 0, none⟩) HP.out _).setCell (p := ⟨p2, 1, none⟩) HP.out _, _, _, _, _, rfl, D.NIs.box2 (by rw [HNR.out]; exact HNA.out.1) e0 e1 _ _, by have h1 := HQ.out.2.2.1; have h2 := HNA.out.2; have h3 := H8'.out.2; omega⟩
    ·
     have hsg : isgn X 0 = 0 ∨ isgn X 0 = 1 := by unfold isgn; rw [if_neg hneg]; split <;> simp
     have HNR : Hid (near X Y.toNat = Int.tdiv X Y + 1) := near_plus HX'.out HHX.out (.inr ⟨rfl, fun h => HOD.out (even_tmod.2 h)⟩) HY0.out hneg
     have hlt : ¬ isgn X 0 < 0 := by omega
     generalize isgn X 0 = sg at *
     clear hneg hsg
     have q0 := H4.out.c0
     have q1 := H4.out.c1
     go_upto_region 9 with fail
     go_region_held3 (fun w' => w'.cell? ⟨p4, 0, none⟩ = some (.bool sq) ∧ w'.cell? ⟨p4, 1, none⟩ = some (.slice aq kq cq)) (go_keep) (first
      | (go_at_call 26; refine (D.small_any 1 _ (by omega)).mono ?_; rintro e w8 ⟨hk8, a8, k8, c8, l8, rfl, s8, t8, v8, e8⟩; have K8 := (Kept.refl w7).drew.trans hk8; have H8' : Hid (D.NIs w8 false (.slice a8 k8 c8) ((1 : Nat) : Int) ∧ k8 ≤ 1) := ⟨⟨l8, s8, ⟨s8.bd, t8, fun _ => rfl⟩, by rw [← v8]; simp [D.int]⟩, by have := s8.len; omega⟩; clear s8 t8 v8 e8; have d0 := (H4.out.kept K8).c0; have d1 := (H4.out.kept K8).c1)
      | (go_at_call 28; refine (D.Plus_any sq false aq a8 kq k8 cq c8 _ _ _ (HQ.out.1.kept K8) H8'.out.1 (by have h1 := HQ.out.2.2.1; have h2 := HL.out; omega) (by have := H8'.out.2; omega)).mono ?_; rintro e w9 ⟨hk9, sa, aa, ka, ca, rfl, na, la⟩; have K9 := K8.trans hk9; have HNA := hid' (And.intro na la); clear na la; have g0 := (H4.out.kept K9).c0; have g1 := (H4.out.kept K9).c1; have z2 := H2.out.kept K9; have e0 := z2.c0; have e1 := z2.c1; have e2 := z2.fz 0; have e3 := z2.fz 1))
     have HK9 := hid' (HK.out.trans K9)
     clear q0 q1 d0 d1 g0 g1 z2 hk8 hk9 K8 K9
     go_wp2
     exact bodyPost_ret (v := .agg #[.bool sa, .slice aa ka ca]) (by simp [results, Tryz.results82, go_sem, e0, e1]) rfl ⟨(HK9.out.setCell (p := ⟨p2, 0, none⟩) HP.out _).setCell (p := ⟨p2, 1, none⟩) HP.out _, _, _, _, _, rfl, D.NIs.box2 (by rw [HNR.out]; exact HNA.out.1) e0 e1 _ _, by have h1 := HQ.out.2.2.1; have h2 := HNA.out.2; have h3 := H8'.out.2; omega⟩
  ·
   have f900 := fun x0 x1 => (H1.out.kept (((Kept.refl w5).alloc x0).alloc x1)).c0
   have f901 := fun x0 x1 => (H1.out.kept (((Kept.refl w5).alloc x0).alloc x1)).c1
   have f902 := fun x0 x1 => (H1.out.kept (((Kept.refl w5).alloc x0).alloc x1)).c2
   have f903 := fun x0 x1 => (H1.out.kept (((Kept.refl w5).alloc x0).alloc x1)).c3
   have f904 := fun x0 x1 => (H4.out.kept (((Kept.refl w5).alloc x0).alloc x1)).c0
   have f905 := fun x0 x1 => (H4.out.kept (((Kept.refl w5).alloc x0).alloc x1)).c1
   go_wp2_with fail
   refine (D.Sign_any s a1 k1 c1 X _ (HA.out.1.kept (((Kept.refl w5).alloc _).alloc _)) (by have := HL.out; omega)).mono ?_
   rintro e w7 ⟨rfl, hk⟩
   clear f900 f901 f902 f903 f904 f905
   have H8' := (NRow.alloc w5 (.bool su) (.slice au ku cu)).kept (((Kept.refl _).alloc _).trans hk)
   have H8 := hid' H8'
   clear H8'
   have H9' := (NRow.alloc (w5.alloc (.cells #[.bool su, .slice au ku cu] 70)) (.bool so) (.slice a9 k9 c9)).kept ((Kept.refl _).trans hk)
   simp only [World.size_alloc] at H9'
   have H9 := hid' H9'
   clear H9'
   have H1 := hid' (H1.out.kept ((((Kept.refl w5).alloc _).alloc _).trans hk))
   have H2 := hid' (H2.out.kept ((((Kept.refl w5).alloc _).alloc _).trans hk))
   have H3 := hid' (H3.out.kept ((((Kept.refl w5).alloc _).alloc _).trans hk))
   have H4 := hid' (H4.out.kept ((((Kept.refl w5).alloc _).alloc _).trans hk))
   have H5 := hid' (H5.out.kept ((((Kept.refl w5).alloc _).alloc _).trans hk))
   have H6 := hid' (H6.out.kept ((((Kept.refl w5).alloc _).alloc _).trans hk))
   have HK := hid' (HK.out.trans ((((Kept.refl w5).alloc _).alloc _).trans hk))
   have HA := hid' (And.intro (HA.out.1.kept ((((Kept.refl w5).alloc _).alloc _).trans hk)) (And.intro (HA.out.2.1.kept ((((Kept.refl w5).alloc _).alloc _).trans hk)) HA.out.2.2))
   have HE := hid' (And.intro (HE.out.1.kept ((((Kept.refl w5).alloc _).alloc _).trans hk)) HE.out.2)
   have HQ := hid' (And.intro (HQ.out.1.kept ((((Kept.refl w5).alloc _).alloc _).trans hk)) (And.intro (HQ.out.2.1.kept ((((Kept.refl w5).alloc _).alloc _).trans hk)) HQ.out.2.2))
   have HT := hid' (And.intro (HT.out.1.kept ((((Kept.refl w5).alloc _).alloc _).trans hk)) HT.out.2)
   have HO := hid' (And.intro (HO.out.1.kept ((((Kept.refl w5).alloc _).alloc _).trans hk)) HO.out.2)
   clear hk
   by_cases hneg : X < 0
   ·
    rw [show isgn X 0 = -1 by unfold isgn; rw [if_pos hneg]]
    have HNR : Hid (near X Y.toNat = Int.tdiv X Y - 1) := near_less HX'.out HHX.out (.inl rfl) HY0.out hneg
    clear hneg
    have q0 := H4.out.c0
    have q1 := H4.out.c1
    go_upto_region 8 with fail
    go_region_held3 (fun w' => w'.cell? ⟨p4, 0, none⟩ = some (.bool sq) ∧ w'.cell? ⟨p4, 1, none⟩ = some (.slice aq kq cq)) (go_keep) (first
     | (go_at_call 26; refine (D.small_any 1 _ (by omega)).mono ?_; rintro e w8 ⟨hk8, a8, k8, c8, l8, rfl, s8, t8, v8, e8⟩; have K8 := (Kept.refl w7).drew.trans hk8; have H8' : Hid (D.NIs w8 false (.slice a8 k8 c8) ((1 : Nat) : Int) ∧ k8 ≤ 1) := ⟨⟨l8, s8, ⟨s8.bd, t8, fun _ => rfl⟩, by rw [← v8]; simp [D.int]⟩, by have := s8.len; omega⟩; clear s8 t8 v8 e8; have d0 := (H4.out.kept K8).c0; have d1 := (H4.out.kept K8).c1)
     | (go_at_call 100; refine (D.Less_any sq false aq a8 kq k8 cq c8 _ _ _ (HQ.out.1.kept K8) H8'.out.1 (by have h1 := HQ.out.2.2.1; have h2 := HL.out; omega) (by have := H8'.out.2; omega)).mono ?_; rintro e w9 ⟨hk9, sa, aa, ka, ca, rfl, na, la⟩; have K9 := K8.trans hk9; have HNA := hid' (And.intro na la); clear na la; have g0 := (H4.out.kept K9).c0; have g1 := (H4.out.kept K9).c1; have z2 := H2.out.kept K9; have e0 := z2.c0; have e1 := z2.c1; have e2 := z2.fz 0; have e3 := z2.fz 1))
    have HK9 := hid' (HK.out.trans K9)
    clear q0 q1 d0 d1 g0 g1 z2 hk8 hk9 K8 K9
    go_wp2
    exact bodyPost_ret (v := .agg #[.bool sa, .slice aa ka ca]) (by simp [results, Tryz.results82, go_sem, e0, e1]) rfl ⟨(HK9.out.setCell (p := ⟨p2, 0, none⟩) HP.out _).setCell (p := ⟨p2, 1, none⟩) HP.out _, _, _, _, _, rfl, D.NIs.box2 (by rw [HNR.out]; exact HNA.out.1) e0 e1 _ _, by have h1 := HQ.out.2.2.1; have h2 := HNA.out.2; have h3 := H8'.out.2; omega⟩
   ·
    have hsg : isgn X 0 = 0 ∨ isgn X 0 = 1 := by unfold isgn; rw [if_neg hneg]; split <;> simp
    have HNR : Hid (near X Y.toNat = Int.tdiv X Y + 1) := near_plus HX'.out HHX.out (.inl rfl) HY0.out hneg
    have hlt : ¬ isgn X 0 < 0 := by omega
    generalize isgn X 0 = sg at *
    clear hneg hsg
    have q0 := H4.out.c0
    have q1 := H4.out.c1
    go_upto_region 9 with fail
    go_region_held3 (fun w' => w'.cell? ⟨p4, 0, none⟩ = some (.bool sq) ∧ w'.cell? ⟨p4, 1, none⟩ = some (.slice aq kq cq)) (go_keep) (first
     | (go_at_call 26; refine (D.small_any 1 _ (by omega)).mono ?_; rintro e w8 ⟨hk8, a8, k8, c8, l8, rfl, s8, t8, v8, e8⟩; have K8 := (Kept.refl w7).drew.trans hk8; have H8' : Hid (D.NIs w8 false (.slice a8 k8 c8) ((1 : Nat) : Int) ∧ k8 ≤ 1) := ⟨⟨l8, s8, ⟨s8.bd, t8, fun _ => rfl⟩, by rw [← v8]; simp [D.int]⟩, by have := s8.len; omega⟩; clear s8 t8 v8 e8; have d0 := (H4.out.kept K8).c0; have d1 := (H4.out.kept K8).c1)
     | (go_at_call 28; refine (D.Plus_any sq false aq a8 kq k8 cq c8 _ _ _ (HQ.out.1.kept K8) H8'.out.1 (by have h1 := HQ.out.2.2.1; have h2 := HL.out; omega) (by have := H8'.out.2; omega)).mono ?_; rintro e w9 ⟨hk9, sa, aa, ka, ca, rfl, na, la⟩; have K9 := K8.trans hk9; have HNA := hid' (And.intro na la); clear na la; have g0 := (H4.out.kept K9).c0; have g1 := (H4.out.kept K9).c1; have z2 := H2.out.kept K9; have e0 := z2.c0; have e1 := z2.c1; have e2 := z2.fz 0; have e3 := z2.fz 1))
    have HK9 := hid' (HK.out.trans K9)
    clear q0 q1 d0 d1 g0 g1 z2 hk8 hk9 K8 K9
    go_wp2
    exact bodyPost_ret (v := .agg #[.bool sa, .slice aa ka ca]) (by simp [results, Tryz.results82, go_sem, e0, e1]) rfl ⟨(HK9.out.setCell (p := ⟨p2, 0, none⟩) HP.out _).setCell (p := ⟨p2, 1, none⟩) HP.out _, _, _, _, _, rfl, D.NIs.box2 (by rw [HNR.out]; exact HNA.out.1) e0 e1 _ _, by have h1 := HQ.out.2.2.1; have h2 := HNA.out.2; have h3 := H8'.out.2; omega⟩
end F
end Go.Proofs.YtboliplhgpndpaaGreatDoor
