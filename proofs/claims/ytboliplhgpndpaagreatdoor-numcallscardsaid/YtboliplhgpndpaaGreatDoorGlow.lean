/- shuntref02.Lowest: a fraction in lowest terms. -/
import Derived.Test.YtboliplhgpndpaaGreatDoorGap
namespace Go.Proofs.YtboliplhgpndpaaGreatDoor
open Go.RowKit
namespace F
theorem FRow.far {w : World} {p q : Nat} {x0 x1 x2 x3 : Value} (h : FRow w p x0 x1 x2 x3) (hne : ¬ p = q) (x y : Value) : FRow ((w.setCell ⟨q, 0, none⟩ x).setCell ⟨q, 1, none⟩ y) p x0 x1 x2 x3 :=
 World.rowIs.setOther (World.rowIs.setOther h hne x) hne y
set_option maxRecDepth 100000 in
set_option maxHeartbeats 4000000 in
theorem Lowest_pos (m n : Bool) (aoa aob : Option Addr) (ka ca kb cb : Nat) (X Y : Int) (w : World) (ha : D.NIs w m (.slice aoa ka ca) X) (hb : D.NIs w n (.slice aob kb cb) Y) (hla : ka ≤ 1000) (hlb : kb ≤ 1000) (hy : 0 < Y) :
  Calls Tryz.prog 76 #[.agg #[.bool m, .slice aoa ka ca], .agg #[.bool n, .slice aob kb cb]] w fun e w' => Kept w w' ∧ ∃ v N D, e = .returned v ∧ FIs w' v N D ka kb ∧ Low X Y N D := by
 have HA : Hid (D.NIs w m (.slice aoa ka ca) X ∧ D.NIs w n (.slice aob kb cb) Y) := ⟨ha, hb⟩
 have HL : Hid (ka ≤ 1000 ∧ kb ≤ 1000) := ⟨hla, hlb⟩
 have HY := hid' hy
 clear ha hb hla hlb hy
 go_enter Tryz.func76, Tryz.ntmps76
 go_upto_region 1 with fail
 have h2 := ((NRow.alloc w (.bool m) (.slice aoa ka ca)).kept (((Kept.refl _).alloc (.cells #[.bool n, .slice aob kb cb] 70)).alloc (.cells #[.bool false, .slice none 0 0, .bool false, .slice none 0 0] 93)))
 have h3 := ((NRow.alloc (w.alloc (.cells #[.bool m, .slice aoa ka ca] 70)) (.bool n) (.slice aob kb cb)).kept ((Kept.refl _).alloc (.cells #[.bool false, .slice none 0 0, .bool false, .slice none 0 0] 93)))
 have h4 := FRow.alloc ((w.alloc (.cells #[.bool m, .slice aoa ka ca] 70)).alloc (.cells #[.bool n, .slice aob kb cb] 70)) (.bool false) (.slice none 0 0) (.bool false) (.slice none 0 0)
 have hK := ((((Kept.refl w).alloc (.cells #[.bool m, .slice aoa ka ca] 70)).alloc (.cells #[.bool n, .slice aob kb cb] 70)).alloc (.cells #[.bool false, .slice none 0 0, .bool false, .slice none 0 0] 93))
 simp only [World.size_alloc] at h3 h4
 generalize ((w.alloc (.cells #[.bool m, .slice aoa ka ca] 70)).alloc (.cells #[.bool n, .slice aob kb cb] 70)).alloc (.cells #[.bool false, .slice none 0 0, .bool false, .slice none 0 0] 93) = W at h2 h3 h4 hK ⊢
 obtain ⟨p4, hp4⟩ : ∃ p, p = w.heap.size + 1 + 1 := ⟨_, rfl⟩
 rw [← hp4] at h4 ⊢
 obtain ⟨p3, hp3⟩ : ∃ p, p = w.heap.size + 1 := ⟨_, rfl⟩
 rw [← hp3] at h3 ⊢
 obtain ⟨p2, hp2⟩ : ∃ p, p = w.heap.size := ⟨_, rfl⟩
 rw [← hp2] at h2 ⊢
 have HP : Hid (w.heap.size ≤ p2 ∧ w.heap.size ≤ p3 ∧ w.heap.size ≤ p4) := ⟨by omega, by omega, by omega⟩
 have n23 : ¬ p2 = p3 := by omega
 have n32 : ¬ p3 = p2 := by omega
 have n42 : ¬ p4 = p2 := by omega
 have n43 : ¬ p4 = p3 := by omega
 have n24 : ¬ p2 = p4 := by omega
 have n34 : ¬ p3 = p4 := by omega
 have HK := hid' hK
 have H2 := hid' h2
 have H3 := hid' h3
 have H4 := hid' h4
 clear hp2 hp3 hp4 h2 h3 h4 hK
 have f0 := H3.out.c0
 have f1 := H3.out.c1
 go_wp2_with fail
 refine (D.Sign_any n aob kb cb Y _ (HA.out.2.kept HK.out) (by have := HL.out; omega)).mono ?_
 rw [show isgn Y 0 = 1 by unfold isgn; rw [if_neg (by have := HY.out; omega), if_neg (by have := HY.out; omega)]]
 rintro e w1 ⟨rfl, hk⟩
 have HK := hid' (HK.out.trans hk)
 have H2 := hid' (H2.out.kept hk)
 have H3 := hid' (H3.out.kept hk)
 have H4 := hid' (H4.out.kept hk)
 clear hk f0 f1
 have HC : Hid (Kept w w1 ∧ NRow w1 p2 (.bool m) (.slice aoa ka ca) ∧ NRow w1 p3 (.bool n) (.slice aob kb cb) ∧ FRow w1 p4 (.bool false) (.slice none 0 0) (.bool false) (.slice none 0 0) ∧ ∃ X' Y' : Int, D.NIs w1 m (.slice aoa ka ca) X' ∧ D.NIs w1 n (.slice aob kb cb) Y' ∧ ka ≤ ka ∧ kb ≤ kb ∧ 0 < Y' ∧ (X' = X ∧ Y' = Y ∨ X' = -X ∧ Y' = -Y)) := ⟨HK.out, H2.out, H3.out, H4.out, X, Y, HA.out.1.kept HK.out, HA.out.2.kept HK.out, Nat.le_refl _, Nat.le_refl _, HY.out, .inl ⟨rfl, rfl⟩⟩
 obtain ⟨hK, h2, h3, h4, X', Y', hn, hd, hk1, hk2, hpos, hXY⟩ := HC.out
 have HK := hid' hK
 have H2 := hid' h2
 have H3 := hid' h3
 have H4 := hid' h4
 have HN := hid' (And.intro hn (And.intro hd (And.intro hk1 hk2)))
 have HLow : Hid (Low X Y (Int.tdiv X' ((Nat.gcd X'.natAbs Y'.natAbs : Nat) : Int)) (Int.tdiv Y' ((Nat.gcd X'.natAbs Y'.natAbs : Nat) : Int))) := by
  have h := low_of (X := X') hpos
  rcases hXY with ⟨rfl, rfl⟩ | ⟨rfl, rfl⟩
  ·
   exact h
  ·
   exact h.neg
 have HG0 : Hid (((Nat.gcd X'.natAbs Y'.natAbs : Nat) : Int) ≠ 0) := by
  have := Nat.gcd_pos_of_pos_right (X'.natAbs) (show 0 < Y'.natAbs by omega)
  show _ ≠ _; omega
 clear hK h2 h3 h4 hn hd hk1 hk2 hpos hXY HC
 have f0 := H2.out.c0
 have f1 := H2.out.c1
 have f2 := H3.out.c0
 have f3 := H3.out.c1
 go_wp2_with fail
 refine (D.Common_any m n aoa aob ka kb ca cb X' Y' _ (HN.out.1.kept (Kept.refl w1)) (HN.out.2.1.kept (Kept.refl w1)) (by have h1 := HL.out; have h2 := HN.out.2.2; omega) (by have h1 := HL.out; have h2 := HN.out.2.2; omega)).mono ?_
 rintro e w3 ⟨hk, ag, kg, cg, rfl, ng, lg⟩
 clear f0 f1 f2 f3
 have H2 := hid' (H2.out.kept ((Kept.refl w1).trans hk))
 have H3 := hid' (H3.out.kept ((Kept.refl w1).trans hk))
 have H4 := hid' (H4.out.kept ((Kept.refl w1).trans hk))
 have HK := hid' (HK.out.trans ((Kept.refl w1).trans hk))
 have HN := hid' (And.intro (HN.out.1.kept ((Kept.refl w1).trans hk)) (And.intro (HN.out.2.1.kept ((Kept.refl w1).trans hk)) HN.out.2.2))
 have HG := hid' (And.intro ng lg)
 clear ng lg
 clear hk
 have f4 := fun x0 => (H2.out.kept ((Kept.refl w3).alloc x0)).c0
 have f5 := fun x0 => (H2.out.kept ((Kept.refl w3).alloc x0)).c1
 have f6 := fun x0 => (H3.out.kept ((Kept.refl w3).alloc x0)).c0
 have f7 := fun x0 => (H3.out.kept ((Kept.refl w3).alloc x0)).c1
 go_wp2_with fail
 refine (D.Divide_any m false aoa ag ka kg ca cg X' _ _ (HN.out.1.kept ((Kept.refl w3).alloc _)) (HG.out.1.kept ((Kept.refl w3).alloc _)) (by have h1 := HL.out; have h2 := HN.out.2.2; omega) (by have h1 := HL.out; have h2 := HN.out.2.2; have h3 := HG.out.2; omega) HG0.out).mono ?_
 rintro e w4 ⟨hk, sq, aq, kq, cq, tq, ar, kr, cr, rfl, nq, nr, lq, lr⟩
 clear f4 f5 f6 f7
 have H5' := (NRow.alloc w3 (.bool false) (.slice ag kg cg)).kept ((Kept.refl _).trans hk)
 have H5 := hid' H5'
 clear H5'
 have H2 := hid' (H2.out.kept (((Kept.refl w3).alloc _).trans hk))
 have H3 := hid' (H3.out.kept (((Kept.refl w3).alloc _).trans hk))
 have H4 := hid' (H4.out.kept (((Kept.refl w3).alloc _).trans hk))
 have HK := hid' (HK.out.trans (((Kept.refl w3).alloc _).trans hk))
 have HN := hid' (And.intro (HN.out.1.kept (((Kept.refl w3).alloc _).trans hk)) (And.intro (HN.out.2.1.kept (((Kept.refl w3).alloc _).trans hk)) HN.out.2.2))
 have HG := hid' (And.intro (HG.out.1.kept (((Kept.refl w3).alloc _).trans hk)) HG.out.2)
 have HQ := hid' (And.intro nq lq)
 clear nq nr lq lr
 clear hk
 have f8 := fun x0 x1 => (H3.out.kept (((Kept.refl w4).alloc x0).alloc x1)).c0
 have f9 := fun x0 x1 => (H3.out.kept (((Kept.refl w4).alloc x0).alloc x1)).c1
 have f10 := fun x0 x1 => (H5.out.kept (((Kept.refl w4).alloc x0).alloc x1)).c0
 have f11 := fun x0 x1 => (H5.out.kept (((Kept.refl w4).alloc x0).alloc x1)).c1
 go_wp2_with fail
 refine (D.Divide_any n false aob ag kb kg cb cg Y' _ _ (HN.out.2.1.kept (((Kept.refl w4).alloc _).alloc _)) (HG.out.1.kept (((Kept.refl w4).alloc _).alloc _)) (by have h1 := HL.out; have h2 := HN.out.2.2; omega) (by have h1 := HL.out; have h2 := HN.out.2.2; have h3 := HG.out.2; omega) HG0.out).mono ?_
 rintro e w5 ⟨hk, sd, a8, kd, cd, td, a9, ke, ce, rfl, nd, ne, ld, le⟩
 clear f8 f9 f10 f11
 have H6' := (NRow.alloc w4 (.bool sq) (.slice aq kq cq)).kept (((Kept.refl _).alloc _).trans hk)
 have H6 := hid' H6'
 clear H6'
 have H7' := (NRow.alloc (w4.alloc (.cells #[.bool sq, .slice aq kq cq] 70)) (.bool tq) (.slice ar kr cr)).kept ((Kept.refl _).trans hk)
 simp only [World.size_alloc] at H7'
 have H7 := hid' H7'
 clear H7'
 have H2 := hid' (H2.out.kept ((((Kept.refl w4).alloc _).alloc _).trans hk))
 have H3 := hid' (H3.out.kept ((((Kept.refl w4).alloc _).alloc _).trans hk))
 have H4 := hid' (H4.out.kept ((((Kept.refl w4).alloc _).alloc _).trans hk))
 have H5 := hid' (H5.out.kept ((((Kept.refl w4).alloc _).alloc _).trans hk))
 have HK := hid' (HK.out.trans ((((Kept.refl w4).alloc _).alloc _).trans hk))
 have HN := hid' (And.intro (HN.out.1.kept ((((Kept.refl w4).alloc _).alloc _).trans hk)) (And.intro (HN.out.2.1.kept ((((Kept.refl w4).alloc _).alloc _).trans hk)) HN.out.2.2))
 have HG := hid' (And.intro (HG.out.1.kept ((((Kept.refl w4).alloc _).alloc _).trans hk)) HG.out.2)
 have HQ := hid' (And.intro (HQ.out.1.kept ((((Kept.refl w4).alloc _).alloc _).trans hk)) HQ.out.2)
 have HD := hid' (And.intro nd ld)
 clear nd ne ld le
 clear hk
 have f0 := fun x y => (H6.out.kept (((Kept.refl w5).alloc x).alloc y)).c0
 have f1 := fun x y => (H6.out.kept (((Kept.refl w5).alloc x).alloc y)).c1
 go_upto_region 6 with fail
 have hk := ((Kept.refl w5).alloc (.cells #[.bool sd, .slice a8 kd cd] 70)).alloc (.cells #[.bool td, .slice a9 ke ce] 70)
 have h89 := NRow.alloc2 w5 (.bool sd) (.slice a8 kd cd) (.bool td) (.slice a9 ke ce)
 generalize (w5.alloc (.cells #[.bool sd, .slice a8 kd cd] 70)).alloc (.cells #[.bool td, .slice a9 ke ce] 70) = W6 at hk h89 ⊢
 obtain ⟨p8, hp8⟩ : ∃ p, p = w5.heap.size := ⟨_, rfl⟩
 rw [← hp8] at h89 ⊢
 have h8 := h89.1
 have H4 := hid' (H4.out.kept hk)
 have H6 := hid' (H6.out.kept hk)
 have HK := hid' (HK.out.trans hk)
 have HQ := hid' (And.intro (HQ.out.1.kept hk) HQ.out.2)
 have HD := hid' (And.intro (HD.out.1.kept hk) HD.out.2)
 have q0 := H6.out.c0
 have q1 := H6.out.c1
 have q2 := h8.c0
 have q3 := h8.c1
 have e0 := H4.out.c0
 have e1 := H4.out.c1
 have e2 := H4.out.c2
 have e3 := H4.out.c3
 have g0 := H4.out.fz 0
 have g1 := H4.out.fz 1
 have g2 := H4.out.fz 2
 have g3 := H4.out.fz 3
 clear hk h89 h8 hp8 f0 f1
 go_wp2
 refine bodyPost_ret (v := .agg #[.bool sq, .slice aq kq cq, .bool sd, .slice a8 kd cd]) (by simp [results, Tryz.results76, go_sem, e0, e1, e2, e3]) rfl ⟨Kept.put4 HK.out HP.out.2.2 _ _ _ _, _, _, _, rfl, ⟨sq, aq, kq, cq, sd, a8, kd, cd, rfl, nset4 HQ.out.1 H4.out, nset4 HD.out.1 H4.out, by have h1 := HQ.out.2; have h2 := HN.out.2.2; omega, by have h1 := HD.out.2; have h2 := HN.out.2.2; omega⟩, HLow.out⟩
set_option maxRecDepth 100000 in
set_option maxHeartbeats 4000000 in
theorem Lowest_neg (m n : Bool) (aoa aob : Option Addr) (ka ca kb cb : Nat) (X Y : Int) (w : World) (ha : D.NIs w m (.slice aoa ka ca) X) (hb : D.NIs w n (.slice aob kb cb) Y) (hla : ka ≤ 1000) (hlb : kb ≤ 1000) (hy : Y < 0) :
  Calls Tryz.prog 76 #[.agg #[.bool m, .slice aoa ka ca], .agg #[.bool n, .slice aob kb cb]] w fun e w' => Kept w w' ∧ ∃ v N D, e = .returned v ∧ FIs w' v N D ka kb ∧ Low X Y N D := by
 have HA : Hid (D.NIs w m (.slice aoa ka ca) X ∧ D.NIs w n (.slice aob kb cb) Y) := ⟨ha, hb⟩
 have HL : Hid (ka ≤ 1000 ∧ kb ≤ 1000) := ⟨hla, hlb⟩
 have HY := hid' hy
 clear ha hb hla hlb hy
 go_enter Tryz.func76, Tryz.ntmps76
 go_upto_region 1 with fail
 have h2 := ((NRow.alloc w (.bool m) (.slice aoa ka ca)).kept (((Kept.refl _).alloc (.cells #[.bool n, .slice aob kb cb] 70)).alloc (.cells #[.bool false, .slice none 0 0, .bool false, .slice none 0 0] 93)))
 have h3 := ((NRow.alloc (w.alloc (.cells #[.bool m, .slice aoa ka ca] 70)) (.bool n) (.slice aob kb cb)).kept ((Kept.refl _).alloc (.cells #[.bool false, .slice none 0 0, .bool false, .slice none 0 0] 93)))
 have h4 := FRow.alloc ((w.alloc (.cells #[.bool m, .slice aoa ka ca] 70)).alloc (.cells #[.bool n, .slice aob kb cb] 70)) (.bool false) (.slice none 0 0) (.bool false) (.slice none 0 0)
 have hK := ((((Kept.refl w).alloc (.cells #[.bool m, .slice aoa ka ca] 70)).alloc (.cells #[.bool n, .slice aob kb cb] 70)).alloc (.cells #[.bool false, .slice none 0 0, .bool false, .slice none 0 0] 93))
 simp only [World.size_alloc] at h3 h4
 generalize ((w.alloc (.cells #[.bool m, .slice aoa ka ca] 70)).alloc (.cells #[.bool n, .slice aob kb cb] 70)).alloc (.cells #[.bool false, .slice none 0 0, .bool false, .slice none 0 0] 93) = W at h2 h3 h4 hK ⊢
 obtain ⟨p4, hp4⟩ : ∃ p, p = w.heap.size + 1 + 1 := ⟨_, rfl⟩
 rw [← hp4] at h4 ⊢
 obtain ⟨p3, hp3⟩ : ∃ p, p = w.heap.size + 1 := ⟨_, rfl⟩
 rw [← hp3] at h3 ⊢
 obtain ⟨p2, hp2⟩ : ∃ p, p = w.heap.size := ⟨_, rfl⟩
 rw [← hp2] at h2 ⊢
 have HP : Hid (w.heap.size ≤ p2 ∧ w.heap.size ≤ p3 ∧ w.heap.size ≤ p4) := ⟨by omega, by omega, by omega⟩
 have n23 : ¬ p2 = p3 := by omega
 have n32 : ¬ p3 = p2 := by omega
 have n42 : ¬ p4 = p2 := by omega
 have n43 : ¬ p4 = p3 := by omega
 have n24 : ¬ p2 = p4 := by omega
 have n34 : ¬ p3 = p4 := by omega
 have HK := hid' hK
 have H2 := hid' h2
 have H3 := hid' h3
 have H4 := hid' h4
 clear hp2 hp3 hp4 h2 h3 h4 hK
 have f0 := H3.out.c0
 have f1 := H3.out.c1
 go_wp2_with fail
 refine (D.Sign_any n aob kb cb Y _ (HA.out.2.kept HK.out) (by have := HL.out; omega)).mono ?_
 rw [show isgn Y 0 = -1 by unfold isgn; rw [if_pos HY.out]]
 rintro e w1 ⟨rfl, hk⟩
 have HK := hid' (HK.out.trans hk)
 have H2 := hid' (H2.out.kept hk)
 have H3 := hid' (H3.out.kept hk)
 have H4 := hid' (H4.out.kept hk)
 clear hk f0 f1
 go_upto_region 2 with fail
 go_cut [2] (fun s2 wc => s2 = .pointer (some ⟨p2, 0, none⟩) ∧ ∃ (s t : Bool) (ao ap : Option Addr) (k c k' c' : Nat), Hid (Kept w wc ∧ NRow wc p2 (.bool s) (.slice ao k c) ∧ NRow wc p3 (.bool t) (.slice ap k' c') ∧ FRow wc p4 (.bool false) (.slice none 0 0) (.bool false) (.slice none 0 0) ∧ ∃ X' Y' : Int, D.NIs wc s (.slice ao k c) X' ∧ D.NIs wc t (.slice ap k' c') Y' ∧ k ≤ ka ∧ k' ≤ kb ∧ 0 < Y' ∧ (X' = X ∧ Y' = Y ∨ X' = -X ∧ Y' = -Y)))
 case first =>
  have HV : Hid (∀ V, Kept w1 V → (V.cell? ⟨p2, 0, none⟩ = some (.bool m) ∧ V.cell? ⟨p2, 1, none⟩ = some (.slice aoa ka ca)) ∧ (V.cell? ⟨p3, 0, none⟩ = some (.bool n) ∧ V.cell? ⟨p3, 1, none⟩ = some (.slice aob kb cb))) := fun V hV => ⟨⟨(H2.out.kept hV).c0, (H2.out.kept hV).c1⟩, (H3.out.kept hV).c0, (H3.out.kept hV).c1⟩
  obtain ⟨⟨q0, q1⟩, q2, q3⟩ := HV.out _ (Kept.refl w1)
  go_region_with (first
   | (go_at_call_of 111 (Value.slice aoa ka ca); refine (D.Minus_any m aoa ka ca X _ (HA.out.1.kept (HK.out.trans (Kept.refl _).drew)) (by have := HL.out; omega)).mono ?_; rintro e w3 ⟨hk3, s3, a3, c3, rfl, n3⟩; obtain ⟨⟨d0, d1⟩, d2, d3⟩ := HV.out _ ((Kept.refl _).drew.trans hk3))
   | (go_at_call_of 111 (Value.slice aob kb cb); refine (D.Minus_any n aob kb cb Y _ (HA.out.2.kept (HK.out.trans ((Kept.refl _).drew.trans hk3))) (by have := HL.out; omega)).mono ?_; rintro e w4 ⟨hk4, s4, a4, c4, rfl, n4⟩; have hk5 := ((Kept.refl w1).drew.trans hk3).trans hk4; have h2' := H2.out.kept hk5; have h3' := H3.out.kept hk5; have g0 := h2'.c0; have g1 := h2'.c1; have g2 := h2'.fz 0; have g3 := h2'.fz 1; have g4 := h3'.c0; have g5 := h3'.c1; have g6 := h3'.fz 0; have g7 := h3'.fz 1))
  all_goals
   have HN4 := hid' (And.intro (n3.kept hk4) n4)
   have HB := hid' (And.intro hk5 (And.intro (H2.out.kept hk5) (And.intro (H3.out.kept hk5) (H4.out.kept hk5))))
   clear q0 q1 q2 q3 d0 d1 d2 d3 g0 g1 g2 g3 g4 g5 g6 g7 h2' h3' hk3 hk4 hk5 n3 n4 HV
   go_wp2_with fail
   go_meet
   case rel => exact ⟨rfl, s3, s4, a3, a4, ka, c3, kb, c4, ((((HK.out.trans HB.out.1).setCell (p := ⟨p2, 0, none⟩) HP.out.1 _).setCell (p := ⟨p2, 1, none⟩) HP.out.1 _).setCell (p := ⟨p3, 0, none⟩) HP.out.2.1 _).setCell (p := ⟨p3, 1, none⟩) HP.out.2.1 _, (HB.out.2.1.set2 _ _).far n23 _ _, (HB.out.2.2.1.far n32 _ _).set2 _ _, FRow.far (FRow.far HB.out.2.2.2 n42 _ _) n43 _ _, -X, -Y, D.NIs.box2 (D.NIs.box2 HN4.out.1 HB.out.2.1.c0 HB.out.2.1.c1 _ _) (HB.out.2.2.1.far n32 _ _).c0 (HB.out.2.2.1.far n32 _ _).c1 _ _, D.NIs.box2 (D.NIs.box2 HN4.out.2 HB.out.2.1.c0 HB.out.2.1.c1 _ _) (HB.out.2.2.1.far n32 _ _).c0 (HB.out.2.2.1.far n32 _ _).c1 _ _, Nat.le_refl _, Nat.le_refl _, by have := HY.out; omega, .inr ⟨rfl, rfl⟩⟩
 case rest =>
  obtain ⟨rfl, s, t, ao, ap, k, c, k', c', HC⟩ := hcut
  obtain ⟨hK, h2, h3, h4, X', Y', hn, hd, hk1, hk2, hpos, hXY⟩ := HC.out
  have HK := hid' hK
  have H2 := hid' h2
  have H3 := hid' h3
  have H4 := hid' h4
  have HN := hid' (And.intro hn (And.intro hd (And.intro hk1 hk2)))
  have HLow : Hid (Low X Y (Int.tdiv X' ((Nat.gcd X'.natAbs Y'.natAbs : Nat) : Int)) (Int.tdiv Y' ((Nat.gcd X'.natAbs Y'.natAbs : Nat) : Int))) := by
   have h := low_of (X := X') hpos
   rcases hXY with ⟨rfl, rfl⟩ | ⟨rfl, rfl⟩
   ·
    exact h
   ·
    exact h.neg
  have HG0 : Hid (((Nat.gcd X'.natAbs Y'.natAbs : Nat) : Int) ≠ 0) := by
   have := Nat.gcd_pos_of_pos_right (X'.natAbs) (show 0 < Y'.natAbs by omega)
   show _ ≠ _; omega
  clear hK h2 h3 h4 hn hd hk1 hk2 hpos hXY HC
  have f0 := H2.out.c0
  have f1 := H2.out.c1
  have f2 := H3.out.c0
  have f3 := H3.out.c1
  go_wp2_with fail
  refine (D.Common_any s t ao ap k k' c c' X' Y' _ (HN.out.1.kept (Kept.refl wc)) (HN.out.2.1.kept (Kept.refl wc)) (by have h1 := HL.out; have h2 := HN.out.2.2; omega) (by have h1 := HL.out; have h2 := HN.out.2.2; omega)).mono ?_
  rintro e w3 ⟨hk, ag, kg, cg, rfl, ng, lg⟩
  clear f0 f1 f2 f3
  have H2 := hid' (H2.out.kept ((Kept.refl wc).trans hk))
  have H3 := hid' (H3.out.kept ((Kept.refl wc).trans hk))
  have H4 := hid' (H4.out.kept ((Kept.refl wc).trans hk))
  have HK := hid' (HK.out.trans ((Kept.refl wc).trans hk))
  have HN := hid' (And.intro (HN.out.1.kept ((Kept.refl wc).trans hk)) (And.intro (HN.out.2.1.kept ((Kept.refl wc).trans hk)) HN.out.2.2))
  have HG := hid' (And.intro ng lg)
  clear ng lg
  clear hk
  have f4 := fun x0 => (H2.out.kept ((Kept.refl w3).alloc x0)).c0
  have f5 := fun x0 => (H2.out.kept ((Kept.refl w3).alloc x0)).c1
  have f6 := fun x0 => (H3.out.kept ((Kept.refl w3).alloc x0)).c0
  have f7 := fun x0 => (H3.out.kept ((Kept.refl w3).alloc x0)).c1
  go_wp2_with fail
  refine (D.Divide_any s false ao ag k kg c cg X' _ _ (HN.out.1.kept ((Kept.refl w3).alloc _)) (HG.out.1.kept ((Kept.refl w3).alloc _)) (by have h1 := HL.out; have h2 := HN.out.2.2; omega) (by have h1 := HL.out; have h2 := HN.out.2.2; have h3 := HG.out.2; omega) HG0.out).mono ?_
  rintro e w4 ⟨hk, sq, aq, kq, cq, tq, ar, kr, cr, rfl, nq, nr, lq, lr⟩
  clear f4 f5 f6 f7
  have H5' := (NRow.alloc w3 (.bool false) (.slice ag kg cg)).kept ((Kept.refl _).trans hk)
  have H5 := hid' H5'
  clear H5'
  have H2 := hid' (H2.out.kept (((Kept.refl w3).alloc _).trans hk))
  have H3 := hid' (H3.out.kept (((Kept.refl w3).alloc _).trans hk))
  have H4 := hid' (H4.out.kept (((Kept.refl w3).alloc _).trans hk))
  have HK := hid' (HK.out.trans (((Kept.refl w3).alloc _).trans hk))
  have HN := hid' (And.intro (HN.out.1.kept (((Kept.refl w3).alloc _).trans hk)) (And.intro (HN.out.2.1.kept (((Kept.refl w3).alloc _).trans hk)) HN.out.2.2))
  have HG := hid' (And.intro (HG.out.1.kept (((Kept.refl w3).alloc _).trans hk)) HG.out.2)
  have HQ := hid' (And.intro nq lq)
  clear nq nr lq lr
  clear hk
  have f8 := fun x0 x1 => (H3.out.kept (((Kept.refl w4).alloc x0).alloc x1)).c0
  have f9 := fun x0 x1 => (H3.out.kept (((Kept.refl w4).alloc x0).alloc x1)).c1
  have f10 := fun x0 x1 => (H5.out.kept (((Kept.refl w4).alloc x0).alloc x1)).c0
  have f11 := fun x0 x1 => (H5.out.kept (((Kept.refl w4).alloc x0).alloc x1)).c1
  go_wp2_with fail
  refine (D.Divide_any t false ap ag k' kg c' cg Y' _ _ (HN.out.2.1.kept (((Kept.refl w4).alloc _).alloc _)) (HG.out.1.kept (((Kept.refl w4).alloc _).alloc _)) (by have h1 := HL.out; have h2 := HN.out.2.2; omega) (by have h1 := HL.out; have h2 := HN.out.2.2; have h3 := HG.out.2; omega) HG0.out).mono ?_
  rintro e w5 ⟨hk, sd, a8, kd, cd, td, a9, ke, ce, rfl, nd, ne, ld, le⟩
  clear f8 f9 f10 f11
  have H6' := (NRow.alloc w4 (.bool sq) (.slice aq kq cq)).kept (((Kept.refl _).alloc _).trans hk)
  have H6 := hid' H6'
  clear H6'
  have H7' := (NRow.alloc (w4.alloc (.cells #[.bool sq, .slice aq kq cq] 70)) (.bool tq) (.slice ar kr cr)).kept ((Kept.refl _).trans hk)
  simp only [World.size_alloc] at H7'
  have H7 := hid' H7'
  clear H7'
  have H2 := hid' (H2.out.kept ((((Kept.refl w4).alloc _).alloc _).trans hk))
  have H3 := hid' (H3.out.kept ((((Kept.refl w4).alloc _).alloc _).trans hk))
  have H4 := hid' (H4.out.kept ((((Kept.refl w4).alloc _).alloc _).trans hk))
  have H5 := hid' (H5.out.kept ((((Kept.refl w4).alloc _).alloc _).trans hk))
  have HK := hid' (HK.out.trans ((((Kept.refl w4).alloc _).alloc _).trans hk))
  have HN := hid' (And.intro (HN.out.1.kept ((((Kept.refl w4).alloc _).alloc _).trans hk)) (And.intro (HN.out.2.1.kept ((((Kept.refl w4).alloc _).alloc _).trans hk)) HN.out.2.2))
  have HG := hid' (And.intro (HG.out.1.kept ((((Kept.refl w4).alloc _).alloc _).trans hk)) HG.out.2)
  have HQ := hid' (And.intro (HQ.out.1.kept ((((Kept.refl w4).alloc _).alloc _).trans hk)) HQ.out.2)
  have HD := hid' (And.intro nd ld)
  clear nd ne ld le
  clear hk
  have f0 := fun x y => (H6.out.kept (((Kept.refl w5).alloc x).alloc y)).c0
  have f1 := fun x y => (H6.out.kept (((Kept.refl w5).alloc x).alloc y)).c1
  go_upto_region 6 with fail
  have hk := ((Kept.refl w5).alloc (.cells #[.bool sd, .slice a8 kd cd] 70)).alloc (.cells #[.bool td, .slice a9 ke ce] 70)
  have h89 := NRow.alloc2 w5 (.bool sd) (.slice a8 kd cd) (.bool td) (.slice a9 ke ce)
  generalize (w5.alloc (.cells #[.bool sd, .slice a8 kd cd] 70)).alloc (.cells #[.bool td, .slice a9 ke ce] 70) = W6 at hk h89 ⊢
  obtain ⟨p8, hp8⟩ : ∃ p, p = w5.heap.size := ⟨_, rfl⟩
  rw [← hp8] at h89 ⊢
  have h8 := h89.1
  have H4 := hid' (H4.out.kept hk)
  have H6 := hid' (H6.out.kept hk)
  have HK := hid' (HK.out.trans hk)
  have HQ := hid' (And.intro (HQ.out.1.kept hk) HQ.out.2)
  have HD := hid' (And.intro (HD.out.1.kept hk) HD.out.2)
  have q0 := H6.out.c0
  have q1 := H6.out.c1
  have q2 := h8.c0
  have q3 := h8.c1
  have e0 := H4.out.c0
  have e1 := H4.out.c1
  have e2 := H4.out.c2
  have e3 := H4.out.c3
  have g0 := H4.out.fz 0
  have g1 := H4.out.fz 1
  have g2 := H4.out.fz 2
  have g3 := H4.out.fz 3
  clear hk h89 h8 hp8 f0 f1
  go_wp2
  refine bodyPost_ret (v := .agg #[.bool sq, .slice aq kq cq, .bool sd, .slice a8 kd cd]) (by simp [results, Tryz.results76, go_sem, e0, e1, e2, e3]) rfl ⟨Kept.put4 HK.out HP.out.2.2 _ _ _ _, _, _, _, rfl, ⟨sq, aq, kq, cq, sd, a8, kd, cd, rfl, nset4 HQ.out.1 H4.out, nset4 HD.out.1 H4.out, by have h1 := HQ.out.2; have h2 := HN.out.2.2; omega, by have h1 := HD.out.2; have h2 := HN.out.2.2; omega⟩, HLow.out⟩
theorem Lowest_any (m n : Bool) (aoa aob : Option Addr) (ka ca kb cb : Nat) (X Y : Int) (w : World) (ha : D.NIs w m (.slice aoa ka ca) X) (hb : D.NIs w n (.slice aob kb cb) Y) (hla : ka ≤ 1000) (hlb : kb ≤ 1000) (hy : Y ≠ 0) :
  Calls Tryz.prog 76 #[.agg #[.bool m, .slice aoa ka ca], .agg #[.bool n, .slice aob kb cb]] w fun e w' => Kept w w' ∧ ∃ v N D, e = .returned v ∧ FIs w' v N D ka kb ∧ Low X Y N D := by
 rcases Int.lt_or_gt_of_ne hy with h | h
 ·
  exact Lowest_neg m n aoa aob ka ca kb cb X Y w ha hb hla hlb h
 ·
  exact Lowest_pos m n aoa aob ka ca kb cb X Y w ha hb hla hlb h
end F
end Go.Proofs.YtboliplhgpndpaaGreatDoor
