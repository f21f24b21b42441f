/- shuntref03.Of. shuntref02.Of, shuntref03.Billion. shuntref03: Value, Grid, Cmp. -/
import Derived.Test.YtboliplhgpndpaaGreatDoorGau
import Derived.Test.YtboliplhgpndpaaGreatDoorGat
import Derived.Test.YtboliplhgpndpaaGreatDoorGav
import Derived.Test.YtboliplhgpndpaaGreatDoorGend
import Derived.Test.YtboliplhgpndpaaGreatDoorGah
namespace Go.Proofs.YtboliplhgpndpaaGreatDoor
open Go.RowKit
namespace Q
def FE (w : World) (e : Ending) (m x : Int) : Prop := ∃ (v : Value) (N : Int) (D : Nat), e = .returned v ∧ F.FIs w v N (D : Int) 110 110 ∧ Scl m x N D
theorem rpower_int (z : Int) (h0 : 0 ≤ z) (h1 : z ≤ 100) (w : World) : Calls Tryz.prog 77 #[.int .i64 z] w fun e w' => Kept w w' ∧ ∃ s ao k cap, e = .returned (.agg #[.bool s, .slice ao k cap]) ∧ D.NIs w' s (.slice ao k cap) (pw z.toNat) ∧ k ≤ 101 := by
 obtain ⟨n, rfl⟩ := Int.eq_ofNat_of_zero_le h0
 refine (rpower_any n (by omega) w).mono ?_
 rintro e w' ⟨hk, s, ao, k, cap, rfl, hn, hl⟩
 exact ⟨hk, s, ao, k, cap, rfl, hn, by omega⟩
theorem scl_low {m x N D : Int} (hx : x < 0) (h : F.Low m (pw (-x).toNat) N D) : Scl m x N D.toNat := by
 refine ⟨by have := h.pos; omega, ?_, ?_⟩
 ·
  show Nat.gcd _ _ = 1
  rw [show D.toNat = D.natAbs by have := h.pos; omega]
  exact h.low
 ·
  rw [show x.toNat = 0 by omega, show ((D.toNat : Nat) : Int) = D by have := h.pos; omega]
  have := h.eq
  unfold pw at this
  rw [this]
  simp
theorem scl_whole {m x : Int} (hx : 0 ≤ x) : Scl m x (m * pw x.toNat) 1 := by
 refine ⟨by decide, by show Nat.gcd _ _ = 1; simp, ?_⟩
 rw [show (-x).toNat = 0 by omega]
 unfold pw
 simp
set_option maxRecDepth 100000 in
set_option maxHeartbeats 8000000 in
theorem of_neg (m x : Int) (h1 : -9223372036854775808 ≤ m) (h2 : m ≤ 9223372036854775807) (hx : x < 0) (hx1 : -50 ≤ x) (w : World) :
  Calls Tryz.prog 42 #[.agg #[.int .i64 m, .int .i64 x]] w fun e w' => Kept w w' ∧ FE w' e m x := by
 have HM := hid' (And.intro h1 h2)
 clear h1 h2
 have hwr : IntKind.i64.wrap (-x) = -x := wrap_i64' (by omega) (by omega)
 go_enter Tryz.func42, Tryz.ntmps42
 go_upto_region 1 with fail
 have r1 := (Row2.alloc 24 w (.int .i64 m) (.int .i64 x)).kept ((Kept.refl _).alloc (.cells #[.bool false, .slice none 0 0, .bool false, .slice none 0 0] 93))
 have r2 := F.FRow.alloc (w.alloc (.cells #[.int .i64 m, .int .i64 x] 24)) (.bool false) (.slice none 0 0) (.bool false) (.slice none 0 0)
 have hK := ((Kept.refl w).alloc (.cells #[.int .i64 m, .int .i64 x] 24)).alloc (.cells #[.bool false, .slice none 0 0, .bool false, .slice none 0 0] 93)
 simp only [World.size_alloc] at r2
 generalize (w.alloc (.cells #[.int .i64 m, .int .i64 x] 24)).alloc (.cells #[.bool false, .slice none 0 0, .bool false, .slice none 0 0] 93) = W at r1 r2 hK ⊢
 obtain ⟨p2, hp2⟩ : ∃ p, p = w.heap.size + 1 := ⟨_, rfl⟩
 rw [← hp2] at r2 ⊢
 obtain ⟨p1, hp1⟩ : ∃ p, p = w.heap.size := ⟨_, rfl⟩
 rw [← hp1] at r1 ⊢
 have HP : Hid (w.heap.size ≤ p2) := by show _ ≤ _; omega
 have n21 : ¬ p2 = p1 := by omega
 clear hp1 hp2
 have HR := hid' (And.intro r1 (And.intro r2 hK))
 obtain ⟨q0, q1, q2, q3⟩ := r1.all
 clear r1 r2 hK
 go_wp2_with fail
 refine (D.wide_any m _ HM.out.1 HM.out.2).mono ?_
 rintro e w3 ⟨hk3, s3, a3, k3, c3, rfl, n3, l3⟩
 have HL := hid' l3
 have R1 := HR.out.1.kept hk3
 have R2 := HR.out.2.1.kept hk3
 have RK := HR.out.2.2.trans hk3
 have l1 := R1.lt
 have l2 := R2.lt
 clear q0 q1 q2 q3 l3 hk3
 go_upto_region 2 with fail
 have hA : Kept w3 (w3.alloc (.cells #[.bool s3, .slice a3 k3 c3] 70)) := (Kept.refl w3).alloc _
 have r3 := Row2.alloc 70 w3 (.bool s3) (.slice a3 k3 c3)
 have r1 := R1.kept hA
 have r2 := R2.kept hA
 have hK := RK.trans hA
 have n3' := n3.kept hA
 clear R1 R2 RK n3 HR
 generalize w3.alloc (.cells #[.bool s3, .slice a3 k3 c3] 70) = V at r1 r2 r3 hK n3' ⊢
 obtain ⟨p3, hp3⟩ : ∃ p, p = w3.heap.size := ⟨_, rfl⟩
 rw [← hp3] at r3 ⊢
 have n23 : ¬ p2 = p3 := by omega
 have n13 : ¬ p1 = p3 := by omega
 have HV : Hid (∀ U, Kept V U → Row2 24 U p1 (.int .i64 m) (.int .i64 x) ∧ Row2 70 U p3 (.bool s3) (.slice a3 k3 c3) ∧ F.FRow U p2 (.bool false) (.slice none 0 0) (.bool false) (.slice none 0 0) ∧ Kept w U ∧ D.NIs U s3 (.slice a3 k3 c3) m ∧ True) := fun U hU => ⟨r1.kept hU, r3.kept hU, r2.kept hU, hK.trans hU, n3'.kept hU, trivial⟩
 obtain ⟨q0, q1, q2, q3⟩ := r1.all
 obtain ⟨q4, q5, q6, q7⟩ := r3.all
 clear hp3 r1 r2 r3 hK n3' l1 l2 hA q2 q3 q6 q7
 go_upto_region 3 with fail
 go_region_held3 (fun w' => w'.cell? ⟨p1, 0, none⟩ = some (.int .i64 m) ∧ w'.cell? ⟨p1, 1, none⟩ = some (.int .i64 x) ∧ w'.cell? ⟨p3, 0, none⟩ = some (.bool s3) ∧ w'.cell? ⟨p3, 1, none⟩ = some (.slice a3 k3 c3)) (go_keep) (first
  | (go_at_call 77; refine (rpower_int (-x) (by omega) (by omega) _).mono ?_; rintro e w4 ⟨hk4, s4, a4, k4, c4, rfl, n4, l4⟩; have K4 := (Kept.refl V).drew.trans hk4; have H4 := hid' (And.intro n4 l4); clear n4 l4; obtain ⟨d0, d1, _, _⟩ := (HV.out _ K4).1.all; obtain ⟨d2, d3, _, _⟩ := (HV.out _ K4).2.1.all)
  | (go_at_call 76; refine (F.Lowest_any s3 s4 a3 a4 k3 c3 k4 c4 m (pw (-x).toNat) _ (HV.out _ K4).2.2.2.2.1 H4.out.1 (by have := HL.out; omega) (by have := H4.out.2; omega) (by have := pw_pos (-x).toNat; omega)).mono ?_; rintro e w5 ⟨hk5, v5, N5, D5, rfl, hF5, hL5⟩; obtain ⟨s5, a5, k5, c5, t5, a6, k6, c6, rfl, n5, n6, l5, l6⟩ := hF5; have K5 := K4.trans hk5; have H5 := hid' (And.intro n5 (And.intro n6 (And.intro l5 (And.intro l6 hL5)))); clear n5 n6 l5 l6 hL5; obtain ⟨g0, g1, _, _⟩ := (HV.out _ K5).1.all; obtain ⟨g2, g3, _, _⟩ := (HV.out _ K5).2.1.all; have z4 := (HV.out _ K5).2.2.1; have e0 := z4.c0; have e1 := z4.c1; have e2 := z4.c2; have e3 := z4.c3; have y0 := z4.fz 0; have y1 := z4.fz 1; have y2 := z4.fz 2; have y3 := z4.fz 3))
 have HZ := hid' (And.intro z4 (HV.out _ K5).2.2.2.1)
 clear q0 q1 q4 q5 d0 d1 d2 d3 g0 g1 g2 g3 hk4 hk5 K4 K5 HV z4
 go_wp2
 refine bodyPost_ret (v := .agg #[.bool s5, .slice a5 k5 c5, .bool t5, .slice a6 k6 c6]) (by simp [results, Tryz.results42, go_sem, e0, e1, e2, e3]) rfl ⟨F.Kept.put4 HZ.out.2 HP.out _ _ _ _, _, N5, D5.toNat, rfl, ⟨s5, a5, k5, c5, t5, a6, k6, c6, rfl, F.nset4 H5.out.1 HZ.out.1, ?_, by have h1 := H5.out.2.2.1; have h2 := HL.out; omega, by have h1 := H5.out.2.2.2.1; have h2 := H4.out.2; omega⟩, scl_low hx H5.out.2.2.2.2⟩
 rw [show ((D5.toNat : Nat) : Int) = D5 by have := H5.out.2.2.2.2.pos; omega]
 exact F.nset4 H5.out.2.1 HZ.out.1
set_option maxRecDepth 100000 in
set_option maxHeartbeats 8000000 in
theorem of_pos (m x : Int) (h1 : -9223372036854775808 ≤ m) (h2 : m ≤ 9223372036854775807) (hx : ¬ x < 0) (hx1 : x ≤ 50) (w : World) :
  Calls Tryz.prog 42 #[.agg #[.int .i64 m, .int .i64 x]] w fun e w' => Kept w w' ∧ FE w' e m x := by
 have HM := hid' (And.intro h1 h2)
 clear h1 h2
 go_enter Tryz.func42, Tryz.ntmps42
 go_upto_region 1 with fail
 have r1 := (Row2.alloc 24 w (.int .i64 m) (.int .i64 x)).kept ((Kept.refl _).alloc (.cells #[.bool false, .slice none 0 0, .bool false, .slice none 0 0] 93))
 have r2 := F.FRow.alloc (w.alloc (.cells #[.int .i64 m, .int .i64 x] 24)) (.bool false) (.slice none 0 0) (.bool false) (.slice none 0 0)
 have hK := ((Kept.refl w).alloc (.cells #[.int .i64 m, .int .i64 x] 24)).alloc (.cells #[.bool false, .slice none 0 0, .bool false, .slice none 0 0] 93)
 simp only [World.size_alloc] at r2
 generalize (w.alloc (.cells #[.int .i64 m, .int .i64 x] 24)).alloc (.cells #[.bool false, .slice none 0 0, .bool false, .slice none 0 0] 93) = W at r1 r2 hK ⊢
 obtain ⟨p2, hp2⟩ : ∃ p, p = w.heap.size + 1 := ⟨_, rfl⟩
 rw [← hp2] at r2 ⊢
 obtain ⟨p1, hp1⟩ : ∃ p, p = w.heap.size := ⟨_, rfl⟩
 rw [← hp1] at r1 ⊢
 have HP : Hid (w.heap.size ≤ p2) := by show _ ≤ _; omega
 have n21 : ¬ p2 = p1 := by omega
 clear hp1 hp2
 have HR := hid' (And.intro r1 (And.intro r2 hK))
 obtain ⟨q0, q1, q2, q3⟩ := r1.all
 clear r1 r2 hK
 go_wp2_with fail
 refine (D.wide_any m _ HM.out.1 HM.out.2).mono ?_
 rintro e w3 ⟨hk3, s3, a3, k3, c3, rfl, n3, l3⟩
 have HL := hid' l3
 have R1 := HR.out.1.kept hk3
 have R2 := HR.out.2.1.kept hk3
 have RK := HR.out.2.2.trans hk3
 have l1 := R1.lt
 have l2 := R2.lt
 clear q0 q1 q2 q3 l3 hk3
 go_upto_region 2 with fail
 have hA : Kept w3 (w3.alloc (.cells #[.bool s3, .slice a3 k3 c3] 70)) := (Kept.refl w3).alloc _
 have r3 := Row2.alloc 70 w3 (.bool s3) (.slice a3 k3 c3)
 have r1 := R1.kept hA
 have r2 := R2.kept hA
 have hK := RK.trans hA
 have n3' := n3.kept hA
 clear R1 R2 RK n3 HR
 generalize w3.alloc (.cells #[.bool s3, .slice a3 k3 c3] 70) = V at r1 r2 r3 hK n3' ⊢
 obtain ⟨p3, hp3⟩ : ∃ p, p = w3.heap.size := ⟨_, rfl⟩
 rw [← hp3] at r3 ⊢
 have n23 : ¬ p2 = p3 := by omega
 have n13 : ¬ p1 = p3 := by omega
 have HV : Hid (∀ U, Kept V U → Row2 24 U p1 (.int .i64 m) (.int .i64 x) ∧ Row2 70 U p3 (.bool s3) (.slice a3 k3 c3) ∧ F.FRow U p2 (.bool false) (.slice none 0 0) (.bool false) (.slice none 0 0) ∧ Kept w U ∧ D.NIs U s3 (.slice a3 k3 c3) m ∧ True) := fun U hU => ⟨r1.kept hU, r3.kept hU, r2.kept hU, hK.trans hU, n3'.kept hU, trivial⟩
 obtain ⟨q0, q1, q2, q3⟩ := r1.all
 obtain ⟨q4, q5, q6, q7⟩ := r3.all
 clear hp3 r1 r2 r3 hK n3' l1 l2 hA q2 q3 q6 q7
 go_upto_region 4 with fail
 go_region_held3 (fun w' => w'.cell? ⟨p1, 0, none⟩ = some (.int .i64 m) ∧ w'.cell? ⟨p1, 1, none⟩ = some (.int .i64 x) ∧ w'.cell? ⟨p3, 0, none⟩ = some (.bool s3) ∧ w'.cell? ⟨p3, 1, none⟩ = some (.slice a3 k3 c3)) (go_keep) (first
  | (go_at_call 77; refine (rpower_int x (by omega) (by omega) _).mono ?_; rintro e w4 ⟨hk4, s4, a4, k4, c4, rfl, n4, l4⟩; have K4 := (Kept.refl V).drew.trans hk4; have H4 := hid' (And.intro n4 l4); clear n4 l4; obtain ⟨d0, d1, _, _⟩ := (HV.out _ K4).1.all; obtain ⟨d2, d3, _, _⟩ := (HV.out _ K4).2.1.all)
  | (go_at_call 29; refine (D.Times_any s3 s4 a3 a4 k3 k4 c3 c4 m (pw x.toNat) _ (HV.out _ K4).2.2.2.2.1 H4.out.1 (by have := HL.out; omega) (by have := H4.out.2; omega)).mono ?_; rintro e w5 ⟨hk5, s5, a5, k5, c5, rfl, n5, l5⟩; have K5 := K4.trans hk5; have H5 := hid' (And.intro n5 l5); clear n5 l5; obtain ⟨g0, g1, _, _⟩ := (HV.out _ K5).1.all; obtain ⟨g2, g3, _, _⟩ := (HV.out _ K5).2.1.all)
  | (go_at_call 26; refine (D.small_num 1 _ (by omega) (by omega)).mono ?_; rintro e w6 ⟨hk6, a6, k6, c6, rfl, n6, l6⟩; have K6 := K5.trans hk6; have H6 := hid' (And.intro n6 (And.intro l6 (H5.out.1.kept hk6))); clear n6 l6; obtain ⟨j0, j1, _, _⟩ := (HV.out _ K6).1.all; obtain ⟨j2, j3, _, _⟩ := (HV.out _ K6).2.1.all; have z4 := (HV.out _ K6).2.2.1; have e0 := z4.c0; have e1 := z4.c1; have e2 := z4.c2; have e3 := z4.c3; have y0 := z4.fz 0; have y1 := z4.fz 1; have y2 := z4.fz 2; have y3 := z4.fz 3))
 have HZ := hid' (And.intro z4 (HV.out _ K6).2.2.2.1)
 clear q0 q1 q4 q5 d0 d1 d2 d3 g0 g1 g2 g3 j0 j1 j2 j3 hk4 hk5 hk6 K4 K5 K6 HV z4
 go_wp2
 refine bodyPost_ret (v := .agg #[.bool s5, .slice a5 k5 c5, .bool false, .slice a6 k6 c6]) (by simp [results, Tryz.results42, go_sem, e0, e1, e2, e3]) rfl ⟨F.Kept.put4 HZ.out.2 HP.out _ _ _ _, _, m * pw x.toNat, 1, rfl, ⟨s5, a5, k5, c5, false, a6, k6, c6, rfl, F.nset4 H6.out.2.2 HZ.out.1, F.nset4 H6.out.1 HZ.out.1, by have h1 := H5.out.2; have h2 := HL.out; have h3 := H4.out.2; omega, by have h1 := H6.out.2.1; omega⟩, scl_whole (by omega)⟩
theorem of_any (m x : Int) (h1 : -9223372036854775808 ≤ m) (h2 : m ≤ 9223372036854775807) (h3 : -50 ≤ x) (h4 : x ≤ 50) (w : World) :
  Calls Tryz.prog 42 #[.agg #[.int .i64 m, .int .i64 x]] w fun e w' => Kept w w' ∧ FE w' e m x := by
 by_cases h : x < 0
 ·
  exact of_neg m x h1 h2 h h3 w
 ·
  exact of_pos m x h1 h2 h h4 w
end Q
end Go.Proofs.YtboliplhgpndpaaGreatDoor

namespace Go.Proofs.YtboliplhgpndpaaGreatDoor
open Go.RowKit
namespace Q
def FQ (w : World) (e : Ending) (X Y : Int) (k k' : Nat) : Prop := ∃ v, e = .returned v ∧ F.FIs w v X Y k k'
set_option maxRecDepth 100000 in
set_option maxHeartbeats 8000000 in
theorem fof_any (v : Int) (h1 : -9223372036854775808 ≤ v) (h2 : v ≤ 9223372036854775807) (w : World) :
  Calls Tryz.prog 84 #[.int .i64 v] w fun e w' => Kept w w' ∧ FQ w' e v 1 4 1 := by
 have HM := hid' (And.intro h1 h2)
 clear h1 h2
 go_enter Tryz.func84, Tryz.ntmps84
 go_upto_region 1 with fail
 have r2 := F.FRow.alloc w (.bool false) (.slice none 0 0) (.bool false) (.slice none 0 0)
 have hK := (Kept.refl w).alloc (.cells #[.bool false, .slice none 0 0, .bool false, .slice none 0 0] 93)
 generalize w.alloc (.cells #[.bool false, .slice none 0 0, .bool false, .slice none 0 0] 93) = W at r2 hK ⊢
 obtain ⟨p2, hp2⟩ : ∃ p, p = w.heap.size := ⟨_, rfl⟩
 rw [← hp2] at r2 ⊢
 have HP : Hid (w.heap.size ≤ p2) := by show _ ≤ _; omega
 clear hp2
 have HV : Hid (∀ U, Kept W U → F.FRow U p2 (.bool false) (.slice none 0 0) (.bool false) (.slice none 0 0) ∧ Kept w U) := fun U hU => ⟨r2.kept hU, hK.trans hU⟩
 clear r2 hK
 go_wp2_with fail
 refine (D.wide_any v _ HM.out.1 HM.out.2).mono ?_
 rintro e w5 ⟨hk5, s5, a5, k5, c5, rfl, n5, l5⟩
 have K5 := hid' ((Kept.refl W).trans hk5)
 have H5 := hid' (And.intro n5 l5)
 clear n5 l5 hk5
 go_wp2_with fail
 refine (D.small_num 1 _ (by omega) (by omega)).mono ?_
 rintro e w6 ⟨hk6, a6, k6, c6, rfl, n6, l6⟩
 have K6 := K5.out.trans hk6
 have H6 := hid' (And.intro n6 (And.intro l6 (H5.out.1.kept hk6)))
 clear n6 l6 hk6
 have z4 := (HV.out _ K6).1
 have e0 := z4.c0
 have e1 := z4.c1
 have e2 := z4.c2
 have e3 := z4.c3
 have y0 := z4.fz 0
 have y1 := z4.fz 1
 have y2 := z4.fz 2
 have y3 := z4.fz 3
 have HZ := hid' (And.intro z4 (HV.out _ K6).2)
 clear K5 K6 HV z4
 go_wp2
 refine bodyPost_ret (v := .agg #[.bool s5, .slice a5 k5 c5, .bool false, .slice a6 k6 c6]) (by simp [results, Tryz.results84, go_sem, e0, e1, e2, e3]) rfl ⟨F.Kept.put4 HZ.out.2 HP.out _ _ _ _, _, rfl, ⟨s5, a5, k5, c5, false, a6, k6, c6, rfl, F.nset4 H6.out.2.2 HZ.out.1, F.nset4 H6.out.1 HZ.out.1, H5.out.2, H6.out.2.1⟩⟩
set_option maxRecDepth 100000 in
set_option maxHeartbeats 8000000 in
theorem billion_any (s t : Bool) (a1 a2 : Option Addr) (k1 c1 k2 c2 : Nat) (X Y : Int) (w : World) (h1 : D.NIs w s (.slice a1 k1 c1) X) (h2 : D.NIs w t (.slice a2 k2 c2) Y) (hk1 : k1 ≤ 110) (hk2 : k2 ≤ 110) (hy : Y ≠ 0) :
  Calls Tryz.prog 45 #[.agg #[.bool s, .slice a1 k1 c1, .bool t, .slice a2 k2 c2]] w fun e w' => Kept w w' ∧ ∃ v N D, e = .returned v ∧ F.FIs w' v N D 120 120 ∧ F.Low (X * 1000000000) Y N D := by
 have HA := hid' (And.intro h1 (And.intro h2 (And.intro hk1 (And.intro hk2 hy))))
 clear h1 h2 hk1 hk2 hy
 go_enter Tryz.func45, Tryz.ntmps45
 go_upto_region 1 with fail
 have r1 := (F.FRow.alloc w (.bool s) (.slice a1 k1 c1) (.bool t) (.slice a2 k2 c2)).kept ((Kept.refl _).alloc (.cells #[.bool false, .slice none 0 0, .bool false, .slice none 0 0] 93))
 have r2 := F.FRow.alloc (w.alloc (.cells #[.bool s, .slice a1 k1 c1, .bool t, .slice a2 k2 c2] 93)) (.bool false) (.slice none 0 0) (.bool false) (.slice none 0 0)
 have hK := ((Kept.refl w).alloc (.cells #[.bool s, .slice a1 k1 c1, .bool t, .slice a2 k2 c2] 93)).alloc (.cells #[.bool false, .slice none 0 0, .bool false, .slice none 0 0] 93)
 simp only [World.size_alloc] at r2
 generalize (w.alloc (.cells #[.bool s, .slice a1 k1 c1, .bool t, .slice a2 k2 c2] 93)).alloc (.cells #[.bool false, .slice none 0 0, .bool false, .slice none 0 0] 93) = W at r1 r2 hK ⊢
 obtain ⟨p2, hp2⟩ : ∃ p, p = w.heap.size + 1 := ⟨_, rfl⟩
 rw [← hp2] at r2 ⊢
 obtain ⟨p1, hp1⟩ : ∃ p, p = w.heap.size := ⟨_, rfl⟩
 rw [← hp1] at r1 ⊢
 have HP : Hid (w.heap.size ≤ p2) := by show _ ≤ _; omega
 have n21 : ¬ p2 = p1 := by omega
 have HV : Hid (∀ V, Kept W V → F.FRow V p1 (.bool s) (.slice a1 k1 c1) (.bool t) (.slice a2 k2 c2) ∧ F.FRow V p2 (.bool false) (.slice none 0 0) (.bool false) (.slice none 0 0) ∧ Kept w V) := fun V hV => ⟨r1.kept hV, r2.kept hV, hK.trans hV⟩
 obtain ⟨q0, q1, q2, q3⟩ := F.frow_all r1
 clear hp1 hp2 r1 r2 hK
 go_region_held3 (fun w' => w'.cell? ⟨p1, 0, none⟩ = some (.bool s) ∧ w'.cell? ⟨p1, 1, none⟩ = some (.slice a1 k1 c1) ∧ w'.cell? ⟨p1, 2, none⟩ = some (.bool t) ∧ w'.cell? ⟨p1, 3, none⟩ = some (.slice a2 k2 c2)) (go_keep) (first
  | (go_at_call 84; refine (fof_any 1000000000 (by omega) (by omega) _).mono ?_; rintro e w3 ⟨hk3, v3, rfl, hF3⟩; obtain ⟨s3, a3, k3, c3, t3, a4, k4, c4, rfl, n3, n4, l3, l4⟩ := hF3; have K3 := (Kept.refl W).drew.trans hk3; have H3 := hid' (And.intro n3 (And.intro n4 (And.intro l3 l4))); clear n3 n4 l3 l4; obtain ⟨d0, d1, d2, d3⟩ := F.frow_all (HV.out _ K3).1)
  | (go_at_call 83; refine (F.FTimes_any s t s3 t3 a1 a2 a3 a4 k1 c1 k2 c2 k3 c3 k4 c4 X Y 1000000000 1 _ (HA.out.1.kept (HV.out _ K3).2.2) (HA.out.2.1.kept (HV.out _ K3).2.2) H3.out.1 H3.out.2.1 (by have h1 := HA.out.2.2.1; have h2 := H3.out.2.2.1; omega) (by have h1 := HA.out.2.2.2.1; have h2 := H3.out.2.2.2; omega) HA.out.2.2.2.2 (by decide)).mono ?_; rintro e w5 ⟨hk5, v5, N5, D5, rfl, hF5, hL5⟩; obtain ⟨s5, a5, k5, c5, t5, a6, k6, c6, rfl, n5, n6, l5, l6⟩ := hF5; have K5 := K3.trans hk5; have H5 := hid' (And.intro n5 (And.intro n6 (And.intro l5 (And.intro l6 hL5)))); clear n5 n6 l5 l6 hL5; obtain ⟨g0, g1, g2, g3⟩ := F.frow_all (HV.out _ K5).1; have z4 := (HV.out _ K5).2.1; have e0 := z4.c0; have e1 := z4.c1; have e2 := z4.c2; have e3 := z4.c3; have y0 := z4.fz 0; have y1 := z4.fz 1; have y2 := z4.fz 2; have y3 := z4.fz 3))
 have HZ := hid' (And.intro z4 (HV.out _ K5).2.2)
 clear q0 q1 q2 q3 d0 d1 d2 d3 g0 g1 g2 g3 hk3 hk5 K3 K5 HV z4
 go_wp2
 refine bodyPost_ret (v := .agg #[.bool s5, .slice a5 k5 c5, .bool t5, .slice a6 k6 c6]) (by simp [results, Tryz.results45, go_sem, e0, e1, e2, e3]) rfl ⟨F.Kept.put4 HZ.out.2 HP.out _ _ _ _, _, N5, D5, rfl, ⟨s5, a5, k5, c5, t5, a6, k6, c6, rfl, F.nset4 H5.out.1 HZ.out.1, F.nset4 H5.out.2.1 HZ.out.1, by have h1 := H5.out.2.2.1; have h2 := HA.out.2.2.1; have h3 := H3.out.2.2.1; omega, by have h1 := H5.out.2.2.2.1; have h2 := HA.out.2.2.2.1; have h3 := H3.out.2.2.2; omega⟩, by have := H5.out.2.2.2.2; rwa [Int.mul_one] at this⟩
end Q
end Go.Proofs.YtboliplhgpndpaaGreatDoor

namespace Go.Proofs.YtboliplhgpndpaaGreatDoor
open Go.RowKit
namespace Q
theorem pten (x : Int) : ((10 ^ (x + 9).toNat : Nat) : Int) * ((10 ^ (-x).toNat : Nat) : Int) = ((10 ^ x.toNat : Nat) : Int) * ((10 ^ (-(x + 9)).toNat : Nat) : Int) * 1000000000 := by
 have e9 : (1000000000 : Int) = ((10 ^ 9 : Nat) : Int) := by decide
 rw [e9, ← Int.natCast_mul, ← Int.natCast_mul, ← Int.natCast_mul, ← Nat.pow_add, ← Nat.pow_add, ← Nat.pow_add]
 congr 2
 omega
theorem scl_bil {m x N N1 D : Int} {D1 : Nat} (h : Scl m x N1 D1) (hl : F.Low (N1 * 1000000000) D1 N D) : Scl m (x + 9) N D.toNat := by
 have hp := hl.pos
 refine ⟨by omega, ?_, ?_⟩
 ·
  show Nat.gcd _ _ = 1
  rw [show D.toNat = D.natAbs by omega]
  exact hl.low
 ·
  rw [show ((D.toNat : Nat) : Int) = D by omega]
  obtain ⟨hd, _, he⟩ := h
  have hq := hl.eq
  have hpt := pten x
  have hz : (0 : Int) < ((10 ^ (-x).toNat : Nat) : Int) := by have := Nat.pow_pos (n := (-x).toNat) (show 0 < 10 by decide); omega
  have hd' : (0 : Int) < (D1 : Int) := by omega
  generalize ((10 ^ (-x).toNat : Nat) : Int) = A at *
  generalize ((10 ^ x.toNat : Nat) : Int) = B at *
  generalize ((10 ^ (-(x + 9)).toNat : Nat) : Int) = A' at *
  generalize ((10 ^ (x + 9).toNat : Nat) : Int) = B' at *
  generalize (D1 : Int) = d1 at *
  -- N * A' = m * B' * D
  apply Int.eq_of_mul_eq_mul_right (show A * d1 ≠ 0 from Int.mul_ne_zero (by omega) (by omega))
  have e1 : N * A' * (A * d1) = (N * d1) * (A * A') := by ac_rfl
  have e2 : m * B' * D * (A * d1) = (m * B * d1) * D * 1000000000 * A' := by
   have : m * B' * D * (A * d1) = m * D * d1 * (B' * A) := by ac_rfl
   rw [this, hpt]; ac_rfl
  rw [e1, e2, hq, ← he]; ac_rfl
def RVal (B : Nat) (w' : World) (e : Ending) (m x : Int) : Prop :=
 (okN m x = false ∧ e = .returned (.tuple #[.agg #[.bool false, .slice none 0 0, .bool false, .slice none 0 0], .int .i64 30])) ∨ (okN m x = true ∧ ∃ (s : Bool) (ao : Option Addr) (k c : Nat) (l : List Nat) (t : Bool) (ap : Option Addr) (k' c' : Nat) (l' : List Nat) (N : Int) (D : Nat), e = .returned (.tuple #[.agg #[.bool s, .slice ao k c, .bool t, .slice ap k' c'], .int .i64 0]) ∧ New B w' (.slice ao k c) l ∧ New B w' (.slice ap k' c') l' ∧ M.Right s l ∧ M.Right t l' ∧ M.int s l = N ∧ M.int t l' = D ∧ Scl m x N D)
set_option maxRecDepth 100000 in
set_option maxHeartbeats 4000000 in
theorem rvalue_any (m x : Int) (w : World) : Calls Tryz.prog 14 #[.agg #[.int .i64 m, .int .i64 x]] w fun e w' => Kept w w' ∧ RVal w.heap.size w' e m x := by
 go_enter Tryz.func14, Tryz.ntmps14
 go_upto_region 1 with fail
 have hK := ((Kept.refl w).alloc (.cells #[.int .i64 m, .int .i64 x] 24)).alloc (.cells #[.bool false, .slice none 0 0, .bool false, .slice none 0 0] 39)
 have hR1 := (Row2.alloc 24 w (.int .i64 m) (.int .i64 x)).kept ((Kept.refl _).alloc (.cells #[.bool false, .slice none 0 0, .bool false, .slice none 0 0] 39))
 have hR2 := F.RRow.alloc (w.alloc (.cells #[.int .i64 m, .int .i64 x] 24)) (.bool false) (.slice none 0 0) (.bool false) (.slice none 0 0)
 rw [World.size_alloc] at hR2
 generalize (w.alloc (.cells #[.int .i64 m, .int .i64 x] 24)).alloc (.cells #[.bool false, .slice none 0 0, .bool false, .slice none 0 0] 39) = W at hK hR1 hR2 ⊢
 obtain ⟨p2, hp2⟩ : ∃ p, p = w.heap.size + 1 := ⟨_, rfl⟩
 rw [← hp2] at hR2 ⊢
 obtain ⟨p1, hp1⟩ : ∃ p, p = w.heap.size := ⟨_, rfl⟩
 rw [← hp1] at hR1 ⊢
 have HP : Hid (w.heap.size ≤ p2) := by show _ ≤ _; omega
 have HK := hid' hK
 have HR1 := hid' hR1
 have HR2 := hid' hR2
 obtain ⟨q0, q1, q2, q3⟩ := hR1.all
 clear hp1 hp2 hK hR1 hR2
 go_wp2_with fail
 refine (RValid_any m x _).mono ?_
 rintro e w1 ⟨hk1, rfl⟩
 have HK1 := hid' (HK.out.trans hk1)
 have HR1 := hid' (HR1.out.kept hk1)
 have HR2 := hid' (HR2.out.kept hk1)
 clear hk1 q0 q1 q2 q3
 by_cases ho : okN m x = true
 ·
  have hb := okN_bd ho
  rw [ho]
  have HO := hid' ho
  clear ho
  obtain ⟨q0, q1, q2, q3⟩ := HR1.out.all
  go_wp2_with fail
  refine (of_any m x (by omega) (by omega) (by omega) (by omega) _).mono ?_
  rintro e w2 ⟨hk2, v, N, D, rfl, hF, hS⟩
  obtain ⟨s1, a1, k1, c1, t1, a2, k2, c2, rfl, n1, n2, l1, l2⟩ := hF
  have H1 := hid' (And.intro n1 (And.intro n2 (And.intro l1 (And.intro l2 hS))))
  have HK2 := hid' (HK1.out.trans hk2)
  have HR3 := hid' (HR2.out.kept hk2)
  clear n1 n2 l1 l2 hS hk2 q0 q1 q2 q3
  go_wp2_with fail
  refine (F.FGive_any s1 t1 a1 a2 k1 c1 k2 c2 N D _ H1.out.1 H1.out.2.1 (by have := H1.out.2.2.1; omega) (by have := H1.out.2.2.2.1; omega)).mono ?_
  rintro e w3 ⟨hk3, s, ao, k, c, l, t, ap, k', c', l', rfl, g1, g2, g3, g4, g5, g6, g7, g8, g9, g10⟩
  have HG := hid' (And.intro (g1.mono HK2.out.size) (And.intro (g6.mono HK2.out.size) (And.intro (show M.Right s l from ⟨g1.1, g2, by have := H1.out.2.2.1; omega, g5⟩) (And.intro (show M.Right t l' from ⟨g6.1, g7, by have := H1.out.2.2.2.1; omega, g10⟩) (And.intro g3 g8)))))
  have HK3 := hid' (HK2.out.trans hk3)
  have hR4 := HR3.out.kept hk3
  clear g1 g2 g3 g4 g5 g6 g7 g8 g9 g10 hk3
  have z0 := hR4.c0
  have z1 := hR4.c1
  have z2 := hR4.c2
  have z3 := hR4.c3
  have f0 := hR4.fz 0
  have f1 := hR4.fz 1
  have f2 := hR4.fz 2
  have f3 := hR4.fz 3
  have H4 := hid' hR4
  clear hR4
  go_wp2_with fail
  exact bodyPost_ret (v := .tuple #[.agg #[.bool s, .slice ao k c, .bool t, .slice ap k' c'], .int .i64 0]) (by simp [results, Tryz.results14, go_sem, z0, z1, z2, z3]) rfl ⟨Kept.put4 HK3.out HP.out _ _ _ _, .inr ⟨HO.out, s, ao, k, c, l, t, ap, k', c', l', N, D, rfl, F.New.rset4 HG.out.1 H4.out _ _ _ _, F.New.rset4 HG.out.2.1 H4.out _ _ _ _, HG.out.2.2.1, HG.out.2.2.2.1, HG.out.2.2.2.2.1, HG.out.2.2.2.2.2, H1.out.2.2.2.2⟩⟩
 ·
  have ho : okN m x = false := by simpa using ho
  rw [ho]
  have HO := hid' ho
  have z0 := HR2.out.c0
  have z1 := HR2.out.c1
  have z2 := HR2.out.c2
  have z3 := HR2.out.c3
  have f0 := HR2.out.fz 0
  have f1 := HR2.out.fz 1
  have f2 := HR2.out.fz 2
  have f3 := HR2.out.fz 3
  clear ho
  go_wp2_with fail
  exact bodyPost_ret (v := .tuple #[.agg #[.bool false, .slice none 0 0, .bool false, .slice none 0 0], .int .i64 30]) (by simp [results, Tryz.results14, go_sem, z0, z1, z2, z3]) rfl ⟨Kept.put4 HK1.out HP.out _ _ _ _, .inl ⟨HO.out, rfl⟩⟩
set_option maxRecDepth 100000 in
set_option maxHeartbeats 4000000 in
theorem rgrid_any (m x : Int) (w : World) : Calls Tryz.prog 16 #[.agg #[.int .i64 m, .int .i64 x]] w fun e w' => Kept w w' ∧ GridIs e m x := by
 go_enter Tryz.func16, Tryz.ntmps16
 go_upto_region 1 with fail
 have hK := (Kept.refl w).alloc (.cells #[.int .i64 m, .int .i64 x] 24)
 have hR := Row2.alloc 24 w (.int .i64 m) (.int .i64 x)
 generalize w.alloc (.cells #[.int .i64 m, .int .i64 x] 24) = W at hK hR ⊢
 obtain ⟨p1, hp1⟩ : ∃ p, p = w.heap.size := ⟨_, rfl⟩
 rw [← hp1] at hR ⊢
 have HK := hid' hK
 have HR := hid' hR
 obtain ⟨q0, q1, q2, q3⟩ := hR.all
 clear hp1 hK hR
 go_wp2_with fail
 refine (RValid_any m x _).mono ?_
 rintro e w1 ⟨hk1, rfl⟩
 have HK1 := hid' (HK.out.trans hk1)
 have hR1 := HR.out.kept hk1
 clear hk1 q0 q1 q2 q3
 by_cases ho : okN m x = true
 ·
  have hb := okN_bd ho
  rw [ho]
  have HO := hid' ho
  clear ho
  obtain ⟨q0, q1, q2, q3⟩ := hR1.all
  clear hR1
  go_wp2_with fail
  refine (of_any m x (by omega) (by omega) (by omega) (by omega) _).mono ?_
  rintro e w2 ⟨hk2, v, N1, D1, rfl, hF, hS⟩
  obtain ⟨s1, a1, k1, c1, t1, a2, k2, c2, rfl, n1, n2, l1, l2⟩ := hF
  have H1 := hid' (And.intro n1 (And.intro n2 (And.intro l1 (And.intro l2 hS))))
  have HK2 := hid' (HK1.out.trans hk2)
  clear n1 n2 l1 l2 hS hk2 q0 q1 q2 q3
  go_wp2_with fail
  refine (billion_any s1 t1 a1 a2 k1 c1 k2 c2 N1 D1 _ H1.out.1 H1.out.2.1 H1.out.2.2.1 H1.out.2.2.2.1 (by have := H1.out.2.2.2.2.1; omega)).mono ?_
  rintro e w3 ⟨hk3, v3, N, D, rfl, hF3, hL3⟩
  obtain ⟨s3, a3, k3, c3, t3, a4, k4, c4, rfl, n3, n4, l3, l4⟩ := hF3
  have H3 := hid' (And.intro n3 (And.intro n4 (And.intro l3 (And.intro l4 hL3))))
  have HK3' := hid' (HK2.out.trans hk3)
  have HS : Hid (Scl m (x + 9) N D.toNat) := scl_bil H1.out.2.2.2.2 hL3
  clear n3 n4 l3 l4 hL3 hk3
  go_wp2_with fail
  refine (F.Grid_any s3 t3 a3 a4 k3 c3 k4 c4 N D _ H3.out.1 H3.out.2.1 (by have := H3.out.2.2.1; omega) (by have := H3.out.2.2.2.1; omega) H3.out.2.2.2.2.pos).mono ?_
  rintro e w4 ⟨hk4, rfl⟩
  have HK3 := hid' (HK3'.out.trans hk4)
  clear hk4
  generalize hgv : F.gridV (F.near N D.toNat) = gv
  generalize hge : F.gridE (F.near N D.toNat) = ge
  have HG := hid' (And.intro hgv hge)
  clear hgv hge
  go_wp2
  go_ret2
  exact ⟨HK3.out, .inr ⟨HO.out, _, _, HS.out, by rw [HG.out.1, HG.out.2]; rfl⟩⟩
 ·
  have ho : okN m x = false := by simpa using ho
  rw [ho]
  have HO := hid' ho
  clear ho hR1
  go_wp2
  go_ret2
  exact ⟨HK1.out, .inl ⟨HO.out, rfl⟩⟩
set_option maxRecDepth 100000 in
set_option maxHeartbeats 8000000 in
theorem rcmp_any (m x m' x' : Int) (w : World) : Calls Tryz.prog 18 #[.agg #[.int .i64 m, .int .i64 x], .agg #[.int .i64 m', .int .i64 x']] w fun e w' => Kept w w' ∧ CmpIs e m x m' x' := by
 go_enter Tryz.func18, Tryz.ntmps18
 go_upto_region 1 with fail
 have hK := ((Kept.refl w).alloc (.cells #[.int .i64 m, .int .i64 x] 24)).alloc (.cells #[.int .i64 m', .int .i64 x'] 24)
 have hR2 := (Row2.alloc 24 w (.int .i64 m) (.int .i64 x)).kept ((Kept.refl _).alloc (.cells #[.int .i64 m', .int .i64 x'] 24))
 have hR3 := Row2.alloc 24 (w.alloc (.cells #[.int .i64 m, .int .i64 x] 24)) (.int .i64 m') (.int .i64 x')
 rw [World.size_alloc] at hR3
 generalize (w.alloc (.cells #[.int .i64 m, .int .i64 x] 24)).alloc (.cells #[.int .i64 m', .int .i64 x'] 24) = W at hK hR2 hR3 ⊢
 obtain ⟨p3, hp3⟩ : ∃ p, p = w.heap.size + 1 := ⟨_, rfl⟩
 rw [← hp3] at hR3 ⊢
 obtain ⟨p2, hp2⟩ : ∃ p, p = w.heap.size := ⟨_, rfl⟩
 rw [← hp2] at hR2 ⊢
 have HK := hid' hK
 have HR2 := hid' hR2
 have HR3 := hid' hR3
 obtain ⟨q0, q1, q2, q3⟩ := hR2.all
 clear hp2 hp3 hK hR2 hR3
 go_wp2_with fail
 refine (RValid_any m x _).mono ?_
 rintro e w1 ⟨hk1, rfl⟩
 have HK1 := hid' hk1
 clear hk1 q0 q1 q2 q3
 by_cases ho : okN m x = true
 ·
  have hb := okN_bd ho
  rw [ho]
  have HO := hid' ho
  clear ho
  obtain ⟨q0, q1, q2, q3⟩ := (HR3.out.kept HK1.out).all
  go_wp2_with fail
  refine (RValid_any m' x' _).mono ?_
  rintro e w2 ⟨hk2, rfl⟩
  have HK2 := hid' (HK1.out.trans hk2)
  clear hk2 q0 q1 q2 q3
  by_cases ho' : okN m' x' = true
  ·
   have hb' := okN_bd ho'
   rw [ho']
   have HO' := hid' ho'
   clear ho'
   go_upto_region 3 with fail
   obtain ⟨q0, q1, q2, q3⟩ := (HR2.out.kept HK2.out).all
   obtain ⟨r0, r1, r2, r3⟩ := (HR3.out.kept HK2.out).all
   go_region_held3 (fun w' => w'.cell? ⟨p2, 0, none⟩ = some (.int .i64 m) ∧ w'.cell? ⟨p2, 1, none⟩ = some (.int .i64 x) ∧ w'.cell? ⟨p3, 0, none⟩ = some (.int .i64 m') ∧ w'.cell? ⟨p3, 1, none⟩ = some (.int .i64 x')) (go_keep) (first
    | (go_at_call_of 42 (Value.int .i64 m); refine (of_any m x (by omega) (by omega) (by omega) (by omega) _).mono ?_; rintro e w3 ⟨hk3, v3, N3, D3, rfl, hF3, hS3⟩; have HS3 := hid' hS3; obtain ⟨s3, a3, k3, c3, t3, b3, i3, d3, rfl, n1, n2, l1, l2⟩ := hF3; have H3 := hid' (And.intro n1 (And.intro n2 (And.intro l1 (And.intro l2 hk3)))); have K3 := HK2.out.trans ((Kept.refl w2).drew.trans hk3); have A0 := (HR2.out.kept K3).c0; have A1 := (HR2.out.kept K3).c1; have A2 := (HR3.out.kept K3).c0; have A3 := (HR3.out.kept K3).c1; clear n1 n2 l1 l2 hS3)
    | (go_at_call_of 42 (Value.int .i64 m'); refine (of_any m' x' (by omega) (by omega) (by omega) (by omega) _).mono ?_; rintro e w4 ⟨hk4, v4, N4, D4, rfl, hF4, hS4⟩; have HS4 := hid' hS4; obtain ⟨s4, a4, k4, c4, t4, b4, i4, d4, rfl, n1, n2, l1, l2⟩ := hF4; have H4 := hid' (And.intro n1 (And.intro n2 (And.intro l1 (And.intro l2 hk4)))); have K4 := K3.trans hk4; have B0 := (HR2.out.kept K4).c0; have B1 := (HR2.out.kept K4).c1; have B2 := (HR3.out.kept K4).c0; have B3 := (HR3.out.kept K4).c1; clear n1 n2 l1 l2 hS4)
    | (go_at_call 46; refine (F.FHeld_any s3 t3 s4 t4 a3 b3 a4 b4 k3 c3 i3 d3 k4 c4 i4 d4 N3 D3 N4 D4 _ (H3.out.1.kept H4.out.2.2.2.2) (H3.out.2.1.kept H4.out.2.2.2.2) H4.out.1 H4.out.2.1 (by have h1 := H3.out.2.2.1; have h2 := H3.out.2.2.2.1; have h3 := H4.out.2.2.1; have h4 := H4.out.2.2.2.1; omega)).mono ?_; rintro e w5 ⟨hk5, rfl⟩; have K5 := K4.trans hk5; have E0 := (HR2.out.kept K5).c0; have E1 := (HR2.out.kept K5).c1; have E2 := (HR3.out.kept K5).c0; have E3 := (HR3.out.kept K5).c1))
   have HK5 := hid' (HK.out.trans K5)
   clear K3 K4 K5 hk3 hk4 hk5 q0 q1 q2 q3 r0 r1 r2 r3 A0 A1 A2 A3 B0 B1 B2 B3 E0 E1 E2 E3
   generalize hgi : isgn (N3 * D4) (N4 * D3) = gi
   have HGI := hid' hgi
   clear hgi
   go_wp2
   go_ret2
   exact ⟨HK5.out, .inr ⟨⟨HO.out, HO'.out⟩, _, _, _, _, HS3.out, HS4.out, by rw [HGI.out]; rfl⟩⟩
  ·
   have ho' : okN m' x' = false := by simpa using ho'
   rw [ho']
   have HO' := hid' ho'
   clear ho'
   go_wp2
   go_ret2
   exact ⟨HK.out.trans HK2.out, .inl ⟨fun hh => absurd (HO'.out.symm.trans hh.2) (by decide), rfl⟩⟩
 ·
  have ho : okN m x = false := by simpa using ho
  rw [ho]
  have HO := hid' ho
  clear ho
  go_wp2
  go_ret2
  exact ⟨HK.out.trans HK1.out, .inl ⟨fun hh => absurd (HO.out.symm.trans hh.1) (by decide), rfl⟩⟩
end Q
end Go.Proofs.YtboliplhgpndpaaGreatDoor
