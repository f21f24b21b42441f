/- rat.product: the product of two right fractions, or that it is too wide. rat.sum, of right fractions, told by what it is. rat.Add, of right fractions. rat.Sub of right fractions. rat.inverse, Mul, Div. rat's Add, Sub, Mul, Div, Cmp of fractions that are refused. rat's Add, Sub, Mul, Div, Cmp of whatever is handed in, and their answers without a world. The answers of calls of two fractions, without a world: they are one. -/
import Derived.Test.YtblpacgfgifkcaaGreatGao
import Derived.Test.YtblpacgfgifkcaaGreatFsum
import Derived.Test.YtblpacgfgifkcaaGreatGam
import Derived.Test.YtblpacgfgifkcaaGreatGan
import Derived.Test.YtblpacgfgifkcaaGreatGtwo
import Derived.Test.YtblpacgfgifkcaaGreatGcmp
namespace Go.Proofs.YtblpacgfgifkcaaGreat
open Go.RowKit
namespace F
structure IsProd (xA : Int) (yA : Nat) (xB : Int) (yB : Nat) (N : Int) (D : Nat) : Prop where
 pos : 0 < D
 low : Nat.Coprime N.natAbs D
 eq : N * (yA * yB) = (xA * xB) * D
theorem prod_low {xA xB nA nB dA dB : Int} {yA yB g1 g2 : Nat} (hA : Nat.Coprime xA.natAbs yA) (hB : Nat.Coprime xB.natAbs yB) (pA : 0 < yA) (pB : 0 < yB) (e1 : Nat.gcd xA.natAbs yB = g1) (e2 : Nat.gcd xB.natAbs yA = g2)
  (h1 : nA * g1 = xA) (h2 : dB * g1 = yB) (h3 : nB * g2 = xB) (h4 : dA * g2 = yA) : 0 < dA ∧ 0 < dB ∧ IsProd xA yA xB yB (nA * nB) (dA * dB).natAbs := by
 have g1p : 0 < g1 := by rw [← e1]; exact Nat.gcd_pos_of_pos_right _ pB
 have g2p : 0 < g2 := by rw [← e2]; exact Nat.gcd_pos_of_pos_right _ pA
 have dAp : 0 < dA := by
  rcases Int.lt_trichotomy dA 0 with h | h | h
  ·
   have := Int.mul_neg_of_neg_of_pos h (show (0 : Int) < g2 by omega); omega
  ·
   rw [h] at h4; simp at h4; omega
  ·
   exact h
 have dBp : 0 < dB := by
  rcases Int.lt_trichotomy dB 0 with h | h | h
  ·
   have := Int.mul_neg_of_neg_of_pos h (show (0 : Int) < g1 by omega); omega
  ·
   rw [h] at h2; simp at h2; omega
  ·
   exact h
 have a1 : nA.natAbs * g1 = xA.natAbs := by rw [← h1, Int.natAbs_mul, Int.natAbs_natCast]
 have a2 : dB.natAbs * g1 = yB := by have := congrArg Int.natAbs h2; rwa [Int.natAbs_mul, Int.natAbs_natCast, Int.natAbs_natCast] at this
 have a3 : nB.natAbs * g2 = xB.natAbs := by rw [← h3, Int.natAbs_mul, Int.natAbs_natCast]
 have a4 : dA.natAbs * g2 = yA := by have := congrArg Int.natAbs h4; rwa [Int.natAbs_mul, Int.natAbs_natCast, Int.natAbs_natCast] at this
 have c1 : Nat.Coprime nA.natAbs dB.natAbs := by
  rw [← a1, ← a2, Nat.gcd_mul_right] at e1
  exact Nat.eq_of_mul_eq_mul_right g1p (by omega)
 have c2 : Nat.Coprime nB.natAbs dA.natAbs := by
  rw [← a3, ← a4, Nat.gcd_mul_right] at e2
  exact Nat.eq_of_mul_eq_mul_right g2p (by omega)
 have c3 : Nat.Coprime nA.natAbs dA.natAbs := (hA.coprime_dvd_left (by rw [← a1]; exact Nat.dvd_mul_right _ _)).coprime_dvd_right (by rw [← a4]; exact Nat.dvd_mul_right _ _)
 have c4 : Nat.Coprime nB.natAbs dB.natAbs := (hB.coprime_dvd_left (by rw [← a3]; exact Nat.dvd_mul_right _ _)).coprime_dvd_right (by rw [← a2]; exact Nat.dvd_mul_right _ _)
 have hD : 0 < dA * dB := Int.mul_pos dAp dBp
 have eD : (((dA * dB).natAbs : Nat) : Int) = dA * dB := by omega
 refine ⟨dAp, dBp, by omega, ?_, ?_⟩
 ·
  rw [Int.natAbs_mul, Int.natAbs_mul]
  exact Nat.Coprime.mul_left (Nat.Coprime.mul_right c3 c1) (Nat.Coprime.mul_right c2 c4)
 ·
  rw [eD, ← h1, ← h3, ← h4, ← h2]
  clear a1 a2 a3 a4 c1 c2 c3 c4 hD eD dAp dBp g1p g2p e1 e2 hA hB pA pB h1 h2 h3 h4
  grind
theorem flag_two {f1 f2 : Bool} {v1 v2 z1 z2 : Int} {W : Nat} (h1 : f1 = false → (false : Bool) = false ∧ v1 = z1) (k1 : (false : Bool) = false → z1.natAbs < W → f1 = false) (h2 : f2 = false → f1 = false ∧ v2 = z2) (k2 : f1 = false → z2.natAbs < W → f2 = false) :
  (f2 = false → v1 = z1 ∧ v2 = z2) ∧ (z1.natAbs < W → z2.natAbs < W → f2 = false) :=
 ⟨fun h => ⟨(h1 (h2 h).1).2, (h2 h).2⟩, fun a b => k2 (k1 rfl a) b⟩
set_option maxRecDepth 100000 in
set_option maxHeartbeats 8000000 in
theorem product_r (m nA n nB : Bool) (a1 a2 b1 b2 : Option Addr) (k1 c1 k2 c2 k3 c3 k4 c4 : Nat) (an ad bn bd : List Nat) (w : World)
  (ha : Sl w (.slice a1 k1 c1) an) (had : Sl w (.slice a2 k2 c2) ad) (hb : Sl w (.slice b1 k3 c3) bn) (hbd : Sl w (.slice b2 k4 c4) bd) (hA : RatR m nA an ad) (hB : RatR n nB bn bd) :
  Calls Tryz.prog 31 #[.agg #[.bool m, .slice a1 k1 c1, .bool nA, .slice a2 k2 c2], .agg #[.bool n, .slice b1 k3 c3, .bool nB, .slice b2 k4 c4]] w fun e w' => Kept w w' ∧ ∃ N D, IsProd (M.int m an) (M.val ad) (M.int n bn) (M.val bd) N D ∧ SumIs w.heap.size w' e N D := by
 obtain rfl := hA.sgn
 obtain rfl := hB.sgn
 have HR : Hid (RatR m false an ad ∧ RatR n false bn bd) := ⟨hA, hB⟩
 have HA : Hid (Sl w (.slice a1 k1 c1) an ∧ Sl w (.slice a2 k2 c2) ad ∧ Sl w (.slice b1 k3 c3) bn ∧ Sl w (.slice b2 k4 c4) bd) := ⟨ha, had, hb, hbd⟩
 clear ha had hb hbd hA hB
 have K3 : ∀ x y t, Kept w (((w.alloc x).alloc y).alloc t) := fun x y t => (((Kept.refl w).alloc x).alloc y).alloc t
 go_enter Tryz.func31, Tryz.ntmps31
 go_wp2_with fail
 refine (reduced_r m false a1 b2 k1 c1 k4 c4 an bd _ (HA.out.1.kept (K3 _ _ _)) (HA.out.2.2.2.kept (K3 _ _ _)) HR.out.1.ra HR.out.2.rd (Nat.gcd_pos_of_pos_right _ HR.out.2.vpos)).mono ?_
 rintro e w1 ⟨hk, s6, a6, k6, c6, l6, s7, a7, k7, c7, l7, rfl, n6, n7, r6, r7, v6, v7⟩
 have rA := ((RRow.alloc w (.bool m) (.slice a1 k1 c1) (.bool false) (.slice a2 k2 c2))).kept ((((Kept.refl _).alloc _).alloc _).trans hk)
 have rB := ((RRow.alloc (w.alloc (.cells #[.bool m, .slice a1 k1 c1, .bool false, .slice a2 k2 c2] 26)) (.bool n) (.slice b1 k3 c3) (.bool false) (.slice b2 k4 c4))).kept (((Kept.refl _).alloc _).trans hk)
 have rZ := ((RRow.alloc ((w.alloc (.cells #[.bool m, .slice a1 k1 c1, .bool false, .slice a2 k2 c2] 26)).alloc (.cells #[.bool n, .slice b1 k3 c3, .bool false, .slice b2 k4 c4] 26)) (.bool false) (.slice none 0 0) (.bool false) (.slice none 0 0))).kept hk
 simp only [World.size_alloc] at rB rZ
 have HK := hidp ((K3 _ _ _).trans hk)
 have H6 : Hid (M.Right s6 l6 ∧ M.Right s7 l7 ∧ M.int s6 l6 * (Nat.gcd (M.val an) (M.val bd) : Nat) = M.int m an ∧ M.int s7 l7 * (Nat.gcd (M.val an) (M.val bd) : Nat) = M.int false bd) := ⟨r6, r7, v6, v7⟩
 have HN : Hid (New (w.heap.size + 1 + 1 + 1) w1 (.slice a6 k6 c6) l6 ∧ New (w.heap.size + 1 + 1 + 1) w1 (.slice a7 k7 c7) l7 ∧ RRow w1 (w.heap.size + 1 + 1) (.bool false) (.slice none 0 0) (.bool false) (.slice none 0 0)) := ⟨n6.mono (by simp), n7.mono (by simp), rZ⟩
 have HA1 := hidp rA
 have HB1 := hidp rB
 clear hk n6 n7 r6 r7 v6 v7 rA rB rZ K3
 go_upto_region 2 with fail
 have hK : Kept w1 ((w1.alloc (.cells #[.bool s6, .slice a6 k6 c6] 24)).alloc (.cells #[.bool s7, .slice a7 k7 c7] 24)) := ((Kept.refl w1).alloc _).alloc _
 have hY := box_kept2 (Kept.refl ((w1.alloc (.cells #[.bool s6, .slice a6 k6 c6] 24)).alloc (.cells #[.bool s7, .slice a7 k7 c7] 24)))
 have hsz : ((w1.alloc (.cells #[.bool s6, .slice a6 k6 c6] 24)).alloc (.cells #[.bool s7, .slice a7 k7 c7] 24)).heap.size = w1.heap.size + 1 + 1 := by simp
 generalize (w1.alloc (.cells #[.bool s6, .slice a6 k6 c6] 24)).alloc (.cells #[.bool s7, .slice a7 k7 c7] 24) = W1 at hK hY hsz ⊢
 obtain ⟨hy0, hy1, hy2, hy3⟩ := hY
 obtain ⟨p7, hp7⟩ : ∃ p, p = w1.heap.size + 1 := ⟨_, rfl⟩
 rw [← hp7] at hy2 hy3 ⊢
 obtain ⟨p6, hp6⟩ : ∃ p, p = w1.heap.size := ⟨_, rfl⟩
 rw [← hp6] at hy0 hy1 ⊢
 have H67 : Hid ((W1.cell? ⟨p6, 0, none⟩ = some (.bool s6) ∧ W1.cell? ⟨p6, 1, none⟩ = some (.slice a6 k6 c6)) ∧ (W1.cell? ⟨p7, 0, none⟩ = some (.bool s7) ∧ W1.cell? ⟨p7, 1, none⟩ = some (.slice a7 k7 c7)) ∧ w1.heap.size ≤ p6 ∧ w1.heap.size ≤ p7 ∧ p6 < W1.heap.size ∧ p7 < W1.heap.size) := ⟨⟨hy0, hy1⟩, ⟨hy2, hy3⟩, by omega, by omega, by omega, by omega⟩
 have HN : Hid (New (w.heap.size + 1 + 1 + 1) W1 (.slice a6 k6 c6) l6 ∧ New (w.heap.size + 1 + 1 + 1) W1 (.slice a7 k7 c7) l7 ∧ RRow W1 (w.heap.size + 1 + 1) (.bool false) (.slice none 0 0) (.bool false) (.slice none 0 0) ∧ w.heap.size + 1 + 1 < w1.heap.size) := ⟨HN.out.1.kept hK, HN.out.2.1.kept hK, HN.out.2.2.kept hK, HN.out.2.2.lt⟩
 have HA1 := hidp (HA1.out.kept hK)
 have HB1 := hidp (HB1.out.kept hK)
 have HK := hidp (HK.out.trans hK)
 clear hK hy0 hy1 hy2 hy3 hp6 hp7 hsz
 have q0 := HB1.out.c0
 have q1 := HB1.out.c1
 have q2 := HA1.out.c2
 have q3 := HA1.out.c3
 go_wp2_with fail
 refine (reduced_r n false b1 a2 k3 c3 k2 c2 bn ad _ (HA.out.2.2.1.kept HK.out) (HA.out.2.1.kept HK.out) HR.out.2.ra HR.out.1.rd (Nat.gcd_pos_of_pos_right _ HR.out.1.vpos)).mono ?_
 rintro e w2 ⟨hk, s8, a8, k8, c8, l8, s9, a9, k9, c9, l9, rfl, n8, n9, r8, r9, v8, v9⟩
 have H8 : Hid (M.Right s8 l8 ∧ M.Right s9 l9 ∧ M.int s8 l8 * (Nat.gcd (M.val bn) (M.val ad) : Nat) = M.int n bn ∧ M.int s9 l9 * (Nat.gcd (M.val bn) (M.val ad) : Nat) = M.int false ad) := ⟨r8, r9, v8, v9⟩
 have H67 : Hid ((w2.cell? ⟨p6, 0, none⟩ = some (.bool s6) ∧ w2.cell? ⟨p6, 1, none⟩ = some (.slice a6 k6 c6)) ∧ (w2.cell? ⟨p7, 0, none⟩ = some (.bool s7) ∧ w2.cell? ⟨p7, 1, none⟩ = some (.slice a7 k7 c7)) ∧ w.heap.size + 1 + 1 < p6 ∧ w.heap.size + 1 + 1 < p7 ∧ p6 < w2.heap.size ∧ p7 < w2.heap.size) := by
  obtain ⟨g1, g2, g3, g4, g5, g6⟩ := H67.out
  have h9 := HN.out.2.2.2
  have h8 := hk.size
  exact ⟨⟨cell_kept hk g1.1, cell_kept hk g1.2⟩, ⟨cell_kept hk g2.1, cell_kept hk g2.2⟩, by omega, by omega, by omega, by omega⟩
 have HNN : Hid (Kept w w2 ∧ Sl w2 (.slice a6 k6 c6) l6 ∧ Sl w2 (.slice a7 k7 c7) l7 ∧ Sl w2 (.slice a8 k8 c8) l8 ∧ Sl w2 (.slice a9 k9 c9) l9 ∧ RRow w2 (w.heap.size + 1 + 1) (.bool false) (.slice none 0 0) (.bool false) (.slice none 0 0)) := ⟨HK.out.trans hk, (HN.out.1.kept hk).sl, (HN.out.2.1.kept hk).sl, n8.sl, n9.sl, HN.out.2.2.1.kept hk⟩
 clear hk n8 n9 r8 r9 v8 v9 q0 q1 q2 q3 HA1 HB1 HN HA HK
 go_upto_region 4 with fail
 have hK2 : Kept w2 ((w2.alloc (.cells #[.bool s8, .slice a8 k8 c8] 24)).alloc (.cells #[.bool s9, .slice a9 k9 c9] 24)) := ((Kept.refl w2).alloc _).alloc _
 have hY := box_kept2 (Kept.refl ((w2.alloc (.cells #[.bool s8, .slice a8 k8 c8] 24)).alloc (.cells #[.bool s9, .slice a9 k9 c9] 24)))
 have hsz : ((w2.alloc (.cells #[.bool s8, .slice a8 k8 c8] 24)).alloc (.cells #[.bool s9, .slice a9 k9 c9] 24)).heap.size = w2.heap.size + 1 + 1 := by simp
 have hF := Flag.alloc ((w2.alloc (.cells #[.bool s8, .slice a8 k8 c8] 24)).alloc (.cells #[.bool s9, .slice a9 k9 c9] 24)) false
 rw [hsz] at hF
 have hK3 : Kept ((w2.alloc (.cells #[.bool s8, .slice a8 k8 c8] 24)).alloc (.cells #[.bool s9, .slice a9 k9 c9] 24)) (((w2.alloc (.cells #[.bool s8, .slice a8 k8 c8] 24)).alloc (.cells #[.bool s9, .slice a9 k9 c9] 24)).alloc (.cells #[.bool false] 94)) := (Kept.refl _).alloc _
 obtain ⟨hy0, hy1, hy2, hy3⟩ := hY
 have hy0 := cell_kept hK3 hy0
 have hy1 := cell_kept hK3 hy1
 have hy2 := cell_kept hK3 hy2
 have hy3 := cell_kept hK3 hy3
 have hKW := hK2.trans hK3
 generalize ((w2.alloc (.cells #[.bool s8, .slice a8 k8 c8] 24)).alloc (.cells #[.bool s9, .slice a9 k9 c9] 24)).alloc (.cells #[.bool false] 94) = W at hF hy0 hy1 hy2 hy3 hKW ⊢
 clear hK2 hK3 hsz
 obtain ⟨kb, hkb⟩ : ∃ p, p = w2.heap.size + 1 + 1 := ⟨_, rfl⟩
 rw [← hkb] at hF ⊢
 obtain ⟨p9, hp9⟩ : ∃ p, p = w2.heap.size + 1 := ⟨_, rfl⟩
 rw [← hp9] at hy2 hy3 ⊢
 obtain ⟨p8, hp8⟩ : ∃ p, p = w2.heap.size := ⟨_, rfl⟩
 rw [← hp8] at hy0 hy1 ⊢
 obtain ⟨p4, hp4⟩ : ∃ p, p = w.heap.size + 1 + 1 := ⟨_, rfl⟩
 rw [← hp4] at HNN H67 ⊢
 obtain ⟨g1, g2, g3, g4, g5, g6⟩ := H67.out
 obtain ⟨u0, u1, u2, u3, u4, u5⟩ := HNN.out
 have B6 : Box kb W p6 s6 a6 k6 c6 l6 := Box.mk hF (by omega) (cell_kept hKW g1.1) (cell_kept hKW g1.2) (u1.kept hKW)
 have B7 : Box kb W p7 s7 a7 k7 c7 l7 := Box.mk hF (by omega) (cell_kept hKW g2.1) (cell_kept hKW g2.2) (u2.kept hKW)
 have B8 : Box kb W p8 s8 a8 k8 c8 l8 := Box.mk hF (by omega) hy0 hy1 (u3.kept hKW)
 have B9 : Box kb W p9 s9 a9 k9 c9 l9 := Box.mk hF (by omega) hy2 hy3 (u4.kept hKW)
 have R4 := u5.kept hKW
 have nk : p4 ≠ kb := by have := u5.lt; omega
 have m1 : ¬ (p4 = p6) := by omega
 have m2 : ¬ (p4 = p7) := by omega
 have m3 : ¬ (p4 = p8) := by have := u5.lt; omega
 have m4 : ¬ (p4 = p9) := by have := u5.lt; omega
 have HP : Hid (Kept w W ∧ w.heap.size ≤ kb ∧ w.heap.size ≤ p4 ∧ p4 < W.heap.size ∧ w.heap.size ≤ W.heap.size) := ⟨u0.trans hKW, by have := u5.lt; omega, by omega, R4.lt, (u0.trans hKW).size⟩
 clear hy0 hy1 hy2 hy3 hKW hkb hp9 hp8 hp4 H67 HNN g1 g2 g3 g4 g5 g6 u0 u1 u2 u3 u4 u5
 have KK : KeptK kb W W := KeptK.refl _ _
 have q0 := B6.c0 KK
 have q1 := B6.c1 KK
 have q2 := B8.c0 KK
 have q3 := B8.c1 KK
 have q4 := B9.c0 KK
 have q5 := B9.c1 KK
 have q6 := B7.c0 KK
 have q7 := B7.c1 KK
 clear KK
 go_region_held3 (fun w' => w'.cell? ⟨p6, 0, none⟩ = some (.bool s6) ∧ w'.cell? ⟨p6, 1, none⟩ = some (.slice a6 k6 c6) ∧ w'.cell? ⟨p8, 0, none⟩ = some (.bool s8) ∧ w'.cell? ⟨p8, 1, none⟩ = some (.slice a8 k8 c8) ∧ w'.cell? ⟨p9, 0, none⟩ = some (.bool s9) ∧ w'.cell? ⟨p9, 1, none⟩ = some (.slice a9 k9 c9) ∧ w'.cell? ⟨p7, 0, none⟩ = some (.bool s7) ∧ w'.cell? ⟨p7, 1, none⟩ = some (.slice a7 k7 c7)) (go_keep) (first
  | (go_at_call_of 69 (Value.slice a6 k6 c6); refine (mul_q kb false s6 s8 (.slice a6 k6 c6) (.slice a8 k8 c8) l6 l8 _ (hF.kept (Kept.refl _).drew) (B6.sl (KeptK.of (Kept.refl _).drew)) (B8.sl (KeptK.of (Kept.refl _).drew)) (R.of_right H6.out.1) (R.of_right H8.out.1)).mono ?_; rintro e w3 ⟨hk3, x3, s3, ao3, kk3, cc3, l3, rfl, hF3, n3, r3, hx3, hy3, _, _⟩; have K3 := (KeptK.of (kb := kb) (Kept.refl W).drew).trans hk3; have H3 := hidp (And.intro r3 (And.intro hx3 hy3)); clear r3 hx3 hy3; have d0 := B6.c0 K3; have d1 := B6.c1 K3; have d2 := B8.c0 K3; have d3 := B8.c1 K3; have d4 := B9.c0 K3; have d5 := B9.c1 K3; have d6 := B7.c0 K3; have d7 := B7.c1 K3)
  | (go_at_call_of 69 (Value.slice a9 k9 c9); refine (mul_q kb x3 s9 s7 (.slice a9 k9 c9) (.slice a7 k7 c7) l9 l7 _ hF3 (B9.sl K3) (B7.sl K3) (R.of_right H8.out.2.1) (R.of_right H6.out.2.1)).mono ?_; rintro e w4 ⟨hk4, x4, s4, ao4, kk4, cc4, l4, rfl, hF4, n4, r4, hx4, hy4, _, _⟩; have K4 := K3.trans hk4; have H4 := hidp (And.intro r4 (And.intro hx4 hy4)); have n3 := New.keptK hF3 n3 hk4; have HZ3 := hidp K3.size; clear r4 hx4 hy4; have f0 := B6.c0 K4; have f1 := B6.c1 K4; have f2 := B8.c0 K4; have f3 := B8.c1 K4; have f4 := B9.c0 K4; have f5 := B9.c1 K4; have f6 := B7.c0 K4; have f7 := B7.c1 K4)
  | (go_at_call 72; refine (answer_q kb x4 s3 s4 ao3 ao4 kk3 cc3 kk4 cc4 _ hF4).mono ?_; rintro e w5 ⟨hk5, y0, y2, z1, z3, j1, e1, j3, e3, er, rfl, hcase⟩; have K5 := K4.then hk5; have HCA := hidp hcase; clear hcase; have g0 := B6.c0 K5; have g1 := B6.c1 K5; have g2 := B8.c0 K5; have g3 := B8.c1 K5; have g4 := B9.c0 K5; have g5 := B9.c1 K5; have g6 := B7.c0 K5; have g7 := B7.c1 K5; have r4' := R4.keptK nk K5; have i0 := r4'.c0; have i1 := r4'.c1; have i2 := r4'.c2; have i3 := r4'.c3; have o0 := r4'.fz 0; have o1 := r4'.fz 1; have o2 := r4'.fz 2; have o3 := r4'.fz 3))
 have HK5 := hidp (KeptK.out HP.out.1 K5 HP.out.2.1)
 have HN5 := hidp (And.intro (New.kept n3 hk5) (New.kept n4 hk5))
 have HZW := hidp (KeptK.of (kb := kb) (Kept.refl W).drew).size
 clear q0 q1 q2 q3 q4 q5 q6 q7 d0 d1 d2 d3 d4 d5 d6 d7 f0 f1 f2 f3 f4 f5 f6 f7 g0 g1 g2 g3 g4 g5 g6 g7 hk3 hk4 hk5 K3 K4 K5 hF hF3 hF4 n3 n4 B6 B7 B8 B9 R4 r4'
 go_wp2
 obtain ⟨b0, b1, b2, b3, b4⟩ := HP.out
 have hz3 := HZ3.out
 have hzw := HZW.out
 have hlA : Nat.Coprime (M.int m an).natAbs (M.val ad) := by rw [M.natAbs_int]; exact HR.out.1.low
 have hlB : Nat.Coprime (M.int n bn).natAbs (M.val bd) := by rw [M.natAbs_int]; exact HR.out.2.low
 obtain ⟨t1, t2, hP⟩ := prod_low hlA hlB HR.out.1.vpos HR.out.2.vpos (by rw [M.natAbs_int]) (by rw [M.natAbs_int]) H6.out.2.2.1 (by rw [← HR.out.2.val]; exact H6.out.2.2.2) H8.out.2.2.1 (by rw [← HR.out.1.val]; exact H8.out.2.2.2)
 have hD : (((M.int s9 l9 * M.int s7 l7).natAbs : Nat) : Int) = M.int s9 l9 * M.int s7 l7 := by have := Int.mul_pos t1 t2; omega
 have FL := flag_two (W := M.W72) (fun h => ⟨rfl, (H3.out.2.1 h).2⟩) (fun _ => H3.out.2.2 trivial) H4.out.2.1 H4.out.2.2
 refine bodyPost_ret (v := .tuple #[.agg #[.bool y0, .slice z1 j1 e1, .bool y2, .slice z3 j3 e3], .int .i64 er]) (by simp [results, Tryz.results31, go_sem, i0, i1, i2, i3]) rfl ⟨?_, _, _, hP, ?_⟩
 ·
  exact (((HK5.out.setCell b2 _).setCell b2 _).setCell b2 _).setCell b2 _
 ·
  rcases HCA.out with ⟨h0, rfl, rfl, rfl, rfl, rfl, rfl, rfl, rfl, rfl⟩ | ⟨h0, rfl, rfl, rfl, rfl, rfl, rfl, rfl, rfl, rfl⟩
  ·
   obtain ⟨w1', w2'⟩ := FL.1 h0
   exact .inl ⟨_, rfl, _, _, _, _, _, _, _, _, _, _, rfl, (set4 HN5.out.1 (by omega) _ _ _ _).mono (by omega), H3.out.1, w1', (set4 HN5.out.2 (by omega) _ _ _ _).mono (by omega), H4.out.1, by rw [w2', hD]⟩
  ·
   refine .inr ⟨rfl, fun hf => ?_⟩
   have := FL.2 hf.1 hf.2
   rw [this] at h0
   simp at h0
end F
end Go.Proofs.YtblpacgfgifkcaaGreat

namespace Go.Proofs.YtblpacgfgifkcaaGreat
open Go.RowKit
namespace F
structure IsSum (xA : Int) (yA : Nat) (xB : Int) (yB : Nat) (N : Int) (D : Nat) : Prop where
 pos : 0 < D
 low : Nat.Coprime N.natAbs D
 eq : N * (yA * yB) = (xA * yB + xB * yA) * D
theorem sum_r (m nA n nB : Bool) (a1 a2 b1 b2 : Option Addr) (k1 c1 k2 c2 k3 c3 k4 c4 : Nat) (an ad bn bd : List Nat) (w : World)
  (ha : Sl w (.slice a1 k1 c1) an) (had : Sl w (.slice a2 k2 c2) ad) (hb : Sl w (.slice b1 k3 c3) bn) (hbd : Sl w (.slice b2 k4 c4) bd) (hA : RatR m nA an ad) (hB : RatR n nB bn bd) :
  Calls Tryz.prog 29 #[.agg #[.bool m, .slice a1 k1 c1, .bool nA, .slice a2 k2 c2], .agg #[.bool n, .slice b1 k3 c3, .bool nB, .slice b2 k4 c4]] w fun e w' => Kept w w' ∧ ∃ N D, IsSum (M.int m an) (M.val ad) (M.int n bn) (M.val bd) N D ∧ SumIs w.heap.size w' e N D := by
 obtain rfl := hA.sgn
 obtain rfl := hB.sgn
 obtain ⟨g, hg⟩ : ∃ g, Nat.gcd (M.val ad) (M.val bd) = g := ⟨_, rfl⟩
 have g0 : 0 < g := by rw [← hg]; exact Nat.gcd_pos_of_pos_left _ hA.vpos
 obtain ⟨oA, hoA⟩ : g ∣ M.val ad := by rw [← hg]; exact Nat.gcd_dvd_left _ _
 obtain ⟨oB, hoB⟩ : g ∣ M.val bd := by rw [← hg]; exact Nat.gcd_dvd_right _ _
 have a0 : 0 < oA := by
  rcases Nat.eq_zero_or_pos oA with h | h
  ·
   have := hA.vpos; rw [hoA, h] at this; simp at this
  ·
   exact h
 have b0 : 0 < oB := by
  rcases Nat.eq_zero_or_pos oB with h | h
  ·
   have := hB.vpos; rw [hoB, h] at this; simp at this
  ·
   exact h
 have co : Nat.Coprime oA oB := by
  have h := Nat.coprime_div_gcd_div_gcd (m := M.val ad) (n := M.val bd) (by rw [hg]; exact g0)
  rw [hg] at h
  rw [hoA, hoB, Nat.mul_div_cancel_left _ g0, Nat.mul_div_cancel_left _ g0] at h
  exact h
 have par : FM.Par (M.int m an) (M.int n bn) g oA oB := ⟨g0, a0, b0, co, by rw [M.natAbs_int, ← hoA]; exact hA.low, by rw [M.natAbs_int, ← hoB]; exact hB.low⟩
 obtain ⟨t, g', N, ht, ht0, hgt, hS, hD, hc, he⟩ := par.reduced
 refine (sum_q m n a1 a2 b1 b2 k1 c1 k2 c2 k3 c3 k4 c4 an ad bn bd w g oA oB t g' N ha had hb hbd hA.ra hA.rd hB.ra hB.rd par hg hoA hoB ht ht0 hgt hS hD).mono ?_
 rintro e w' ⟨h1, h2⟩
 refine ⟨h1, N, _, ⟨hD, hc, ?_⟩, h2⟩
 rw [hoA, hoB]
 simp only [Int.natCast_mul]
 rw [← Int.mul_assoc]
 exact he
end F
end Go.Proofs.YtblpacgfgifkcaaGreat

namespace Go.Proofs.YtblpacgfgifkcaaGreat
open Go.RowKit
namespace F
set_option maxHeartbeats 4000000 in
theorem Add_ok (m nA n nB : Bool) (a1 a2 b1 b2 : Option Addr) (k1 c1 k2 c2 k3 c3 k4 c4 : Nat) (an ad bn bd : List Nat) (w : World)
  (ha : Sl w (.slice a1 k1 c1) an) (had : Sl w (.slice a2 k2 c2) ad) (hb : Sl w (.slice b1 k3 c3) bn) (hbd : Sl w (.slice b2 k4 c4) bd) (hA : RatR m nA an ad) (hB : RatR n nB bn bd) :
  Calls Tryz.prog 8 #[.agg #[.bool m, .slice a1 k1 c1, .bool nA, .slice a2 k2 c2], .agg #[.bool n, .slice b1 k3 c3, .bool nB, .slice b2 k4 c4]] w fun e w' => Kept w w' ∧ ∃ N D, IsSum (M.int m an) (M.val ad) (M.int n bn) (M.val bd) N D ∧ SumIs w.heap.size w' e N D := by
 have HA : Hid (Sl w (.slice a1 k1 c1) an ∧ Sl w (.slice a2 k2 c2) ad ∧ Sl w (.slice b1 k3 c3) bn ∧ Sl w (.slice b2 k4 c4) bd) := ⟨ha, had, hb, hbd⟩
 have HR : Hid (RatR m nA an ad ∧ RatR n nB bn bd) := ⟨hA, hB⟩
 have HL : Hid (an.length ≤ 72 ∧ ad.length ≤ 72 ∧ bn.length ≤ 72 ∧ bd.length ≤ 72) := ⟨hA.ra.1, hA.rd.1, hB.ra.1, hB.rd.1⟩
 clear ha had hb hbd hA hB
 have K4 : ∀ x y t u, Kept w ((((w.alloc x).alloc y).alloc t).alloc u) := fun x y t u => ((((Kept.refl w).alloc x).alloc y).alloc t).alloc u
 go_enter Tryz.func8, Tryz.ntmps8
 go_wp2_with fail
 refine (refusal_any _ (w.heap.size + 1 + 1 + 1) 0 2 2 _ _ _ _ _ _ _ _ _ _ _ (fun _ => rfl) (by omega) (RatAll.two (m := m) (n := nA) (p := n) (q := nB) (a1 := a1) (a2 := a2) (b1 := b1) (b2 := b2) (k1 := k1) (c1 := c1) (k2 := k2) (c2 := c2) (k3 := k3) (c3 := c3) (k4 := k4) (c4 := c4) (by rw [World.cell?_alloc_at _ _ _ _ (by simp)]; rfl) (by rw [World.cell?_alloc_at _ _ _ _ (by simp)]; rfl) (by rw [World.cell?_alloc_at _ _ _ _ (by simp)]; rfl) (by rw [World.cell?_alloc_at _ _ _ _ (by simp)]; rfl) (by rw [World.cell?_alloc_at _ _ _ _ (by simp)]; rfl) (by rw [World.cell?_alloc_at _ _ _ _ (by simp)]; rfl) (by rw [World.cell?_alloc_at _ _ _ _ (by simp)]; rfl) (by rw [World.cell?_alloc_at _ _ _ _ (by simp)]; rfl) (HA.out.1.kept (K4 _ _ _ _)) (HA.out.2.1.kept (K4 _ _ _ _)) (HA.out.2.2.1.kept (K4 _ _ _ _)) (HA.out.2.2.2.kept (K4 _ _ _ _)) (by have := HL.out; omega) (by have := HL.out; omega) (by have := HL.out; omega) (by have := HL.out; omega))).mono ?_
 rintro e w1 ⟨hk, c, rfl, hc⟩
 obtain rfl : c = 0 := Refused.two HR.out.1 HR.out.2 hc
 clear hc
 have rA := (RRow.alloc w (.bool m) (.slice a1 k1 c1) (.bool nA) (.slice a2 k2 c2))
 have rB := (RRow.alloc (w.alloc (.cells #[.bool m, .slice a1 k1 c1, .bool nA, .slice a2 k2 c2] 26)) (.bool n) (.slice b1 k3 c3) (.bool nB) (.slice b2 k4 c4))
 have rZ := (RRow.alloc ((w.alloc (.cells #[.bool m, .slice a1 k1 c1, .bool nA, .slice a2 k2 c2] 26)).alloc (.cells #[.bool n, .slice b1 k3 c3, .bool nB, .slice b2 k4 c4] 26)) (.bool false) (.slice none 0 0) (.bool false) (.slice none 0 0))
 have rA := rA.kept (((((Kept.refl _).alloc _).alloc _).alloc _).trans hk)
 have rB := rB.kept ((((Kept.refl _).alloc _).alloc _).trans hk)
 have rZ := rZ.kept (((Kept.refl _).alloc _).trans hk)
 simp only [World.size_alloc] at rB rZ
 have HK : Hid (Kept w w1) := (K4 _ _ _ _).trans hk
 have a0 := rA.c0
 have a1' := rA.c1
 have a2' := rA.c2
 have a3 := rA.c3
 have b0 := rB.c0
 have b1' := rB.c1
 have b2' := rB.c2
 have b3 := rB.c3
 clear rA rB hk K4
 go_wp2_with fail
 refine (sum_r m nA n nB a1 a2 b1 b2 k1 c1 k2 c2 k3 c3 k4 c4 an ad bn bd _ (HA.out.1.kept HK.out) (HA.out.2.1.kept HK.out) (HA.out.2.2.1.kept HK.out) (HA.out.2.2.2.kept HK.out) HR.out.1 HR.out.2).mono ?_
 rintro e w2 ⟨hk2, N, D, hs, hS⟩
 have HS := hid hs
 have HZ : Hid (w.heap.size + 1 + 1 < w1.heap.size) := rZ.lt
 have rZ := rZ.kept hk2
 have i0 := rZ.c0
 have i1 := rZ.c1
 have i2 := rZ.c2
 have i3 := rZ.c3
 have o0 := rZ.fz 0
 have o1 := rZ.fz 1
 have o2 := rZ.fz 2
 have o3 := rZ.fz 3
 have HK2 : Hid (Kept w w2) := HK.out.trans hk2
 clear hs hk2 rZ a0 a1' a2' a3 b0 b1' b2' b3
 rcases hS with ⟨v, rfl, s, ao, k, c, l, t, ap, k', c', l', rfl, n1, r1, v1, n2, r2, v2⟩ | ⟨rfl, hw⟩
 ·
  have HN : Hid (New w1.heap.size w2 (.slice ao k c) l ∧ M.Right s l ∧ M.int s l = N ∧ New w1.heap.size w2 (.slice ap k' c') l' ∧ M.Right t l' ∧ M.int t l' = D) := ⟨n1, r1, v1, n2, r2, v2⟩
  clear n1 r1 v1 n2 r2 v2
  go_wp2
  have hz := HZ.out
  obtain ⟨n1, r1, v1, n2, r2, v2⟩ := HN.out
  refine bodyPost_ret (v := .tuple #[.agg #[.bool s, .slice ao k c, .bool t, .slice ap k' c'], .int .i64 0]) (by simp [results, Tryz.results8, go_sem, i0, i1, i2, i3]) rfl ⟨?_, N, D, HS.out, .inl ⟨_, rfl, s, ao, k, c, l, t, ap, k', c', l', rfl, (set4 n1 (by omega) _ _ _ _).mono (by omega), r1, v1, (set4 n2 (by omega) _ _ _ _).mono (by omega), r2, v2⟩⟩
  exact (((HK2.out.setCell (by show w.heap.size ≤ w.heap.size + 1 + 1; omega) _).setCell (by show w.heap.size ≤ w.heap.size + 1 + 1; omega) _).setCell (by show w.heap.size ≤ w.heap.size + 1 + 1; omega) _).setCell (by show w.heap.size ≤ w.heap.size + 1 + 1; omega) _
 ·
  have HX := hid hw
  clear hw
  go_wp2
  refine bodyPost_ret (v := .tuple #[.agg #[.bool false, .slice none 0 0, .bool false, .slice none 0 0], .int .i64 13]) (by simp [results, Tryz.results8, go_sem, i0, i1, i2, i3]) rfl ⟨?_, N, D, HS.out, .inr ⟨rfl, HX.out⟩⟩
  exact (((HK2.out.setCell (by show w.heap.size ≤ w.heap.size + 1 + 1; omega) _).setCell (by show w.heap.size ≤ w.heap.size + 1 + 1; omega) _).setCell (by show w.heap.size ≤ w.heap.size + 1 + 1; omega) _).setCell (by show w.heap.size ≤ w.heap.size + 1 + 1; omega) _
end F
end Go.Proofs.YtblpacgfgifkcaaGreat

namespace Go.Proofs.YtblpacgfgifkcaaGreat
open Go.RowKit
namespace F
theorem opp_R {n nB : Bool} {bn bd : List Nat} (h : RatR n nB bn bd) : RatR (!n && decide (0 < bn.length)) nB bn bd ∧ M.int (!n && decide (0 < bn.length)) bn = -M.int n bn := by
 refine ⟨⟨⟨h.ra.1, fun e => by simp [e], h.ra.2.2⟩, h.rd, h.pos, h.low⟩, ?_⟩
 by_cases h0 : 0 < bn.length
 ·
  cases n <;> simp [h0, M.int]
 ·
  have : bn = [] := List.length_eq_zero_iff.1 (by omega)
  subst this
  cases n <;> simp [M.int, M.val]
theorem SumIs.form {B : Nat} {w : World} {e : Ending} {N : Int} {D : Nat} (h : SumIs B w e N D) : ∃ (y0 y2 : Bool) (z1 z3 : Option Addr) (j1 e1 j3 e3 : Nat) (er : Int), e = .returned (.tuple #[.agg #[.bool y0, .slice z1 j1 e1, .bool y2, .slice z3 j3 e3], .int .i64 er]) := by
 rcases h with ⟨v, rfl, s, ao, k, c, l, t, ap, k', c', l', rfl, _⟩ | ⟨rfl, _⟩
 ·
  exact ⟨_, _, _, _, _, _, _, _, _, rfl⟩
 ·
  exact ⟨_, _, _, _, _, _, _, _, _, rfl⟩
theorem SumIs.set4 {B p : Nat} {w : World} {e : Ending} {N : Int} {D : Nat} (h : SumIs B w e N D) (hp : p < B) (x0 x1 x2 x3 : Value) : SumIs B ((((w.setCell ⟨p, 0, none⟩ x0).setCell ⟨p, 1, none⟩ x1).setCell ⟨p, 2, none⟩ x2).setCell ⟨p, 3, none⟩ x3) e N D := by
 rcases h with ⟨v, rfl, s, ao, k, c, l, t, ap, k', c', l', rfl, n1, r1, v1, n2, r2, v2⟩ | h
 ·
  exact .inl ⟨_, rfl, s, ao, k, c, l, t, ap, k', c', l', rfl, F.set4 n1 hp _ _ _ _, r1, v1, F.set4 n2 hp _ _ _ _, r2, v2⟩
 ·
  exact .inr h
theorem SumIs.mono {B B' : Nat} {w : World} {e : Ending} {N : Int} {D : Nat} (h : SumIs B w e N D) (hB : B' ≤ B) : SumIs B' w e N D := by
 rcases h with ⟨v, rfl, s, ao, k, c, l, t, ap, k', c', l', rfl, n1, r1, v1, n2, r2, v2⟩ | h
 ·
  exact .inl ⟨_, rfl, s, ao, k, c, l, t, ap, k', c', l', rfl, n1.mono hB, r1, v1, n2.mono hB, r2, v2⟩
 ·
  exact .inr h
set_option maxHeartbeats 4000000 in
theorem Sub_ok (m nA n nB : Bool) (a1 a2 b1 b2 : Option Addr) (k1 c1 k2 c2 k3 c3 k4 c4 : Nat) (an ad bn bd : List Nat) (w : World)
  (ha : Sl w (.slice a1 k1 c1) an) (had : Sl w (.slice a2 k2 c2) ad) (hb : Sl w (.slice b1 k3 c3) bn) (hbd : Sl w (.slice b2 k4 c4) bd) (hA : RatR m nA an ad) (hB : RatR n nB bn bd) :
  Calls Tryz.prog 9 #[.agg #[.bool m, .slice a1 k1 c1, .bool nA, .slice a2 k2 c2], .agg #[.bool n, .slice b1 k3 c3, .bool nB, .slice b2 k4 c4]] w fun e w' => Kept w w' ∧ ∃ N D, IsSum (M.int m an) (M.val ad) (-M.int n bn) (M.val bd) N D ∧ SumIs w.heap.size w' e N D := by
 have HA : Hid (Sl w (.slice a1 k1 c1) an ∧ Sl w (.slice a2 k2 c2) ad ∧ Sl w (.slice b1 k3 c3) bn ∧ Sl w (.slice b2 k4 c4) bd) := ⟨ha, had, hb, hbd⟩
 have HR : Hid (RatR m nA an ad ∧ RatR n nB bn bd) := ⟨hA, hB⟩
 have HL : Hid (an.length ≤ 72 ∧ ad.length ≤ 72 ∧ bn.length ≤ 72 ∧ bd.length ≤ 72) := ⟨hA.ra.1, hA.rd.1, hB.ra.1, hB.rd.1⟩
 have eb := hb.len
 obtain ⟨s, HS⟩ : ∃ s, Hid ((!n && decide (0 < k3)) = s) := ⟨_, rfl⟩
 have HO : Hid (RatR s nB bn bd ∧ M.int s bn = -M.int n bn) := by
  have h := opp_R hB
  rw [← eb, HS.out] at h
  exact h
 clear ha had hb hbd hA hB eb
 have K4 : ∀ x y t u, Kept w ((((w.alloc x).alloc y).alloc t).alloc u) := fun x y t u => ((((Kept.refl w).alloc x).alloc y).alloc t).alloc u
 go_enter Tryz.func9, Tryz.ntmps9
 go_wp2_with fail
 refine (refusal_any _ (w.heap.size + 1 + 1 + 1) 0 2 2 _ _ _ _ _ _ _ _ _ _ _ (fun _ => rfl) (by omega) (RatAll.two (m := m) (n := nA) (p := n) (q := nB) (a1 := a1) (a2 := a2) (b1 := b1) (b2 := b2) (k1 := k1) (c1 := c1) (k2 := k2) (c2 := c2) (k3 := k3) (c3 := c3) (k4 := k4) (c4 := c4) (by rw [World.cell?_alloc_at _ _ _ _ (by simp)]; rfl) (by rw [World.cell?_alloc_at _ _ _ _ (by simp)]; rfl) (by rw [World.cell?_alloc_at _ _ _ _ (by simp)]; rfl) (by rw [World.cell?_alloc_at _ _ _ _ (by simp)]; rfl) (by rw [World.cell?_alloc_at _ _ _ _ (by simp)]; rfl) (by rw [World.cell?_alloc_at _ _ _ _ (by simp)]; rfl) (by rw [World.cell?_alloc_at _ _ _ _ (by simp)]; rfl) (by rw [World.cell?_alloc_at _ _ _ _ (by simp)]; rfl) (HA.out.1.kept (K4 _ _ _ _)) (HA.out.2.1.kept (K4 _ _ _ _)) (HA.out.2.2.1.kept (K4 _ _ _ _)) (HA.out.2.2.2.kept (K4 _ _ _ _)) (by have := HL.out; omega) (by have := HL.out; omega) (by have := HL.out; omega) (by have := HL.out; omega))).mono ?_
 rintro e w1 ⟨hk, c, rfl, hc⟩
 obtain rfl : c = 0 := Refused.two HR.out.1 HR.out.2 hc
 clear hc
 have rA := (RRow.alloc w (.bool m) (.slice a1 k1 c1) (.bool nA) (.slice a2 k2 c2))
 have rB := (RRow.alloc (w.alloc (.cells #[.bool m, .slice a1 k1 c1, .bool nA, .slice a2 k2 c2] 26)) (.bool n) (.slice b1 k3 c3) (.bool nB) (.slice b2 k4 c4))
 have rZ := (RRow.alloc ((w.alloc (.cells #[.bool m, .slice a1 k1 c1, .bool nA, .slice a2 k2 c2] 26)).alloc (.cells #[.bool n, .slice b1 k3 c3, .bool nB, .slice b2 k4 c4] 26)) (.bool false) (.slice none 0 0) (.bool false) (.slice none 0 0))
 have rA := rA.kept (((((Kept.refl _).alloc _).alloc _).alloc _).trans hk)
 have rB := rB.kept ((((Kept.refl _).alloc _).alloc _).trans hk)
 have rZ := rZ.kept (((Kept.refl _).alloc _).trans hk)
 simp only [World.size_alloc] at rB rZ
 have HK : Hid (Kept w w1) := (K4 _ _ _ _).trans hk
 obtain ⟨p4, hp4⟩ : ∃ p, p = w.heap.size + 1 + 1 := ⟨_, rfl⟩
 rw [← hp4] at rZ ⊢
 obtain ⟨p3, hp3⟩ : ∃ p, p = w.heap.size + 1 := ⟨_, rfl⟩
 rw [← hp3] at rB ⊢
 obtain ⟨p2, hp2⟩ : ∃ p, p = w.heap.size := ⟨_, rfl⟩
 rw [← hp2] at rA ⊢
 have HP : Hid (p4 = w.heap.size + 1 + 1 ∧ p4 < w1.heap.size) := ⟨hp4, rZ.lt⟩
 have n42 : ¬ (p4 = p2) := by omega
 have n43 : ¬ (p4 = p3) := by omega
 have HV : Hid (∀ V, Kept w1 V → RRow V p2 (.bool m) (.slice a1 k1 c1) (.bool nA) (.slice a2 k2 c2) ∧ RRow V p3 (.bool n) (.slice b1 k3 c3) (.bool nB) (.slice b2 k4 c4) ∧ RRow V p4 (.bool false) (.slice none 0 0) (.bool false) (.slice none 0 0)) := fun V hV => ⟨rA.kept hV, rB.kept hV, rZ.kept hV⟩
 have f0 := rA.c0
 have f1 := rA.c1
 have f2 := rA.c2
 have f3 := rA.c3
 have f4 := rB.c0
 have f5 := rB.c1
 have f6 := rB.c2
 have f7 := rB.c3
 clear rA rB rZ hk K4 hp4 hp3 hp2
 go_wp2_with fail
 go_region_held3 (fun w' => w'.cell? ⟨p2, 0, none⟩ = some (.bool m) ∧ w'.cell? ⟨p2, 1, none⟩ = some (.slice a1 k1 c1) ∧ w'.cell? ⟨p2, 2, none⟩ = some (.bool nA) ∧ w'.cell? ⟨p2, 3, none⟩ = some (.slice a2 k2 c2) ∧ w'.cell? ⟨p3, 0, none⟩ = some (.bool n) ∧ w'.cell? ⟨p3, 1, none⟩ = some (.slice b1 k3 c3) ∧ w'.cell? ⟨p3, 2, none⟩ = some (.bool nB) ∧ w'.cell? ⟨p3, 3, none⟩ = some (.slice b2 k4 c4)) (go_keep) (first
  | (go_at_call 30; refine (opposite_r n nB b1 b2 k3 c3 k4 c4 _).mono ?_; rw [HS.out]; rintro e w2 ⟨rfl, hk2⟩; have K2 := (Kept.refl w1).drew.trans hk2; have d0 := (HV.out _ K2).1.c0; have d1 := (HV.out _ K2).1.c1; have d2 := (HV.out _ K2).1.c2; have d3 := (HV.out _ K2).1.c3; have d4 := (HV.out _ K2).2.1.c0; have d5 := (HV.out _ K2).2.1.c1; have d6 := (HV.out _ K2).2.1.c2; have d7 := (HV.out _ K2).2.1.c3)
  | (go_at_call 29; refine (sum_r m nA s nB a1 a2 b1 b2 k1 c1 k2 c2 k3 c3 k4 c4 an ad bn bd _ (HA.out.1.kept (HK.out.trans K2)) (HA.out.2.1.kept (HK.out.trans K2)) (HA.out.2.2.1.kept (HK.out.trans K2)) (HA.out.2.2.2.kept (HK.out.trans K2)) HR.out.1 HO.out.1).mono ?_; rw [HO.out.2]; rintro e w3 ⟨hk3, N, D, hs, hS⟩; obtain ⟨y0, y2, z1, z3, j1, e1, j3, e3, er, rfl⟩ := hS.form; have HSS := hid' (And.intro hs hS); clear hs hS; have K3 := K2.trans hk3; have HZ2 := hid' K2.size; have g0 := (HV.out _ K3).1.c0; have g1 := (HV.out _ K3).1.c1; have g2 := (HV.out _ K3).1.c2; have g3 := (HV.out _ K3).1.c3; have g4 := (HV.out _ K3).2.1.c0; have g5 := (HV.out _ K3).2.1.c1; have g6 := (HV.out _ K3).2.1.c2; have g7 := (HV.out _ K3).2.1.c3; have i0 := (HV.out _ K3).2.2.c0; have i1 := (HV.out _ K3).2.2.c1; have i2 := (HV.out _ K3).2.2.c2; have i3 := (HV.out _ K3).2.2.c3; have o0 := (HV.out _ K3).2.2.fz 0; have o1 := (HV.out _ K3).2.2.fz 1; have o2 := (HV.out _ K3).2.2.fz 2; have o3 := (HV.out _ K3).2.2.fz 3))
 have HK3 := hid' (HK.out.trans K3)
 clear f0 f1 f2 f3 f4 f5 f6 f7 d0 d1 d2 d3 d4 d5 d6 d7 g0 g1 g2 g3 g4 g5 g6 g7 hk2 hk3 K2 K3 HV
 go_wp2
 have hp := HP.out
 have hz := HZ2.out
 refine bodyPost_ret (v := .tuple #[.agg #[.bool y0, .slice z1 j1 e1, .bool y2, .slice z3 j3 e3], .int .i64 er]) (by simp [results, Tryz.results9, go_sem, i0, i1, i2, i3]) rfl ⟨?_, N, D, HSS.out.1, ?_⟩
 ·
  exact (((HK3.out.setCell (by show w.heap.size ≤ p4; omega) _).setCell (by show w.heap.size ≤ p4; omega) _).setCell (by show w.heap.size ≤ p4; omega) _).setCell (by show w.heap.size ≤ p4; omega) _
 ·
  exact (HSS.out.2.set4 (by omega) _ _ _ _).mono (by omega)
end F
end Go.Proofs.YtblpacgfgifkcaaGreat

namespace Go.Proofs.YtblpacgfgifkcaaGreat
open Go.RowKit
namespace F
theorem val_len' {l : List Nat} (h : 0 < M.val l) : 0 < l.length := by
 apply Classical.byContradiction
 intro h0
 have : l = [] := List.length_eq_zero_iff.1 (by omega)
 subst this
 simp [M.val] at h
theorem inv_R {n nB : Bool} {bn bd : List Nat} (h : RatR n nB bn bd) (hz : M.int n bn ≠ 0) : RatR n false bd bn := by
 have hl := val_len' h.vpos
 have hv : 0 < M.val bn := by
  rcases Nat.eq_zero_or_pos (M.val bn) with h0 | h0
  ·
   exfalso; apply hz; have := M.natAbs_int n bn; omega
  ·
   exact h0
 exact ⟨⟨h.rd.1, fun e => by omega, h.rd.2.2⟩, ⟨h.ra.1, fun _ => rfl, h.ra.2.2⟩, by simp [M.int]; omega, by rw [Nat.gcd_comm]; exact h.low⟩
set_option maxHeartbeats 2000000 in
theorem inverse_r (m n : Bool) (aoa aob : Option Addr) (ka ca kb cb : Nat) (w : World) :
  Calls Tryz.prog 33 #[.agg #[.bool m, .slice aoa ka ca, .bool n, .slice aob kb cb]] w fun e w' => e = .returned (.agg #[.bool (m && decide (0 < kb)), .slice aob kb cb, .bool false, .slice aoa ka ca]) ∧ Kept w w' := by
 obtain ⟨s, HS⟩ : ∃ s, Hid ((m && decide (0 < kb)) = s) := ⟨_, rfl⟩
 rw [HS.out]
 have rA := (RRow.alloc w (.bool m) (.slice aoa ka ca) (.bool n) (.slice aob kb cb)).kept ((Kept.refl _).alloc (.cells #[.bool false, .slice none 0 0, .bool false, .slice none 0 0] 26))
 have rZ := RRow.alloc (w.alloc (.cells #[.bool m, .slice aoa ka ca, .bool n, .slice aob kb cb] 26)) (.bool false) (.slice none 0 0) (.bool false) (.slice none 0 0)
 simp only [World.size_alloc] at rZ
 have hK : Kept w ((w.alloc (.cells #[.bool m, .slice aoa ka ca, .bool n, .slice aob kb cb] 26)).alloc (.cells #[.bool false, .slice none 0 0, .bool false, .slice none 0 0] 26)) := ((Kept.refl w).alloc _).alloc _
 go_enter Tryz.func33, Tryz.ntmps33
 go_upto_region 1 with fail
 generalize (w.alloc (.cells #[.bool m, .slice aoa ka ca, .bool n, .slice aob kb cb] 26)).alloc (.cells #[.bool false, .slice none 0 0, .bool false, .slice none 0 0] 26) = W at rA rZ hK ⊢
 obtain ⟨p2, hp2⟩ : ∃ p, p = w.heap.size + 1 := ⟨_, rfl⟩
 rw [← hp2] at rZ ⊢
 obtain ⟨p1, hp1⟩ : ∃ p, p = w.heap.size := ⟨_, rfl⟩
 rw [← hp1] at rA ⊢
 have n21 : ¬ (p2 = p1) := by omega
 have HP : Hid (w.heap.size ≤ p2 ∧ Kept w W) := ⟨by omega, hK⟩
 have HV : Hid (∀ V, Kept W V → RRow V p1 (.bool m) (.slice aoa ka ca) (.bool n) (.slice aob kb cb) ∧ RRow V p2 (.bool false) (.slice none 0 0) (.bool false) (.slice none 0 0)) := fun V hV => ⟨rA.kept hV, rZ.kept hV⟩
 have q0 := rA.c0
 have q1 := rA.c1
 have q2 := rA.c2
 have q3 := rA.c3
 clear rA rZ hK hp1 hp2
 go_region_held3 (fun w' => w'.cell? ⟨p1, 0, none⟩ = some (.bool m) ∧ w'.cell? ⟨p1, 1, none⟩ = some (.slice aoa ka ca) ∧ w'.cell? ⟨p1, 2, none⟩ = some (.bool n) ∧ w'.cell? ⟨p1, 3, none⟩ = some (.slice aob kb cb)) (go_keep) (first
  | (go_at_call_of 74 (Value.slice aob kb cb); refine (signed_r m n aob kb cb _).mono ?_; rw [HS.out]; rintro e w1 ⟨rfl, hk1⟩; have K1 := (Kept.refl W).drew.trans hk1; have d0 := (HV.out _ K1).1.c0; have d1 := (HV.out _ K1).1.c1; have d2 := (HV.out _ K1).1.c2; have d3 := (HV.out _ K1).1.c3)
  | (go_at_call_of 74 (Value.slice aoa ka ca); refine (signed_r false m aoa ka ca _).mono ?_; rw [Bool.false_and]; rintro e w2 ⟨rfl, hk2⟩; have K2 := K1.trans hk2; have f0 := (HV.out _ K2).1.c0; have f1 := (HV.out _ K2).1.c1; have f2 := (HV.out _ K2).1.c2; have f3 := (HV.out _ K2).1.c3; have i0 := (HV.out _ K2).2.c0; have i1 := (HV.out _ K2).2.c1; have i2 := (HV.out _ K2).2.c2; have i3 := (HV.out _ K2).2.c3; have o0 := (HV.out _ K2).2.fz 0; have o1 := (HV.out _ K2).2.fz 1; have o2 := (HV.out _ K2).2.fz 2; have o3 := (HV.out _ K2).2.fz 3))
 have HK2 := hidp (HP.out.2.trans K2)
 clear q0 q1 q2 q3 d0 d1 d2 d3 f0 f1 f2 f3 hk1 hk2 K1 K2 HV
 go_wp2
 have b := HP.out.1
 refine bodyPost_ret (v := .agg #[.bool s, .slice aob kb cb, .bool false, .slice aoa ka ca]) (by simp [results, Tryz.results33, go_sem, i0, i1, i2, i3]) rfl ⟨rfl, ?_⟩
 exact (((HK2.out.setCell b _).setCell b _).setCell b _).setCell b _
set_option maxHeartbeats 4000000 in
theorem Mul_ok (m nA n nB : Bool) (a1 a2 b1 b2 : Option Addr) (k1 c1 k2 c2 k3 c3 k4 c4 : Nat) (an ad bn bd : List Nat) (w : World)
  (ha : Sl w (.slice a1 k1 c1) an) (had : Sl w (.slice a2 k2 c2) ad) (hb : Sl w (.slice b1 k3 c3) bn) (hbd : Sl w (.slice b2 k4 c4) bd) (hA : RatR m nA an ad) (hB : RatR n nB bn bd) :
  Calls Tryz.prog 10 #[.agg #[.bool m, .slice a1 k1 c1, .bool nA, .slice a2 k2 c2], .agg #[.bool n, .slice b1 k3 c3, .bool nB, .slice b2 k4 c4]] w fun e w' => Kept w w' ∧ ∃ N D, IsProd (M.int m an) (M.val ad) (M.int n bn) (M.val bd) N D ∧ SumIs w.heap.size w' e N D := by
 have HA : Hid (Sl w (.slice a1 k1 c1) an ∧ Sl w (.slice a2 k2 c2) ad ∧ Sl w (.slice b1 k3 c3) bn ∧ Sl w (.slice b2 k4 c4) bd) := ⟨ha, had, hb, hbd⟩
 have HR : Hid (RatR m nA an ad ∧ RatR n nB bn bd) := ⟨hA, hB⟩
 have HL : Hid (an.length ≤ 72 ∧ ad.length ≤ 72 ∧ bn.length ≤ 72 ∧ bd.length ≤ 72) := ⟨hA.ra.1, hA.rd.1, hB.ra.1, hB.rd.1⟩
 clear ha had hb hbd hA hB
 have K4 : ∀ x y t u, Kept w ((((w.alloc x).alloc y).alloc t).alloc u) := fun x y t u => ((((Kept.refl w).alloc x).alloc y).alloc t).alloc u
 go_enter Tryz.func10, Tryz.ntmps10
 go_wp2_with fail
 refine (refusal_any _ (w.heap.size + 1 + 1 + 1) 0 2 2 _ _ _ _ _ _ _ _ _ _ _ (fun _ => rfl) (by omega) (RatAll.two (m := m) (n := nA) (p := n) (q := nB) (a1 := a1) (a2 := a2) (b1 := b1) (b2 := b2) (k1 := k1) (c1 := c1) (k2 := k2) (c2 := c2) (k3 := k3) (c3 := c3) (k4 := k4) (c4 := c4) (by rw [World.cell?_alloc_at _ _ _ _ (by simp)]; rfl) (by rw [World.cell?_alloc_at _ _ _ _ (by simp)]; rfl) (by rw [World.cell?_alloc_at _ _ _ _ (by simp)]; rfl) (by rw [World.cell?_alloc_at _ _ _ _ (by simp)]; rfl) (by rw [World.cell?_alloc_at _ _ _ _ (by simp)]; rfl) (by rw [World.cell?_alloc_at _ _ _ _ (by simp)]; rfl) (by rw [World.cell?_alloc_at _ _ _ _ (by simp)]; rfl) (by rw [World.cell?_alloc_at _ _ _ _ (by simp)]; rfl) (HA.out.1.kept (K4 _ _ _ _)) (HA.out.2.1.kept (K4 _ _ _ _)) (HA.out.2.2.1.kept (K4 _ _ _ _)) (HA.out.2.2.2.kept (K4 _ _ _ _)) (by have := HL.out; omega) (by have := HL.out; omega) (by have := HL.out; omega) (by have := HL.out; omega))).mono ?_
 rintro e w1 ⟨hk, c, rfl, hc⟩
 obtain rfl : c = 0 := Refused.two HR.out.1 HR.out.2 hc
 clear hc
 have rA := (RRow.alloc w (.bool m) (.slice a1 k1 c1) (.bool nA) (.slice a2 k2 c2))
 have rB := (RRow.alloc (w.alloc (.cells #[.bool m, .slice a1 k1 c1, .bool nA, .slice a2 k2 c2] 26)) (.bool n) (.slice b1 k3 c3) (.bool nB) (.slice b2 k4 c4))
 have rZ := (RRow.alloc ((w.alloc (.cells #[.bool m, .slice a1 k1 c1, .bool nA, .slice a2 k2 c2] 26)).alloc (.cells #[.bool n, .slice b1 k3 c3, .bool nB, .slice b2 k4 c4] 26)) (.bool false) (.slice none 0 0) (.bool false) (.slice none 0 0))
 have rA := rA.kept (((((Kept.refl _).alloc _).alloc _).alloc _).trans hk)
 have rB := rB.kept ((((Kept.refl _).alloc _).alloc _).trans hk)
 have rZ := rZ.kept (((Kept.refl _).alloc _).trans hk)
 simp only [World.size_alloc] at rB rZ
 have HK : Hid (Kept w w1) := (K4 _ _ _ _).trans hk
 have a0 := rA.c0
 have a1' := rA.c1
 have a2' := rA.c2
 have a3 := rA.c3
 have b0 := rB.c0
 have b1' := rB.c1
 have b2' := rB.c2
 have b3 := rB.c3
 clear rA rB hk K4
 go_wp2_with fail
 refine (product_r m nA n nB a1 a2 b1 b2 k1 c1 k2 c2 k3 c3 k4 c4 an ad bn bd _ (HA.out.1.kept HK.out) (HA.out.2.1.kept HK.out) (HA.out.2.2.1.kept HK.out) (HA.out.2.2.2.kept HK.out) HR.out.1 HR.out.2).mono ?_
 rintro e w2 ⟨hk2, N, D, hs, hS⟩
 have HS := hid hs
 have HZ : Hid (w.heap.size + 1 + 1 < w1.heap.size) := rZ.lt
 have rZ := rZ.kept hk2
 have i0 := rZ.c0
 have i1 := rZ.c1
 have i2 := rZ.c2
 have i3 := rZ.c3
 have o0 := rZ.fz 0
 have o1 := rZ.fz 1
 have o2 := rZ.fz 2
 have o3 := rZ.fz 3
 have HK2 : Hid (Kept w w2) := HK.out.trans hk2
 clear hs hk2 rZ a0 a1' a2' a3 b0 b1' b2' b3
 rcases hS with ⟨v, rfl, s, ao, k, c, l, t, ap, k', c', l', rfl, n1, r1, v1, n2, r2, v2⟩ | ⟨rfl, hw⟩
 ·
  have HN : Hid (New w1.heap.size w2 (.slice ao k c) l ∧ M.Right s l ∧ M.int s l = N ∧ New w1.heap.size w2 (.slice ap k' c') l' ∧ M.Right t l' ∧ M.int t l' = D) := ⟨n1, r1, v1, n2, r2, v2⟩
  clear n1 r1 v1 n2 r2 v2
  go_wp2
  have hz := HZ.out
  obtain ⟨n1, r1, v1, n2, r2, v2⟩ := HN.out
  refine bodyPost_ret (v := .tuple #[.agg #[.bool s, .slice ao k c, .bool t, .slice ap k' c'], .int .i64 0]) (by simp [results, Tryz.results10, go_sem, i0, i1, i2, i3]) rfl ⟨?_, N, D, HS.out, .inl ⟨_, rfl, s, ao, k, c, l, t, ap, k', c', l', rfl, (set4 n1 (by omega) _ _ _ _).mono (by omega), r1, v1, (set4 n2 (by omega) _ _ _ _).mono (by omega), r2, v2⟩⟩
  exact (((HK2.out.setCell (by show w.heap.size ≤ w.heap.size + 1 + 1; omega) _).setCell (by show w.heap.size ≤ w.heap.size + 1 + 1; omega) _).setCell (by show w.heap.size ≤ w.heap.size + 1 + 1; omega) _).setCell (by show w.heap.size ≤ w.heap.size + 1 + 1; omega) _
 ·
  have HX := hid hw
  clear hw
  go_wp2
  refine bodyPost_ret (v := .tuple #[.agg #[.bool false, .slice none 0 0, .bool false, .slice none 0 0], .int .i64 13]) (by simp [results, Tryz.results10, go_sem, i0, i1, i2, i3]) rfl ⟨?_, N, D, HS.out, .inr ⟨rfl, HX.out⟩⟩
  exact (((HK2.out.setCell (by show w.heap.size ≤ w.heap.size + 1 + 1; omega) _).setCell (by show w.heap.size ≤ w.heap.size + 1 + 1; omega) _).setCell (by show w.heap.size ≤ w.heap.size + 1 + 1; omega) _).setCell (by show w.heap.size ≤ w.heap.size + 1 + 1; omega) _
set_option maxHeartbeats 4000000 in
theorem Div_ok (m nA n nB : Bool) (a1 a2 b1 b2 : Option Addr) (k1 c1 k2 c2 k3 c3 k4 c4 : Nat) (an ad bn bd : List Nat) (w : World)
  (ha : Sl w (.slice a1 k1 c1) an) (had : Sl w (.slice a2 k2 c2) ad) (hb : Sl w (.slice b1 k3 c3) bn) (hbd : Sl w (.slice b2 k4 c4) bd) (hA : RatR m nA an ad) (hB : RatR n nB bn bd) (hz : M.int n bn ≠ 0) :
  Calls Tryz.prog 11 #[.agg #[.bool m, .slice a1 k1 c1, .bool nA, .slice a2 k2 c2], .agg #[.bool n, .slice b1 k3 c3, .bool nB, .slice b2 k4 c4]] w fun e w' => Kept w w' ∧ ∃ N D, IsProd (M.int m an) (M.val ad) (M.int n bd) (M.val bn) N D ∧ SumIs w.heap.size w' e N D := by
 have HA : Hid (Sl w (.slice a1 k1 c1) an ∧ Sl w (.slice a2 k2 c2) ad ∧ Sl w (.slice b1 k3 c3) bn ∧ Sl w (.slice b2 k4 c4) bd) := ⟨ha, had, hb, hbd⟩
 have HR : Hid (RatR m nA an ad ∧ RatR n nB bn bd) := ⟨hA, hB⟩
 have HL : Hid (an.length ≤ 72 ∧ ad.length ≤ 72 ∧ bn.length ≤ 72 ∧ bd.length ≤ 72) := ⟨hA.ra.1, hA.rd.1, hB.ra.1, hB.rd.1⟩
 have ebd := hbd.len
 have hbl : 0 < bd.length := val_len' hB.vpos
 have hs4 : (n && decide (0 < k4)) = n := by rw [ebd]; simp [hbl]
 have HO : Hid (RatR n false bd bn) := inv_R hB hz
 obtain ⟨sb, HSB⟩ : ∃ s, Hid (isgn (M.int n bn) 0 = s) := ⟨_, rfl⟩
 have hsb : (sb == 0) = false := by
  rw [← HSB.out]
  rcases Int.lt_trichotomy (M.int n bn) 0 with h | h | h
  ·
   rw [show isgn (M.int n bn) 0 = -1 by unfold isgn; rw [if_pos h]]; rfl
  ·
   exact absurd h hz
  ·
   rw [show isgn (M.int n bn) 0 = 1 by unfold isgn; rw [if_neg (by omega), if_neg (by omega)]]; rfl
 clear ha had hb hbd hA hB ebd hbl hz
 have K4 : ∀ x y t u, Kept w ((((w.alloc x).alloc y).alloc t).alloc u) := fun x y t u => ((((Kept.refl w).alloc x).alloc y).alloc t).alloc u
 go_enter Tryz.func11, Tryz.ntmps11
 go_wp2_with fail
 refine (refusal_any _ (w.heap.size + 1 + 1 + 1) 0 2 2 _ _ _ _ _ _ _ _ _ _ _ (fun _ => rfl) (by omega) (RatAll.two (m := m) (n := nA) (p := n) (q := nB) (a1 := a1) (a2 := a2) (b1 := b1) (b2 := b2) (k1 := k1) (c1 := c1) (k2 := k2) (c2 := c2) (k3 := k3) (c3 := c3) (k4 := k4) (c4 := c4) (by rw [World.cell?_alloc_at _ _ _ _ (by simp)]; rfl) (by rw [World.cell?_alloc_at _ _ _ _ (by simp)]; rfl) (by rw [World.cell?_alloc_at _ _ _ _ (by simp)]; rfl) (by rw [World.cell?_alloc_at _ _ _ _ (by simp)]; rfl) (by rw [World.cell?_alloc_at _ _ _ _ (by simp)]; rfl) (by rw [World.cell?_alloc_at _ _ _ _ (by simp)]; rfl) (by rw [World.cell?_alloc_at _ _ _ _ (by simp)]; rfl) (by rw [World.cell?_alloc_at _ _ _ _ (by simp)]; rfl) (HA.out.1.kept (K4 _ _ _ _)) (HA.out.2.1.kept (K4 _ _ _ _)) (HA.out.2.2.1.kept (K4 _ _ _ _)) (HA.out.2.2.2.kept (K4 _ _ _ _)) (by have := HL.out; omega) (by have := HL.out; omega) (by have := HL.out; omega) (by have := HL.out; omega))).mono ?_
 rintro e w1 ⟨hk, c, rfl, hc⟩
 obtain rfl : c = 0 := Refused.two HR.out.1 HR.out.2 hc
 clear hc
 have rA := (RRow.alloc w (.bool m) (.slice a1 k1 c1) (.bool nA) (.slice a2 k2 c2))
 have rB := (RRow.alloc (w.alloc (.cells #[.bool m, .slice a1 k1 c1, .bool nA, .slice a2 k2 c2] 26)) (.bool n) (.slice b1 k3 c3) (.bool nB) (.slice b2 k4 c4))
 have rZ := (RRow.alloc ((w.alloc (.cells #[.bool m, .slice a1 k1 c1, .bool nA, .slice a2 k2 c2] 26)).alloc (.cells #[.bool n, .slice b1 k3 c3, .bool nB, .slice b2 k4 c4] 26)) (.bool false) (.slice none 0 0) (.bool false) (.slice none 0 0))
 have rA := rA.kept (((((Kept.refl _).alloc _).alloc _).alloc _).trans hk)
 have rB := rB.kept ((((Kept.refl _).alloc _).alloc _).trans hk)
 have rZ := rZ.kept (((Kept.refl _).alloc _).trans hk)
 simp only [World.size_alloc] at rB rZ
 have HK : Hid (Kept w w1) := (K4 _ _ _ _).trans hk
 obtain ⟨p4, hp4⟩ : ∃ p, p = w.heap.size + 1 + 1 := ⟨_, rfl⟩
 rw [← hp4] at rZ ⊢
 obtain ⟨p3, hp3⟩ : ∃ p, p = w.heap.size + 1 := ⟨_, rfl⟩
 rw [← hp3] at rB ⊢
 obtain ⟨p2, hp2⟩ : ∃ p, p = w.heap.size := ⟨_, rfl⟩
 rw [← hp2] at rA ⊢
 have HP : Hid (p4 = w.heap.size + 1 + 1 ∧ p4 < w1.heap.size) := ⟨hp4, rZ.lt⟩
 have n42 : ¬ (p4 = p2) := by omega
 have n43 : ¬ (p4 = p3) := by omega
 have HV : Hid (∀ V, Kept w1 V → RRow V p2 (.bool m) (.slice a1 k1 c1) (.bool nA) (.slice a2 k2 c2) ∧ RRow V p3 (.bool n) (.slice b1 k3 c3) (.bool nB) (.slice b2 k4 c4) ∧ RRow V p4 (.bool false) (.slice none 0 0) (.bool false) (.slice none 0 0)) := fun V hV => ⟨rA.kept hV, rB.kept hV, rZ.kept hV⟩
 have f0 := rA.c0
 have f1 := rA.c1
 have f2 := rA.c2
 have f3 := rA.c3
 have f4 := rB.c0
 have f5 := rB.c1
 have f6 := rB.c2
 have f7 := rB.c3
 clear rA rB rZ hk K4 hp4 hp3 hp2
 go_wp2_with fail
 refine (sign_any n b1 k3 c3 bn _ (HA.out.2.2.1.kept HK.out) HR.out.2.ra).mono ?_
 rw [HSB.out]
 rintro e w1' ⟨rfl, hkq⟩
 clear f0 f1 f2 f3 f4 f5 f6 f7
 have HV : Hid (∀ V, Kept w1' V → RRow V p2 (.bool m) (.slice a1 k1 c1) (.bool nA) (.slice a2 k2 c2) ∧ RRow V p3 (.bool n) (.slice b1 k3 c3) (.bool nB) (.slice b2 k4 c4) ∧ RRow V p4 (.bool false) (.slice none 0 0) (.bool false) (.slice none 0 0)) := fun V hV => HV.out V (hkq.trans hV)
 have HK : Hid (Kept w w1') := HK.out.trans hkq
 have HP : Hid (p4 = w.heap.size + 1 + 1 ∧ p4 < w1'.heap.size) := ⟨HP.out.1, Nat.lt_of_lt_of_le HP.out.2 hkq.size⟩
 obtain ⟨rA, rB, rZ⟩ := HV.out _ (Kept.refl _)
 have f0 := rA.c0
 have f1 := rA.c1
 have f2 := rA.c2
 have f3 := rA.c3
 have f4 := rB.c0
 have f5 := rB.c1
 have f6 := rB.c2
 have f7 := rB.c3
 clear rA rB rZ hkq
 go_wp2_with fail
 go_region_held3 (fun w' => w'.cell? ⟨p2, 0, none⟩ = some (.bool m) ∧ w'.cell? ⟨p2, 1, none⟩ = some (.slice a1 k1 c1) ∧ w'.cell? ⟨p2, 2, none⟩ = some (.bool nA) ∧ w'.cell? ⟨p2, 3, none⟩ = some (.slice a2 k2 c2) ∧ w'.cell? ⟨p3, 0, none⟩ = some (.bool n) ∧ w'.cell? ⟨p3, 1, none⟩ = some (.slice b1 k3 c3) ∧ w'.cell? ⟨p3, 2, none⟩ = some (.bool nB) ∧ w'.cell? ⟨p3, 3, none⟩ = some (.slice b2 k4 c4)) (go_keep) (first
  | (go_at_call 33; refine (inverse_r n nB b1 b2 k3 c3 k4 c4 _).mono ?_; rw [hs4]; rintro e w2 ⟨rfl, hk2⟩; have K2 := (Kept.refl w1').drew.trans hk2; have d0 := (HV.out _ K2).1.c0; have d1 := (HV.out _ K2).1.c1; have d2 := (HV.out _ K2).1.c2; have d3 := (HV.out _ K2).1.c3; have d4 := (HV.out _ K2).2.1.c0; have d5 := (HV.out _ K2).2.1.c1; have d6 := (HV.out _ K2).2.1.c2; have d7 := (HV.out _ K2).2.1.c3)
  | (go_at_call 31; refine (product_r m nA n false a1 a2 b2 b1 k1 c1 k2 c2 k4 c4 k3 c3 an ad bd bn _ (HA.out.1.kept (HK.out.trans K2)) (HA.out.2.1.kept (HK.out.trans K2)) (HA.out.2.2.2.kept (HK.out.trans K2)) (HA.out.2.2.1.kept (HK.out.trans K2)) HR.out.1 HO.out).mono ?_; rintro e w3 ⟨hk3, N, D, hs, hS⟩; obtain ⟨y0, y2, z1, z3, j1, e1, j3, e3, er, rfl⟩ := hS.form; have HSS := hid' (And.intro hs hS); clear hs hS; have K3 := K2.trans hk3; have HZ2 := hid' K2.size; have g0 := (HV.out _ K3).1.c0; have g1 := (HV.out _ K3).1.c1; have g2 := (HV.out _ K3).1.c2; have g3 := (HV.out _ K3).1.c3; have g4 := (HV.out _ K3).2.1.c0; have g5 := (HV.out _ K3).2.1.c1; have g6 := (HV.out _ K3).2.1.c2; have g7 := (HV.out _ K3).2.1.c3; have i0 := (HV.out _ K3).2.2.c0; have i1 := (HV.out _ K3).2.2.c1; have i2 := (HV.out _ K3).2.2.c2; have i3 := (HV.out _ K3).2.2.c3; have o0 := (HV.out _ K3).2.2.fz 0; have o1 := (HV.out _ K3).2.2.fz 1; have o2 := (HV.out _ K3).2.2.fz 2; have o3 := (HV.out _ K3).2.2.fz 3))
 have HK3 := hid' (HK.out.trans K3)
 clear f0 f1 f2 f3 f4 f5 f6 f7 d0 d1 d2 d3 d4 d5 d6 d7 g0 g1 g2 g3 g4 g5 g6 g7 hk2 hk3 K2 K3 HV
 go_wp2
 have hp := HP.out
 have hz := HZ2.out
 refine bodyPost_ret (v := .tuple #[.agg #[.bool y0, .slice z1 j1 e1, .bool y2, .slice z3 j3 e3], .int .i64 er]) (by simp [results, Tryz.results11, go_sem, i0, i1, i2, i3]) rfl ⟨?_, N, D, HSS.out.1, ?_⟩
 ·
  exact (((HK3.out.setCell (by show w.heap.size ≤ p4; omega) _).setCell (by show w.heap.size ≤ p4; omega) _).setCell (by show w.heap.size ≤ p4; omega) _).setCell (by show w.heap.size ≤ p4; omega) _
 ·
  exact (HSS.out.2.set4 (by omega) _ _ _ _).mono (by omega)
set_option maxHeartbeats 4000000 in
theorem Div_zero (m nA n nB : Bool) (a1 a2 b1 b2 : Option Addr) (k1 c1 k2 c2 k3 c3 k4 c4 : Nat) (an ad bn bd : List Nat) (w : World)
  (ha : Sl w (.slice a1 k1 c1) an) (had : Sl w (.slice a2 k2 c2) ad) (hb : Sl w (.slice b1 k3 c3) bn) (hbd : Sl w (.slice b2 k4 c4) bd) (hA : RatR m nA an ad) (hB : RatR n nB bn bd) (hz : M.int n bn = 0) :
  Calls Tryz.prog 11 #[.agg #[.bool m, .slice a1 k1 c1, .bool nA, .slice a2 k2 c2], .agg #[.bool n, .slice b1 k3 c3, .bool nB, .slice b2 k4 c4]] w fun e w' => Kept w w' ∧ e = .returned (.tuple #[.agg #[.bool false, .slice none 0 0, .bool false, .slice none 0 0], .int .i64 11]) := by
 have HA : Hid (Sl w (.slice a1 k1 c1) an ∧ Sl w (.slice a2 k2 c2) ad ∧ Sl w (.slice b1 k3 c3) bn ∧ Sl w (.slice b2 k4 c4) bd) := ⟨ha, had, hb, hbd⟩
 have HR : Hid (RatR m nA an ad ∧ RatR n nB bn bd) := ⟨hA, hB⟩
 have HL : Hid (an.length ≤ 72 ∧ ad.length ≤ 72 ∧ bn.length ≤ 72 ∧ bd.length ≤ 72) := ⟨hA.ra.1, hA.rd.1, hB.ra.1, hB.rd.1⟩
 have HSB : Hid (isgn (M.int n bn) 0 = 0) := by show _ = _; rw [hz]; rfl
 clear ha had hb hbd hA hB hz
 have K4 : ∀ x y t u, Kept w ((((w.alloc x).alloc y).alloc t).alloc u) := fun x y t u => ((((Kept.refl w).alloc x).alloc y).alloc t).alloc u
 go_enter Tryz.func11, Tryz.ntmps11
 go_wp2_with fail
 refine (refusal_any _ (w.heap.size + 1 + 1 + 1) 0 2 2 _ _ _ _ _ _ _ _ _ _ _ (fun _ => rfl) (by omega) (RatAll.two (m := m) (n := nA) (p := n) (q := nB) (a1 := a1) (a2 := a2) (b1 := b1) (b2 := b2) (k1 := k1) (c1 := c1) (k2 := k2) (c2 := c2) (k3 := k3) (c3 := c3) (k4 := k4) (c4 := c4) (by rw [World.cell?_alloc_at _ _ _ _ (by simp)]; rfl) (by rw [World.cell?_alloc_at _ _ _ _ (by simp)]; rfl) (by rw [World.cell?_alloc_at _ _ _ _ (by simp)]; rfl) (by rw [World.cell?_alloc_at _ _ _ _ (by simp)]; rfl) (by rw [World.cell?_alloc_at _ _ _ _ (by simp)]; rfl) (by rw [World.cell?_alloc_at _ _ _ _ (by simp)]; rfl) (by rw [World.cell?_alloc_at _ _ _ _ (by simp)]; rfl) (by rw [World.cell?_alloc_at _ _ _ _ (by simp)]; rfl) (HA.out.1.kept (K4 _ _ _ _)) (HA.out.2.1.kept (K4 _ _ _ _)) (HA.out.2.2.1.kept (K4 _ _ _ _)) (HA.out.2.2.2.kept (K4 _ _ _ _)) (by have := HL.out; omega) (by have := HL.out; omega) (by have := HL.out; omega) (by have := HL.out; omega))).mono ?_
 rintro e w1 ⟨hk, c, rfl, hc⟩
 obtain rfl : c = 0 := Refused.two HR.out.1 HR.out.2 hc
 clear hc
 have rA := (RRow.alloc w (.bool m) (.slice a1 k1 c1) (.bool nA) (.slice a2 k2 c2))
 have rB := (RRow.alloc (w.alloc (.cells #[.bool m, .slice a1 k1 c1, .bool nA, .slice a2 k2 c2] 26)) (.bool n) (.slice b1 k3 c3) (.bool nB) (.slice b2 k4 c4))
 have rZ := (RRow.alloc ((w.alloc (.cells #[.bool m, .slice a1 k1 c1, .bool nA, .slice a2 k2 c2] 26)).alloc (.cells #[.bool n, .slice b1 k3 c3, .bool nB, .slice b2 k4 c4] 26)) (.bool false) (.slice none 0 0) (.bool false) (.slice none 0 0))
 have rA := rA.kept (((((Kept.refl _).alloc _).alloc _).alloc _).trans hk)
 have rB := rB.kept ((((Kept.refl _).alloc _).alloc _).trans hk)
 have rZ := rZ.kept (((Kept.refl _).alloc _).trans hk)
 simp only [World.size_alloc] at rB rZ
 have HK : Hid (Kept w w1) := (K4 _ _ _ _).trans hk
 obtain ⟨p4, hp4⟩ : ∃ p, p = w.heap.size + 1 + 1 := ⟨_, rfl⟩
 rw [← hp4] at rZ ⊢
 obtain ⟨p3, hp3⟩ : ∃ p, p = w.heap.size + 1 := ⟨_, rfl⟩
 rw [← hp3] at rB ⊢
 obtain ⟨p2, hp2⟩ : ∃ p, p = w.heap.size := ⟨_, rfl⟩
 rw [← hp2] at rA ⊢
 have HP : Hid (p4 = w.heap.size + 1 + 1 ∧ p4 < w1.heap.size) := ⟨hp4, rZ.lt⟩
 have n42 : ¬ (p4 = p2) := by omega
 have n43 : ¬ (p4 = p3) := by omega
 have HV : Hid (∀ V, Kept w1 V → RRow V p2 (.bool m) (.slice a1 k1 c1) (.bool nA) (.slice a2 k2 c2) ∧ RRow V p3 (.bool n) (.slice b1 k3 c3) (.bool nB) (.slice b2 k4 c4) ∧ RRow V p4 (.bool false) (.slice none 0 0) (.bool false) (.slice none 0 0)) := fun V hV => ⟨rA.kept hV, rB.kept hV, rZ.kept hV⟩
 have f0 := rA.c0
 have f1 := rA.c1
 have f2 := rA.c2
 have f3 := rA.c3
 have f4 := rB.c0
 have f5 := rB.c1
 have f6 := rB.c2
 have f7 := rB.c3
 clear rA rB rZ hk K4 hp4 hp3 hp2
 go_wp2_with fail
 refine (sign_any n b1 k3 c3 bn _ (HA.out.2.2.1.kept HK.out) HR.out.2.ra).mono ?_
 rw [HSB.out]
 rintro e w1' ⟨rfl, hkq⟩
 clear f0 f1 f2 f3 f4 f5 f6 f7
 have HK : Hid (Kept w w1') := HK.out.trans hkq
 obtain ⟨_, _, rZ⟩ := HV.out _ hkq
 have i0 := rZ.c0
 have i1 := rZ.c1
 have i2 := rZ.c2
 have i3 := rZ.c3
 have o0 := rZ.fz 0
 have o1 := rZ.fz 1
 have o2 := rZ.fz 2
 have o3 := rZ.fz 3
 clear rZ hkq HV
 go_wp2
 have hp := HP.out
 refine bodyPost_ret (v := .tuple #[.agg #[.bool false, .slice none 0 0, .bool false, .slice none 0 0], .int .i64 11]) (by simp [results, Tryz.results11, go_sem, i0, i1, i2, i3]) rfl ⟨?_, rfl⟩
 exact (((HK.out.setCell (by show w.heap.size ≤ p4; omega) _).setCell (by show w.heap.size ≤ p4; omega) _).setCell (by show w.heap.size ≤ p4; omega) _).setCell (by show w.heap.size ≤ p4; omega) _
end F
end Go.Proofs.YtblpacgfgifkcaaGreat

namespace Go.Proofs.YtblpacgfgifkcaaGreat
open Go.RowKit
namespace F
set_option maxHeartbeats 4000000 in
theorem Add_bad (m nA n nB : Bool) (a1 a2 b1 b2 : Option Addr) (k1 c1 k2 c2 k3 c3 k4 c4 : Nat) (an ad bn bd : List Nat) (w : World)
  (ha : Sl w (.slice a1 k1 c1) an) (had : Sl w (.slice a2 k2 c2) ad) (hb : Sl w (.slice b1 k3 c3) bn) (hbd : Sl w (.slice b2 k4 c4) bd) (l1 : an.length ≤ 9223372036854775807) (l2 : ad.length ≤ 9223372036854775807) (l3 : bn.length ≤ 9223372036854775807) (l4 : bd.length ≤ 9223372036854775807) (hn : ¬ (RatR m nA an ad ∧ RatR n nB bn bd)) :
  Calls Tryz.prog 8 #[.agg #[.bool m, .slice a1 k1 c1, .bool nA, .slice a2 k2 c2], .agg #[.bool n, .slice b1 k3 c3, .bool nB, .slice b2 k4 c4]] w fun e w' => Kept w w' ∧ ∃ c, Refused2 m nA n nB an ad bn bd c ∧ c ≠ 0 ∧ e = .returned (.tuple #[.agg #[.bool false, .slice none 0 0, .bool false, .slice none 0 0], .int .i64 c]) := by
 have HA : Hid (Sl w (.slice a1 k1 c1) an ∧ Sl w (.slice a2 k2 c2) ad ∧ Sl w (.slice b1 k3 c3) bn ∧ Sl w (.slice b2 k4 c4) bd) := ⟨ha, had, hb, hbd⟩
 have HL : Hid (an.length ≤ 9223372036854775807 ∧ ad.length ≤ 9223372036854775807 ∧ bn.length ≤ 9223372036854775807 ∧ bd.length ≤ 9223372036854775807) := ⟨l1, l2, l3, l4⟩
 have HN := hid' hn
 clear ha had hb hbd l1 l2 l3 l4 hn
 have K4 : ∀ x y t u, Kept w ((((w.alloc x).alloc y).alloc t).alloc u) := fun x y t u => ((((Kept.refl w).alloc x).alloc y).alloc t).alloc u
 go_enter Tryz.func8, Tryz.ntmps8
 go_wp2_with fail
 refine (refusal_any _ (w.heap.size + 1 + 1 + 1) 0 2 2 _ _ _ _ _ _ _ _ _ _ _ (fun _ => rfl) (by omega) (RatAll.two (m := m) (n := nA) (p := n) (q := nB) (a1 := a1) (a2 := a2) (b1 := b1) (b2 := b2) (k1 := k1) (c1 := c1) (k2 := k2) (c2 := c2) (k3 := k3) (c3 := c3) (k4 := k4) (c4 := c4) (by rw [World.cell?_alloc_at _ _ _ _ (by simp)]; rfl) (by rw [World.cell?_alloc_at _ _ _ _ (by simp)]; rfl) (by rw [World.cell?_alloc_at _ _ _ _ (by simp)]; rfl) (by rw [World.cell?_alloc_at _ _ _ _ (by simp)]; rfl) (by rw [World.cell?_alloc_at _ _ _ _ (by simp)]; rfl) (by rw [World.cell?_alloc_at _ _ _ _ (by simp)]; rfl) (by rw [World.cell?_alloc_at _ _ _ _ (by simp)]; rfl) (by rw [World.cell?_alloc_at _ _ _ _ (by simp)]; rfl) (HA.out.1.kept (K4 _ _ _ _)) (HA.out.2.1.kept (K4 _ _ _ _)) (HA.out.2.2.1.kept (K4 _ _ _ _)) (HA.out.2.2.2.kept (K4 _ _ _ _)) HL.out.1 HL.out.2.1 HL.out.2.2.1 HL.out.2.2.2)).mono ?_
 rintro e w1 ⟨hk, c, rfl, hc⟩
 have hf := refused2_of hc
 have hc0 : c ≠ 0 := by rintro rfl; exact HN.out hf.rats
 have HF := hid' (And.intro hf hc0)
 have rZ := (RRow.alloc ((w.alloc (.cells #[.bool m, .slice a1 k1 c1, .bool nA, .slice a2 k2 c2] 26)).alloc (.cells #[.bool n, .slice b1 k3 c3, .bool nB, .slice b2 k4 c4] 26)) (.bool false) (.slice none 0 0) (.bool false) (.slice none 0 0)).kept (((Kept.refl _).alloc _).trans hk)
 simp only [World.size_alloc] at rZ
 have HK : Hid (Kept w w1) := (K4 _ _ _ _).trans hk
 have hcb : ((c : Int) == 0) = false := by simpa using hc0
 have e0 := rZ.c0
 have e1 := rZ.c1
 have e2 := rZ.c2
 have e3 := rZ.c3
 have y0 := rZ.fz 0
 have y1 := rZ.fz 1
 have y2 := rZ.fz 2
 have y3 := rZ.fz 3
 clear rZ hk K4 hc hf hc0
 go_wp2
 exact bodyPost_ret (v := .tuple #[.agg #[.bool false, .slice none 0 0, .bool false, .slice none 0 0], .int .i64 c]) (by simp [results, Tryz.results8, go_sem, e0, e1, e2, e3]) rfl ⟨Kept.put4 HK.out (by omega) _ _ _ _, c, HF.out.1, HF.out.2, rfl⟩
set_option maxHeartbeats 4000000 in
theorem Sub_bad (m nA n nB : Bool) (a1 a2 b1 b2 : Option Addr) (k1 c1 k2 c2 k3 c3 k4 c4 : Nat) (an ad bn bd : List Nat) (w : World)
  (ha : Sl w (.slice a1 k1 c1) an) (had : Sl w (.slice a2 k2 c2) ad) (hb : Sl w (.slice b1 k3 c3) bn) (hbd : Sl w (.slice b2 k4 c4) bd) (l1 : an.length ≤ 9223372036854775807) (l2 : ad.length ≤ 9223372036854775807) (l3 : bn.length ≤ 9223372036854775807) (l4 : bd.length ≤ 9223372036854775807) (hn : ¬ (RatR m nA an ad ∧ RatR n nB bn bd)) :
  Calls Tryz.prog 9 #[.agg #[.bool m, .slice a1 k1 c1, .bool nA, .slice a2 k2 c2], .agg #[.bool n, .slice b1 k3 c3, .bool nB, .slice b2 k4 c4]] w fun e w' => Kept w w' ∧ ∃ c, Refused2 m nA n nB an ad bn bd c ∧ c ≠ 0 ∧ e = .returned (.tuple #[.agg #[.bool false, .slice none 0 0, .bool false, .slice none 0 0], .int .i64 c]) := by
 have HA : Hid (Sl w (.slice a1 k1 c1) an ∧ Sl w (.slice a2 k2 c2) ad ∧ Sl w (.slice b1 k3 c3) bn ∧ Sl w (.slice b2 k4 c4) bd) := ⟨ha, had, hb, hbd⟩
 have HL : Hid (an.length ≤ 9223372036854775807 ∧ ad.length ≤ 9223372036854775807 ∧ bn.length ≤ 9223372036854775807 ∧ bd.length ≤ 9223372036854775807) := ⟨l1, l2, l3, l4⟩
 have HN := hid' hn
 clear ha had hb hbd l1 l2 l3 l4 hn
 have K4 : ∀ x y t u, Kept w ((((w.alloc x).alloc y).alloc t).alloc u) := fun x y t u => ((((Kept.refl w).alloc x).alloc y).alloc t).alloc u
 go_enter Tryz.func9, Tryz.ntmps9
 go_wp2_with fail
 refine (refusal_any _ (w.heap.size + 1 + 1 + 1) 0 2 2 _ _ _ _ _ _ _ _ _ _ _ (fun _ => rfl) (by omega) (RatAll.two (m := m) (n := nA) (p := n) (q := nB) (a1 := a1) (a2 := a2) (b1 := b1) (b2 := b2) (k1 := k1) (c1 := c1) (k2 := k2) (c2 := c2) (k3 := k3) (c3 := c3) (k4 := k4) (c4 := c4) (by rw [World.cell?_alloc_at _ _ _ _ (by simp)]; rfl) (by rw [World.cell?_alloc_at _ _ _ _ (by simp)]; rfl) (by rw [World.cell?_alloc_at _ _ _ _ (by simp)]; rfl) (by rw [World.cell?_alloc_at _ _ _ _ (by simp)]; rfl) (by rw [World.cell?_alloc_at _ _ _ _ (by simp)]; rfl) (by rw [World.cell?_alloc_at _ _ _ _ (by simp)]; rfl) (by rw [World.cell?_alloc_at _ _ _ _ (by simp)]; rfl) (by rw [World.cell?_alloc_at _ _ _ _ (by simp)]; rfl) (HA.out.1.kept (K4 _ _ _ _)) (HA.out.2.1.kept (K4 _ _ _ _)) (HA.out.2.2.1.kept (K4 _ _ _ _)) (HA.out.2.2.2.kept (K4 _ _ _ _)) HL.out.1 HL.out.2.1 HL.out.2.2.1 HL.out.2.2.2)).mono ?_
 rintro e w1 ⟨hk, c, rfl, hc⟩
 have hf := refused2_of hc
 have hc0 : c ≠ 0 := by rintro rfl; exact HN.out hf.rats
 have HF := hid' (And.intro hf hc0)
 have rZ := (RRow.alloc ((w.alloc (.cells #[.bool m, .slice a1 k1 c1, .bool nA, .slice a2 k2 c2] 26)).alloc (.cells #[.bool n, .slice b1 k3 c3, .bool nB, .slice b2 k4 c4] 26)) (.bool false) (.slice none 0 0) (.bool false) (.slice none 0 0)).kept (((Kept.refl _).alloc _).trans hk)
 simp only [World.size_alloc] at rZ
 have HK : Hid (Kept w w1) := (K4 _ _ _ _).trans hk
 have hcb : ((c : Int) == 0) = false := by simpa using hc0
 have e0 := rZ.c0
 have e1 := rZ.c1
 have e2 := rZ.c2
 have e3 := rZ.c3
 have y0 := rZ.fz 0
 have y1 := rZ.fz 1
 have y2 := rZ.fz 2
 have y3 := rZ.fz 3
 clear rZ hk K4 hc hf hc0
 go_wp2
 exact bodyPost_ret (v := .tuple #[.agg #[.bool false, .slice none 0 0, .bool false, .slice none 0 0], .int .i64 c]) (by simp [results, Tryz.results9, go_sem, e0, e1, e2, e3]) rfl ⟨Kept.put4 HK.out (by omega) _ _ _ _, c, HF.out.1, HF.out.2, rfl⟩
set_option maxHeartbeats 4000000 in
theorem Mul_bad (m nA n nB : Bool) (a1 a2 b1 b2 : Option Addr) (k1 c1 k2 c2 k3 c3 k4 c4 : Nat) (an ad bn bd : List Nat) (w : World)
  (ha : Sl w (.slice a1 k1 c1) an) (had : Sl w (.slice a2 k2 c2) ad) (hb : Sl w (.slice b1 k3 c3) bn) (hbd : Sl w (.slice b2 k4 c4) bd) (l1 : an.length ≤ 9223372036854775807) (l2 : ad.length ≤ 9223372036854775807) (l3 : bn.length ≤ 9223372036854775807) (l4 : bd.length ≤ 9223372036854775807) (hn : ¬ (RatR m nA an ad ∧ RatR n nB bn bd)) :
  Calls Tryz.prog 10 #[.agg #[.bool m, .slice a1 k1 c1, .bool nA, .slice a2 k2 c2], .agg #[.bool n, .slice b1 k3 c3, .bool nB, .slice b2 k4 c4]] w fun e w' => Kept w w' ∧ ∃ c, Refused2 m nA n nB an ad bn bd c ∧ c ≠ 0 ∧ e = .returned (.tuple #[.agg #[.bool false, .slice none 0 0, .bool false, .slice none 0 0], .int .i64 c]) := by
 have HA : Hid (Sl w (.slice a1 k1 c1) an ∧ Sl w (.slice a2 k2 c2) ad ∧ Sl w (.slice b1 k3 c3) bn ∧ Sl w (.slice b2 k4 c4) bd) := ⟨ha, had, hb, hbd⟩
 have HL : Hid (an.length ≤ 9223372036854775807 ∧ ad.length ≤ 9223372036854775807 ∧ bn.length ≤ 9223372036854775807 ∧ bd.length ≤ 9223372036854775807) := ⟨l1, l2, l3, l4⟩
 have HN := hid' hn
 clear ha had hb hbd l1 l2 l3 l4 hn
 have K4 : ∀ x y t u, Kept w ((((w.alloc x).alloc y).alloc t).alloc u) := fun x y t u => ((((Kept.refl w).alloc x).alloc y).alloc t).alloc u
 go_enter Tryz.func10, Tryz.ntmps10
 go_wp2_with fail
 refine (refusal_any _ (w.heap.size + 1 + 1 + 1) 0 2 2 _ _ _ _ _ _ _ _ _ _ _ (fun _ => rfl) (by omega) (RatAll.two (m := m) (n := nA) (p := n) (q := nB) (a1 := a1) (a2 := a2) (b1 := b1) (b2 := b2) (k1 := k1) (c1 := c1) (k2 := k2) (c2 := c2) (k3 := k3) (c3 := c3) (k4 := k4) (c4 := c4) (by rw [World.cell?_alloc_at _ _ _ _ (by simp)]; rfl) (by rw [World.cell?_alloc_at _ _ _ _ (by simp)]; rfl) (by rw [World.cell?_alloc_at _ _ _ _ (by simp)]; rfl) (by rw [World.cell?_alloc_at _ _ _ _ (by simp)]; rfl) (by rw [World.cell?_alloc_at _ _ _ _ (by simp)]; rfl) (by rw [World.cell?_alloc_at _ _ _ _ (by simp)]; rfl) (by rw [World.cell?_alloc_at _ _ _ _ (by simp)]; rfl) (by rw [World.cell?_alloc_at _ _ _ _ (by simp)]; rfl) (HA.out.1.kept (K4 _ _ _ _)) (HA.out.2.1.kept (K4 _ _ _ _)) (HA.out.2.2.1.kept (K4 _ _ _ _)) (HA.out.2.2.2.kept (K4 _ _ _ _)) HL.out.1 HL.out.2.1 HL.out.2.2.1 HL.out.2.2.2)).mono ?_
 rintro e w1 ⟨hk, c, rfl, hc⟩
 have hf := refused2_of hc
 have hc0 : c ≠ 0 := by rintro rfl; exact HN.out hf.rats
 have HF := hid' (And.intro hf hc0)
 have rZ := (RRow.alloc ((w.alloc (.cells #[.bool m, .slice a1 k1 c1, .bool nA, .slice a2 k2 c2] 26)).alloc (.cells #[.bool n, .slice b1 k3 c3, .bool nB, .slice b2 k4 c4] 26)) (.bool false) (.slice none 0 0) (.bool false) (.slice none 0 0)).kept (((Kept.refl _).alloc _).trans hk)
 simp only [World.size_alloc] at rZ
 have HK : Hid (Kept w w1) := (K4 _ _ _ _).trans hk
 have hcb : ((c : Int) == 0) = false := by simpa using hc0
 have e0 := rZ.c0
 have e1 := rZ.c1
 have e2 := rZ.c2
 have e3 := rZ.c3
 have y0 := rZ.fz 0
 have y1 := rZ.fz 1
 have y2 := rZ.fz 2
 have y3 := rZ.fz 3
 clear rZ hk K4 hc hf hc0
 go_wp2
 exact bodyPost_ret (v := .tuple #[.agg #[.bool false, .slice none 0 0, .bool false, .slice none 0 0], .int .i64 c]) (by simp [results, Tryz.results10, go_sem, e0, e1, e2, e3]) rfl ⟨Kept.put4 HK.out (by omega) _ _ _ _, c, HF.out.1, HF.out.2, rfl⟩
set_option maxHeartbeats 4000000 in
theorem Div_bad (m nA n nB : Bool) (a1 a2 b1 b2 : Option Addr) (k1 c1 k2 c2 k3 c3 k4 c4 : Nat) (an ad bn bd : List Nat) (w : World)
  (ha : Sl w (.slice a1 k1 c1) an) (had : Sl w (.slice a2 k2 c2) ad) (hb : Sl w (.slice b1 k3 c3) bn) (hbd : Sl w (.slice b2 k4 c4) bd) (l1 : an.length ≤ 9223372036854775807) (l2 : ad.length ≤ 9223372036854775807) (l3 : bn.length ≤ 9223372036854775807) (l4 : bd.length ≤ 9223372036854775807) (hn : ¬ (RatR m nA an ad ∧ RatR n nB bn bd)) :
  Calls Tryz.prog 11 #[.agg #[.bool m, .slice a1 k1 c1, .bool nA, .slice a2 k2 c2], .agg #[.bool n, .slice b1 k3 c3, .bool nB, .slice b2 k4 c4]] w fun e w' => Kept w w' ∧ ∃ c, Refused2 m nA n nB an ad bn bd c ∧ c ≠ 0 ∧ e = .returned (.tuple #[.agg #[.bool false, .slice none 0 0, .bool false, .slice none 0 0], .int .i64 c]) := by
 have HA : Hid (Sl w (.slice a1 k1 c1) an ∧ Sl w (.slice a2 k2 c2) ad ∧ Sl w (.slice b1 k3 c3) bn ∧ Sl w (.slice b2 k4 c4) bd) := ⟨ha, had, hb, hbd⟩
 have HL : Hid (an.length ≤ 9223372036854775807 ∧ ad.length ≤ 9223372036854775807 ∧ bn.length ≤ 9223372036854775807 ∧ bd.length ≤ 9223372036854775807) := ⟨l1, l2, l3, l4⟩
 have HN := hid' hn
 clear ha had hb hbd l1 l2 l3 l4 hn
 have K4 : ∀ x y t u, Kept w ((((w.alloc x).alloc y).alloc t).alloc u) := fun x y t u => ((((Kept.refl w).alloc x).alloc y).alloc t).alloc u
 go_enter Tryz.func11, Tryz.ntmps11
 go_wp2_with fail
 refine (refusal_any _ (w.heap.size + 1 + 1 + 1) 0 2 2 _ _ _ _ _ _ _ _ _ _ _ (fun _ => rfl) (by omega) (RatAll.two (m := m) (n := nA) (p := n) (q := nB) (a1 := a1) (a2 := a2) (b1 := b1) (b2 := b2) (k1 := k1) (c1 := c1) (k2 := k2) (c2 := c2) (k3 := k3) (c3 := c3) (k4 := k4) (c4 := c4) (by rw [World.cell?_alloc_at _ _ _ _ (by simp)]; rfl) (by rw [World.cell?_alloc_at _ _ _ _ (by simp)]; rfl) (by rw [World.cell?_alloc_at _ _ _ _ (by simp)]; rfl) (by rw [World.cell?_alloc_at _ _ _ _ (by simp)]; rfl) (by rw [World.cell?_alloc_at _ _ _ _ (by simp)]; rfl) (by rw [World.cell?_alloc_at _ _ _ _ (by simp)]; rfl) (by rw [World.cell?_alloc_at _ _ _ _ (by simp)]; rfl) (by rw [World.cell?_alloc_at _ _ _ _ (by simp)]; rfl) (HA.out.1.kept (K4 _ _ _ _)) (HA.out.2.1.kept (K4 _ _ _ _)) (HA.out.2.2.1.kept (K4 _ _ _ _)) (HA.out.2.2.2.kept (K4 _ _ _ _)) HL.out.1 HL.out.2.1 HL.out.2.2.1 HL.out.2.2.2)).mono ?_
 rintro e w1 ⟨hk, c, rfl, hc⟩
 have hf := refused2_of hc
 have hc0 : c ≠ 0 := by rintro rfl; exact HN.out hf.rats
 have HF := hid' (And.intro hf hc0)
 have rZ := (RRow.alloc ((w.alloc (.cells #[.bool m, .slice a1 k1 c1, .bool nA, .slice a2 k2 c2] 26)).alloc (.cells #[.bool n, .slice b1 k3 c3, .bool nB, .slice b2 k4 c4] 26)) (.bool false) (.slice none 0 0) (.bool false) (.slice none 0 0)).kept (((Kept.refl _).alloc _).trans hk)
 simp only [World.size_alloc] at rZ
 have HK : Hid (Kept w w1) := (K4 _ _ _ _).trans hk
 have hcb : ((c : Int) == 0) = false := by simpa using hc0
 have e0 := rZ.c0
 have e1 := rZ.c1
 have e2 := rZ.c2
 have e3 := rZ.c3
 have y0 := rZ.fz 0
 have y1 := rZ.fz 1
 have y2 := rZ.fz 2
 have y3 := rZ.fz 3
 clear rZ hk K4 hc hf hc0
 go_wp2
 exact bodyPost_ret (v := .tuple #[.agg #[.bool false, .slice none 0 0, .bool false, .slice none 0 0], .int .i64 c]) (by simp [results, Tryz.results11, go_sem, e0, e1, e2, e3]) rfl ⟨Kept.put4 HK.out (by omega) _ _ _ _, c, HF.out.1, HF.out.2, rfl⟩
set_option maxHeartbeats 4000000 in
theorem Cmp_bad (m nA n nB : Bool) (a1 a2 b1 b2 : Option Addr) (k1 c1 k2 c2 k3 c3 k4 c4 : Nat) (an ad bn bd : List Nat) (w : World)
  (ha : Sl w (.slice a1 k1 c1) an) (had : Sl w (.slice a2 k2 c2) ad) (hb : Sl w (.slice b1 k3 c3) bn) (hbd : Sl w (.slice b2 k4 c4) bd) (l1 : an.length ≤ 9223372036854775807) (l2 : ad.length ≤ 9223372036854775807) (l3 : bn.length ≤ 9223372036854775807) (l4 : bd.length ≤ 9223372036854775807) (hn : ¬ (RatR m nA an ad ∧ RatR n nB bn bd)) :
  Calls Tryz.prog 12 #[.agg #[.bool m, .slice a1 k1 c1, .bool nA, .slice a2 k2 c2], .agg #[.bool n, .slice b1 k3 c3, .bool nB, .slice b2 k4 c4]] w fun e w' => Kept w w' ∧ ∃ c, Refused2 m nA n nB an ad bn bd c ∧ c ≠ 0 ∧ e = .returned (.tuple #[.int .i64 0, .int .i64 c]) := by
 have HA : Hid (Sl w (.slice a1 k1 c1) an ∧ Sl w (.slice a2 k2 c2) ad ∧ Sl w (.slice b1 k3 c3) bn ∧ Sl w (.slice b2 k4 c4) bd) := ⟨ha, had, hb, hbd⟩
 have HL : Hid (an.length ≤ 9223372036854775807 ∧ ad.length ≤ 9223372036854775807 ∧ bn.length ≤ 9223372036854775807 ∧ bd.length ≤ 9223372036854775807) := ⟨l1, l2, l3, l4⟩
 have HN := hid' hn
 clear ha had hb hbd l1 l2 l3 l4 hn
 have K3 : ∀ x y t, Kept w (((w.alloc x).alloc y).alloc t) := fun x y t => (((Kept.refl w).alloc x).alloc y).alloc t
 go_enter Tryz.func12, Tryz.ntmps12
 go_wp2_with fail
 refine (refusal_any _ (w.heap.size + 1 + 1) 0 2 2 _ _ _ _ _ _ _ _ _ _ _ (fun _ => rfl) (by omega) (RatAll.two (m := m) (n := nA) (p := n) (q := nB) (a1 := a1) (a2 := a2) (b1 := b1) (b2 := b2) (k1 := k1) (c1 := c1) (k2 := k2) (c2 := c2) (k3 := k3) (c3 := c3) (k4 := k4) (c4 := c4) (by rw [World.cell?_alloc_at _ _ _ _ (by simp)]; rfl) (by rw [World.cell?_alloc_at _ _ _ _ (by simp)]; rfl) (by rw [World.cell?_alloc_at _ _ _ _ (by simp)]; rfl) (by rw [World.cell?_alloc_at _ _ _ _ (by simp)]; rfl) (by rw [World.cell?_alloc_at _ _ _ _ (by simp)]; rfl) (by rw [World.cell?_alloc_at _ _ _ _ (by simp)]; rfl) (by rw [World.cell?_alloc_at _ _ _ _ (by simp)]; rfl) (by rw [World.cell?_alloc_at _ _ _ _ (by simp)]; rfl) (HA.out.1.kept (K3 _ _ _)) (HA.out.2.1.kept (K3 _ _ _)) (HA.out.2.2.1.kept (K3 _ _ _)) (HA.out.2.2.2.kept (K3 _ _ _)) HL.out.1 HL.out.2.1 HL.out.2.2.1 HL.out.2.2.2)).mono ?_
 rintro e w1 ⟨hk, c, rfl, hc⟩
 have hf := refused2_of hc
 have hc0 : c ≠ 0 := by rintro rfl; exact HN.out hf.rats
 have HF := hid' (And.intro hf hc0)
 have HK : Hid (Kept w w1) := (K3 _ _ _).trans hk
 have hcb : ((c : Int) == 0) = false := by simpa using hc0
 clear hk K3 hc hf hc0
 go_wp2
 go_ret2
 exact ⟨HK.out, c, HF.out.1, HF.out.2, rfl⟩
end F
end Go.Proofs.YtblpacgfgifkcaaGreat

namespace Go.Proofs.YtblpacgfgifkcaaGreat
open Go.RowKit
namespace F
def OpIs (B : Nat) (w : World) (e : Ending) (m nA n nB : Bool) (an ad bn bd : List Nat) (num den : Int) : Prop :=
 ∃ c, Refused2 m nA n nB an ad bn bd c ∧ ((c ≠ 0 ∧ e = .returned (.tuple #[.agg #[.bool false, .slice none 0 0, .bool false, .slice none 0 0], .int .i64 c])) ∨ (c = 0 ∧ ∃ N Q, Low num den N Q ∧ ToldIs B w e N Q))
def DivIs (B : Nat) (w : World) (e : Ending) (m nA n nB : Bool) (an ad bn bd : List Nat) : Prop :=
 ∃ c, Refused2 m nA n nB an ad bn bd c ∧ ((c ≠ 0 ∧ e = .returned (.tuple #[.agg #[.bool false, .slice none 0 0, .bool false, .slice none 0 0], .int .i64 c])) ∨ (c = 0 ∧ ((M.int n bn = 0 ∧ e = .returned (.tuple #[.agg #[.bool false, .slice none 0 0, .bool false, .slice none 0 0], .int .i64 11])) ∨ (M.int n bn ≠ 0 ∧ ∃ N Q, Low (M.int m an * M.int nB bd) (M.int nA ad * M.int n bn) N Q ∧ ToldIs B w e N Q))))
theorem SumIs.told {B : Nat} {w : World} {e : Ending} {N : Int} {Q : Nat} (h : SumIs B w e N Q) : ToldIs B w e N Q := by
 rcases h with ⟨v, rfl, s, ao, k, c, l, t, ap, k', c', l', rfl, h⟩ | ⟨rfl, h⟩
 ·
  exact .inl ⟨s, ao, k, c, l, t, ap, k', c', l', rfl, h⟩
 ·
  refine .inr ⟨rfl, ?_⟩
  rw [Int.natAbs_natCast]
  omega
theorem IsSum.lows {xA xB N : Int} {yA yB Q : Nat} (h : IsSum xA yA xB yB N Q) {YA YB : Int} (eA : YA = yA) (eB : YB = yB) : Low (xA * YB + xB * YA) (YA * YB) N Q := by
 subst eA eB
 exact ⟨by have := h.pos; omega, by rw [Int.natAbs_natCast]; exact h.low, h.eq⟩
theorem IsProd.lows {xA xB N : Int} {yA yB Q : Nat} (h : IsProd xA yA xB yB N Q) {YA YB : Int} (eA : YA = yA) (eB : YB = yB) : Low (xA * xB) (YA * YB) N Q := by
 subst eA eB
 exact ⟨by have := h.pos; omega, by rw [Int.natAbs_natCast]; exact h.low, h.eq⟩
theorem r2_ok {m nA n nB : Bool} {an ad bn bd : List Nat} (h : RatR m nA an ad ∧ RatR n nB bn bd) : Refused2 m nA n nB an ad bn bd 0 := .inr (.inr ⟨rfl, h⟩)
theorem div_eq {N X : Int} {Q y : Nat} {bn bd : List Nat} (e : N * ((y : Int) * (M.val bn : Nat)) = (X * M.int true bd) * Q) : N * ((y : Int) * M.int true bn) = X * (M.val bd : Nat) * Q := by
 have h1 : M.int true bd = -(M.val bd : Int) := by simp [M.int]
 have h2 : M.int true bn = -(M.val bn : Int) := by simp [M.int]
 rw [h1] at e
 rw [h2]
 generalize (M.val bd : Int) = d at *
 generalize (M.val bn : Int) = b at *
 have e1 : N * ((y : Int) * -b) = -(N * ((y : Int) * b)) := by grind
 rw [e1, e]
 grind
section
variable (m nA n nB : Bool) (a1 a2 b1 b2 : Option Addr) (k1 c1 k2 c2 k3 c3 k4 c4 : Nat) (an ad bn bd : List Nat) (w : World) (ha : Sl w (.slice a1 k1 c1) an) (had : Sl w (.slice a2 k2 c2) ad) (hb : Sl w (.slice b1 k3 c3) bn) (hbd : Sl w (.slice b2 k4 c4) bd) (l1 : an.length ≤ 9223372036854775807) (l2 : ad.length ≤ 9223372036854775807) (l3 : bn.length ≤ 9223372036854775807) (l4 : bd.length ≤ 9223372036854775807)
include ha had hb hbd l1 l2 l3 l4
theorem Add_all : Calls Tryz.prog 8 #[.agg #[.bool m, .slice a1 k1 c1, .bool nA, .slice a2 k2 c2], .agg #[.bool n, .slice b1 k3 c3, .bool nB, .slice b2 k4 c4]] w fun e w' => Kept w w' ∧ OpIs w.heap.size w' e m nA n nB an ad bn bd (M.int m an * M.int nB bd + M.int n bn * M.int nA ad) (M.int nA ad * M.int nB bd) := by
 by_cases h : RatR m nA an ad ∧ RatR n nB bn bd
 ·
  refine (Add_ok m nA n nB a1 a2 b1 b2 k1 c1 k2 c2 k3 c3 k4 c4 an ad bn bd w ha had hb hbd h.1 h.2).mono ?_
  rintro e w' ⟨hk, N, Q, hS, hT⟩
  exact ⟨hk, 0, r2_ok h, .inr ⟨rfl, N, Q, hS.lows h.1.val h.2.val, hT.told⟩⟩
 ·
  refine (Add_bad m nA n nB a1 a2 b1 b2 k1 c1 k2 c2 k3 c3 k4 c4 an ad bn bd w ha had hb hbd l1 l2 l3 l4 h).mono ?_
  rintro e w' ⟨hk, c, hc, h0, rfl⟩
  exact ⟨hk, c, hc, .inl ⟨h0, rfl⟩⟩
theorem Sub_all : Calls Tryz.prog 9 #[.agg #[.bool m, .slice a1 k1 c1, .bool nA, .slice a2 k2 c2], .agg #[.bool n, .slice b1 k3 c3, .bool nB, .slice b2 k4 c4]] w fun e w' => Kept w w' ∧ OpIs w.heap.size w' e m nA n nB an ad bn bd (M.int m an * M.int nB bd + -(M.int n bn) * M.int nA ad) (M.int nA ad * M.int nB bd) := by
 by_cases h : RatR m nA an ad ∧ RatR n nB bn bd
 ·
  refine (Sub_ok m nA n nB a1 a2 b1 b2 k1 c1 k2 c2 k3 c3 k4 c4 an ad bn bd w ha had hb hbd h.1 h.2).mono ?_
  rintro e w' ⟨hk, N, Q, hS, hT⟩
  exact ⟨hk, 0, r2_ok h, .inr ⟨rfl, N, Q, hS.lows h.1.val h.2.val, hT.told⟩⟩
 ·
  refine (Sub_bad m nA n nB a1 a2 b1 b2 k1 c1 k2 c2 k3 c3 k4 c4 an ad bn bd w ha had hb hbd l1 l2 l3 l4 h).mono ?_
  rintro e w' ⟨hk, c, hc, h0, rfl⟩
  exact ⟨hk, c, hc, .inl ⟨h0, rfl⟩⟩
theorem Mul_all : Calls Tryz.prog 10 #[.agg #[.bool m, .slice a1 k1 c1, .bool nA, .slice a2 k2 c2], .agg #[.bool n, .slice b1 k3 c3, .bool nB, .slice b2 k4 c4]] w fun e w' => Kept w w' ∧ OpIs w.heap.size w' e m nA n nB an ad bn bd (M.int m an * M.int n bn) (M.int nA ad * M.int nB bd) := by
 by_cases h : RatR m nA an ad ∧ RatR n nB bn bd
 ·
  refine (Mul_ok m nA n nB a1 a2 b1 b2 k1 c1 k2 c2 k3 c3 k4 c4 an ad bn bd w ha had hb hbd h.1 h.2).mono ?_
  rintro e w' ⟨hk, N, Q, hS, hT⟩
  exact ⟨hk, 0, r2_ok h, .inr ⟨rfl, N, Q, hS.lows h.1.val h.2.val, hT.told⟩⟩
 ·
  refine (Mul_bad m nA n nB a1 a2 b1 b2 k1 c1 k2 c2 k3 c3 k4 c4 an ad bn bd w ha had hb hbd l1 l2 l3 l4 h).mono ?_
  rintro e w' ⟨hk, c, hc, h0, rfl⟩
  exact ⟨hk, c, hc, .inl ⟨h0, rfl⟩⟩
theorem Div_all : Calls Tryz.prog 11 #[.agg #[.bool m, .slice a1 k1 c1, .bool nA, .slice a2 k2 c2], .agg #[.bool n, .slice b1 k3 c3, .bool nB, .slice b2 k4 c4]] w fun e w' => Kept w w' ∧ DivIs w.heap.size w' e m nA n nB an ad bn bd := by
 by_cases h : RatR m nA an ad ∧ RatR n nB bn bd
 ·
  by_cases hz : M.int n bn = 0
  ·
   refine (Div_zero m nA n nB a1 a2 b1 b2 k1 c1 k2 c2 k3 c3 k4 c4 an ad bn bd w ha had hb hbd h.1 h.2 hz).mono ?_
   rintro e w' ⟨hk, rfl⟩
   exact ⟨hk, 0, r2_ok h, .inr ⟨rfl, .inl ⟨hz, rfl⟩⟩⟩
  ·
   refine (Div_ok m nA n nB a1 a2 b1 b2 k1 c1 k2 c2 k3 c3 k4 c4 an ad bn bd w ha had hb hbd h.1 h.2 hz).mono ?_
   rintro e w' ⟨hk, N, Q, hS, hT⟩
   refine ⟨hk, 0, r2_ok h, .inr ⟨rfl, .inr ⟨hz, N, Q, ⟨by have := hS.pos; omega, by rw [Int.natAbs_natCast]; exact hS.low, ?_⟩, hT.told⟩⟩⟩
   have e := hS.eq
   rw [h.1.val, h.2.val]
   cases n with
   | false => exact e
   | true => exact div_eq e
 ·
  refine (Div_bad m nA n nB a1 a2 b1 b2 k1 c1 k2 c2 k3 c3 k4 c4 an ad bn bd w ha had hb hbd l1 l2 l3 l4 h).mono ?_
  rintro e w' ⟨hk, c, hc, h0, rfl⟩
  exact ⟨hk, c, hc, .inl ⟨h0, rfl⟩⟩
theorem Cmp_all : Calls Tryz.prog 12 #[.agg #[.bool m, .slice a1 k1 c1, .bool nA, .slice a2 k2 c2], .agg #[.bool n, .slice b1 k3 c3, .bool nB, .slice b2 k4 c4]] w fun e w' => Kept w w' ∧ ∃ c, Refused2 m nA n nB an ad bn bd c ∧ ((c ≠ 0 ∧ e = .returned (.tuple #[.int .i64 0, .int .i64 c])) ∨ (c = 0 ∧ e = .returned (.tuple #[.int .i64 (isgn (M.int m an * M.int nB bd) (M.int n bn * M.int nA ad)), .int .i64 0]))) := by
 by_cases h : RatR m nA an ad ∧ RatR n nB bn bd
 ·
  refine (Cmp_ok m nA n nB a1 a2 b1 b2 k1 c1 k2 c2 k3 c3 k4 c4 an ad bn bd w ha had hb hbd h.1 h.2).mono ?_
  rintro e w' ⟨rfl, hk⟩
  exact ⟨hk, 0, r2_ok h, .inr ⟨rfl, by rw [h.1.val, h.2.val]⟩⟩
 ·
  refine (Cmp_bad m nA n nB a1 a2 b1 b2 k1 c1 k2 c2 k3 c3 k4 c4 an ad bn bd w ha had hb hbd l1 l2 l3 l4 h).mono ?_
  rintro e w' ⟨hk, c, hc, h0, rfl⟩
  exact ⟨hk, c, hc, .inl ⟨h0, rfl⟩⟩
end
def OpC (num den : Int) (s : Bool) (l : List Nat) (t : Bool) (l' : List Nat) (ec : Int) : Prop :=
 (ec ≠ 0 ∧ ec ≠ 13 ∧ s = false ∧ l = [] ∧ t = false ∧ l' = []) ∨ (∃ N Q, Low num den N Q ∧ ((ec = 0 ∧ M.Right s l ∧ M.int s l = N ∧ M.Right t l' ∧ M.int t l' = Q) ∨ (ec = 13 ∧ s = false ∧ l = [] ∧ t = false ∧ l' = [] ∧ (M.W72 ≤ N.natAbs ∨ M.W72 ≤ Q.natAbs))))
end F
end Go.Proofs.YtblpacgfgifkcaaGreat

namespace Go.Proofs.YtblpacgfgifkcaaGreat
open Go.RowKit
namespace F
def Nil2 (s : Bool) (l : List Nat) (t : Bool) (l' : List Nat) : Prop := s = false ∧ l = [] ∧ t = false ∧ l' = []
def ValQ (num den : Int) (s : Bool) (l : List Nat) (t : Bool) (l' : List Nat) (ec : Int) : Prop :=
 ∃ N Q, Low num den N Q ∧ ((ec = 0 ∧ M.Right s l ∧ M.int s l = N ∧ M.Right t l' ∧ M.int t l' = Q) ∨ (ec = 13 ∧ Nil2 s l t l' ∧ (M.W72 ≤ N.natAbs ∨ M.W72 ≤ Q.natAbs)))
theorem w72_lt {s : Bool} {l : List Nat} (h : M.Right s l) : (M.int s l).natAbs < M.W72 := by rw [M.natAbs_int]; exact M.lt_W72 h.bd h.len
theorem ValQ.one {num den : Int} {s s2 t t2 : Bool} {l l2 l' l2' : List Nat} {ec ec2 : Int} (hd : den ≠ 0) (h : ValQ num den s l t l' ec) (h' : ValQ num den s2 l2 t2 l2' ec2) : s2 = s ∧ l2 = l ∧ t2 = t ∧ l2' = l' ∧ ec2 = ec := by
 obtain ⟨N, Q, hL, h⟩ := h
 obtain ⟨N', Q', hL', h'⟩ := h'
 obtain ⟨rfl, rfl⟩ := hL.one hL' hd
 rcases h with ⟨rfl, r1, i1, r2, i2⟩ | ⟨rfl, ⟨rfl, rfl, rfl, rfl⟩, hw⟩ <;> rcases h' with ⟨rfl, r1', i1', r2', i2'⟩ | ⟨rfl, ⟨rfl, rfl, rfl, rfl⟩, hw'⟩
 ·
  obtain ⟨e1, e2⟩ := M.int_inj r1' r1 (by rw [i1, i1'])
  obtain ⟨e3, e4⟩ := M.int_inj r2' r2 (by rw [i2, i2'])
  exact ⟨e1, e2, e3, e4, rfl⟩
 ·
  have a1 := w72_lt r1
  have a2 := w72_lt r2
  rw [i1] at a1
  rw [i2] at a2
  omega
 ·
  have a1 := w72_lt r1'
  have a2 := w72_lt r2'
  rw [i1'] at a1
  rw [i2'] at a2
  omega
 ·
  exact ⟨rfl, rfl, rfl, rfl, rfl⟩
def OpQ (m nA n nB : Bool) (an ad bn bd : List Nat) (num den : Int) (s : Bool) (l : List Nat) (t : Bool) (l' : List Nat) (ec : Int) : Prop :=
 ∃ c, Refused2 m nA n nB an ad bn bd c ∧ ((c ≠ 0 ∧ ec = c ∧ Nil2 s l t l') ∨ (c = 0 ∧ ValQ num den s l t l' ec))
theorem OpQ.one {m nA n nB : Bool} {an ad bn bd : List Nat} {num den : Int} {s s2 t t2 : Bool} {l l2 l' l2' : List Nat} {ec ec2 : Int} (hd : RatR m nA an ad ∧ RatR n nB bn bd → den ≠ 0) (h : OpQ m nA n nB an ad bn bd num den s l t l' ec) (h' : OpQ m nA n nB an ad bn bd num den s2 l2 t2 l2' ec2) : s2 = s ∧ l2 = l ∧ t2 = t ∧ l2' = l' ∧ ec2 = ec := by
 obtain ⟨c, h1, h⟩ := h
 obtain ⟨c', h1', h'⟩ := h'
 obtain rfl := h1.one h1'
 rcases h with ⟨h0, rfl, rfl, rfl, rfl, rfl⟩ | ⟨h0, h⟩ <;> rcases h' with ⟨h0', rfl, rfl, rfl, rfl, rfl⟩ | ⟨h0', h'⟩
 ·
  exact ⟨rfl, rfl, rfl, rfl, rfl⟩
 ·
  exact absurd h0' h0
 ·
  exact absurd h0 h0'
 ·
  subst h0
  exact ValQ.one (hd h1.rats) h h'
def DivQ (m nA n nB : Bool) (an ad bn bd : List Nat) (s : Bool) (l : List Nat) (t : Bool) (l' : List Nat) (ec : Int) : Prop :=
 ∃ c, Refused2 m nA n nB an ad bn bd c ∧ ((c ≠ 0 ∧ ec = c ∧ Nil2 s l t l') ∨ (c = 0 ∧ ((M.int n bn = 0 ∧ ec = 11 ∧ Nil2 s l t l') ∨ (M.int n bn ≠ 0 ∧ ValQ (M.int m an * M.int nB bd) (M.int nA ad * M.int n bn) s l t l' ec))))
theorem DivQ.one {m nA n nB : Bool} {an ad bn bd : List Nat} {s s2 t t2 : Bool} {l l2 l' l2' : List Nat} {ec ec2 : Int} (h : DivQ m nA n nB an ad bn bd s l t l' ec) (h' : DivQ m nA n nB an ad bn bd s2 l2 t2 l2' ec2) : s2 = s ∧ l2 = l ∧ t2 = t ∧ l2' = l' ∧ ec2 = ec := by
 obtain ⟨c, h1, h⟩ := h
 obtain ⟨c', h1', h'⟩ := h'
 obtain rfl := h1.one h1'
 rcases h with ⟨h0, rfl, rfl, rfl, rfl, rfl⟩ | ⟨h0, h⟩ <;> rcases h' with ⟨h0', rfl, rfl, rfl, rfl, rfl⟩ | ⟨h0', h'⟩
 ·
  exact ⟨rfl, rfl, rfl, rfl, rfl⟩
 ·
  exact absurd h0' h0
 ·
  exact absurd h0 h0'
 ·
  subst h0
  rcases h with ⟨hz, rfl, rfl, rfl, rfl, rfl⟩ | ⟨hz, h⟩ <;> rcases h' with ⟨hz', rfl, rfl, rfl, rfl, rfl⟩ | ⟨hz', h'⟩
  ·
   exact ⟨rfl, rfl, rfl, rfl, rfl⟩
  ·
   exact absurd hz hz'
  ·
   exact absurd hz' hz
  ·
   exact ValQ.one (Int.mul_ne_zero (by have := h1.rats.1.pos; omega) hz) h h'
def Res (B : Nat) (w : World) (e : Ending) (P : Bool → List Nat → Bool → List Nat → Int → Prop) : Prop :=
 ∃ s ao k c t ap k' c' ec l l', e = .returned (.tuple #[.agg #[.bool s, .slice ao k c, .bool t, .slice ap k' c'], .int .i64 ec]) ∧ New B w (.slice ao k c) l ∧ New B w (.slice ap k' c') l' ∧ l.length ≤ 72 ∧ l'.length ≤ 72 ∧ P s l t l' ec
theorem New.nil' (B : Nat) (w : World) : New B w (.slice none 0 0) [] := ⟨M.Bd_nil, .inl ⟨rfl, rfl⟩⟩
theorem ToldIs.res {B : Nat} {w : World} {e : Ending} {num den N Q : Int} (hL : Low num den N Q) (h : ToldIs B w e N Q) : Res B w e (ValQ num den) := by
 rcases h with ⟨s, ao, k, c, l, t, ap, k', c', l', rfl, n1, r1, i1, n2, r2, i2⟩ | ⟨rfl, hw⟩
 ·
  exact ⟨s, ao, k, c, t, ap, k', c', 0, l, l', rfl, n1, n2, r1.len, r2.len, N, Q, hL, .inl ⟨rfl, r1, i1, r2, i2⟩⟩
 ·
  exact ⟨false, none, 0, 0, false, none, 0, 0, 13, [], [], rfl, New.nil' _ _, New.nil' _ _, by simp, by simp, N, Q, hL, .inr ⟨rfl, ⟨rfl, rfl, rfl, rfl⟩, hw⟩⟩
theorem Res.imp {B : Nat} {w : World} {e : Ending} {P P' : Bool → List Nat → Bool → List Nat → Int → Prop} (h : Res B w e P) (f : ∀ s l t l' ec, P s l t l' ec → P' s l t l' ec) : Res B w e P' := by
 obtain ⟨s, ao, k, c, t, ap, k', c', ec, l, l', h1, h2, h3, h4, h5, h6⟩ := h
 exact ⟨s, ao, k, c, t, ap, k', c', ec, l, l', h1, h2, h3, h4, h5, f _ _ _ _ _ h6⟩
theorem OpIs.res {B : Nat} {w : World} {e : Ending} {m nA n nB : Bool} {an ad bn bd : List Nat} {num den : Int} (h : OpIs B w e m nA n nB an ad bn bd num den) : Res B w e (OpQ m nA n nB an ad bn bd num den) := by
 obtain ⟨c, hc, ⟨h0, rfl⟩ | ⟨h0, N, Q, hL, hT⟩⟩ := h
 ·
  exact ⟨false, none, 0, 0, false, none, 0, 0, c, [], [], rfl, New.nil' _ _, New.nil' _ _, by simp, by simp, c, hc, .inl ⟨h0, rfl, rfl, rfl, rfl, rfl⟩⟩
 ·
  exact (hT.res hL).imp fun _ _ _ _ _ q => ⟨c, hc, .inr ⟨h0, q⟩⟩
theorem DivIs.res {B : Nat} {w : World} {e : Ending} {m nA n nB : Bool} {an ad bn bd : List Nat} (h : DivIs B w e m nA n nB an ad bn bd) : Res B w e (DivQ m nA n nB an ad bn bd) := by
 obtain ⟨c, hc, ⟨h0, rfl⟩ | ⟨h0, ⟨hz, rfl⟩ | ⟨hz, N, Q, hL, hT⟩⟩⟩ := h
 ·
  exact ⟨false, none, 0, 0, false, none, 0, 0, c, [], [], rfl, New.nil' _ _, New.nil' _ _, by simp, by simp, c, hc, .inl ⟨h0, rfl, rfl, rfl, rfl, rfl⟩⟩
 ·
  exact ⟨false, none, 0, 0, false, none, 0, 0, 11, [], [], rfl, New.nil' _ _, New.nil' _ _, by simp, by simp, c, hc, .inr ⟨h0, .inl ⟨hz, rfl, rfl, rfl, rfl, rfl⟩⟩⟩
 ·
  exact (hT.res hL).imp fun _ _ _ _ _ q => ⟨c, hc, .inr ⟨h0, .inr ⟨hz, q⟩⟩⟩
def CmpIs (e : Ending) (m nA n nB : Bool) (an ad bn bd : List Nat) : Prop :=
 ∃ c, Refused2 m nA n nB an ad bn bd c ∧ ((c ≠ 0 ∧ e = .returned (.tuple #[.int .i64 0, .int .i64 c])) ∨ (c = 0 ∧ e = .returned (.tuple #[.int .i64 (isgn (M.int m an * M.int nB bd) (M.int n bn * M.int nA ad)), .int .i64 0])))
theorem CmpIs.split {e : Ending} {m nA n nB : Bool} {an ad bn bd : List Nat} (h : CmpIs e m nA n nB an ad bn bd) : ∃ v c, e = .returned (.tuple #[.int .i64 v, .int .i64 c]) ∧ CmpIs e m nA n nB an ad bn bd := by
 obtain ⟨c, h1, ⟨h2, rfl⟩ | ⟨h2, rfl⟩⟩ := h
 ·
  exact ⟨0, c, rfl, c, h1, .inl ⟨h2, rfl⟩⟩
 ·
  exact ⟨_, _, rfl, c, h1, .inr ⟨h2, rfl⟩⟩
theorem CmpIs.one {e e' : Ending} {m nA n nB : Bool} {an ad bn bd : List Nat} (h : CmpIs e m nA n nB an ad bn bd) (h' : CmpIs e' m nA n nB an ad bn bd) : e = e' := by
 obtain ⟨c, h1, h2⟩ := h
 obtain ⟨c', h1', h2'⟩ := h'
 obtain rfl := h1.one h1'
 rcases h2 with ⟨h0, rfl⟩ | ⟨h0, rfl⟩ <;> rcases h2' with ⟨h0', rfl⟩ | ⟨h0', rfl⟩
 ·
  rfl
 ·
  exact absurd h0' h0
 ·
  exact absurd h0 h0'
 ·
  rfl
end F
end Go.Proofs.YtblpacgfgifkcaaGreat
