/- shuntref02.Cmp, of whatever is handed in. -/
import Derived.Test.YtblpacgfgifkcaaGreatGtwo
namespace Go.Proofs.YtblpacgfgifkcaaGreat
open Go.RowKit
namespace F
set_option maxRecDepth 100000 in
set_option maxHeartbeats 8000000 in
theorem RCmp_any (m nA n nB : Bool) (a1 a2 b1 b2 : Option Addr) (k1 c1 k2 c2 k3 c3 k4 c4 : Nat) (an ad bn bd : List Nat) (w : World) (ha : Sl w (.slice a1 k1 c1) an) (had : Sl w (.slice a2 k2 c2) ad) (hb : Sl w (.slice b1 k3 c3) bn) (hbd : Sl w (.slice b2 k4 c4) bd) (l1 : an.length ≤ 9223372036854775807) (l2 : ad.length ≤ 9223372036854775807) (l3 : bn.length ≤ 9223372036854775807) (l4 : bd.length ≤ 9223372036854775807) :
  Calls Tryz.prog 14 #[.agg #[.bool m, .slice a1 k1 c1, .bool nA, .slice a2 k2 c2], .agg #[.bool n, .slice b1 k3 c3, .bool nB, .slice b2 k4 c4]] w fun e w' => Kept w w' ∧ ∃ c, Refused2 m nA n nB an ad bn bd c ∧ ((c ≠ 0 ∧ e = .returned (.tuple #[.int .i64 0, .int .i64 c])) ∨ (c = 0 ∧ e = .returned (.tuple #[.int .i64 (isgn (M.int m an * M.int nB bd) (M.int n bn * M.int nA ad)), .int .i64 0]))) := by
 have HA : Hid (Sl w (.slice a1 k1 c1) an ∧ Sl w (.slice a2 k2 c2) ad ∧ Sl w (.slice b1 k3 c3) bn ∧ Sl w (.slice b2 k4 c4) bd ∧ an.length ≤ 9223372036854775807 ∧ ad.length ≤ 9223372036854775807 ∧ bn.length ≤ 9223372036854775807 ∧ bd.length ≤ 9223372036854775807) := ⟨ha, had, hb, hbd, l1, l2, l3, l4⟩
 clear ha had hb hbd l1 l2 l3 l4
 have K3 : ∀ x y t, Kept w (((w.alloc x).alloc y).alloc t) := fun x y t => (((Kept.refl w).alloc x).alloc y).alloc t
 go_enter Tryz.func14, Tryz.ntmps14
 go_wp2_with fail
 refine (Faults_x _ (w.heap.size + 1 + 1) 0 2 2 _ _ _ _ _ _ _ _ _ _ _ (fun _ => rfl) (by omega) (RatAll.two (m := m) (n := nA) (p := n) (q := nB) (a1 := a1) (a2 := a2) (b1 := b1) (b2 := b2) (k1 := k1) (c1 := c1) (k2 := k2) (c2 := c2) (k3 := k3) (c3 := c3) (k4 := k4) (c4 := c4) (by rw [World.cell?_alloc_at _ _ _ _ (by simp)]; rfl) (by rw [World.cell?_alloc_at _ _ _ _ (by simp)]; rfl) (by rw [World.cell?_alloc_at _ _ _ _ (by simp)]; rfl) (by rw [World.cell?_alloc_at _ _ _ _ (by simp)]; rfl) (by rw [World.cell?_alloc_at _ _ _ _ (by simp)]; rfl) (by rw [World.cell?_alloc_at _ _ _ _ (by simp)]; rfl) (by rw [World.cell?_alloc_at _ _ _ _ (by simp)]; rfl) (by rw [World.cell?_alloc_at _ _ _ _ (by simp)]; rfl) (HA.out.1.kept (K3 _ _ _)) (HA.out.2.1.kept (K3 _ _ _)) (HA.out.2.2.1.kept (K3 _ _ _)) (HA.out.2.2.2.1.kept (K3 _ _ _)) HA.out.2.2.2.2.1 HA.out.2.2.2.2.2.1 HA.out.2.2.2.2.2.2.1 HA.out.2.2.2.2.2.2.2)).mono ?_
 rintro e w1 ⟨hk1, c, rfl, hc⟩
 have HC := hid' (refused2_of hc)
 have r2 := (RRow.alloc w (.bool m) (.slice a1 k1 c1) (.bool nA) (.slice a2 k2 c2)).kept ((((Kept.refl _).alloc _).alloc _).trans hk1)
 have r3 := (RRow.alloc (w.alloc (.cells #[.bool m, .slice a1 k1 c1, .bool nA, .slice a2 k2 c2] 26)) (.bool n) (.slice b1 k3 c3) (.bool nB) (.slice b2 k4 c4)).kept (((Kept.refl _).alloc _).trans hk1)
 simp only [World.size_alloc] at r3
 have HK1 := hid' ((K3 _ _ _).trans hk1)
 clear hk1 hc K3
 by_cases hc0 : c = 0
 ·
  subst hc0
  have HR := hid' HC.out.rats
  have HQ : Hid (an.length ≤ 72 ∧ ad.length ≤ 72 ∧ bn.length ≤ 72 ∧ bd.length ≤ 72) := ⟨HR.out.1.ra.1, HR.out.1.rd.1, HR.out.2.ra.1, HR.out.2.rd.1⟩
  obtain ⟨p3, hp3⟩ : ∃ p, p = w.heap.size + 1 := ⟨_, rfl⟩
  obtain ⟨p2, hp2⟩ : ∃ p, p = w.heap.size := ⟨_, rfl⟩
  go_upto_region 4 with fail
  rw [← hp3] at r3 ⊢
  rw [← hp2] at r2 ⊢
  have HV : Hid (∀ V, Kept w1 V → RRow V p2 (.bool m) (.slice a1 k1 c1) (.bool nA) (.slice a2 k2 c2) ∧ RRow V p3 (.bool n) (.slice b1 k3 c3) (.bool nB) (.slice b2 k4 c4) ∧ Kept w V) := fun V hV => ⟨r2.kept hV, r3.kept hV, HK1.out.trans hV⟩
  obtain ⟨q0, q1, q2, q3⟩ := rrow_all r2
  obtain ⟨r0', r1', r2', r3'⟩ := rrow_all r3
  clear hp2 hp3 r2 r3
  go_region_held3 (fun w' => w'.cell? ⟨p2, 0, none⟩ = some (.bool m) ∧ w'.cell? ⟨p2, 1, none⟩ = some (.slice a1 k1 c1) ∧ w'.cell? ⟨p2, 2, none⟩ = some (.bool nA) ∧ w'.cell? ⟨p2, 3, none⟩ = some (.slice a2 k2 c2) ∧ w'.cell? ⟨p3, 0, none⟩ = some (.bool n) ∧ w'.cell? ⟨p3, 1, none⟩ = some (.slice b1 k3 c3) ∧ w'.cell? ⟨p3, 2, none⟩ = some (.bool nB) ∧ w'.cell? ⟨p3, 3, none⟩ = some (.slice b2 k4 c4)) (go_keep) (first
   | (go_at_call_of 37 (Value.agg #[.bool m, .slice a1 k1 c1, .bool nA, .slice a2 k2 c2]); refine (FTake_any m nA a1 a2 k1 c1 k2 c2 an ad _ (HA.out.1.kept (HV.out _ (Kept.refl _).drew).2.2) (HA.out.2.1.kept (HV.out _ (Kept.refl _).drew).2.2) (by have := HQ.out; omega) (by have := HQ.out; omega)).mono ?_; rintro e w3 ⟨hk3, v3, rfl, s3, a3, k3', c3', t3, a4, k4', c4', rfl, n3, n4, l3, l4⟩; have K3 := (Kept.refl w1).drew.trans hk3; have H3 : Hid (D.NIs w3 s3 (.slice a3 k3' c3') (M.int m an) ∧ D.NIs w3 t3 (.slice a4 k4' c4') (M.int nA ad) ∧ k3' ≤ 300 ∧ k4' ≤ 300) := ⟨n3, n4, by have := HQ.out; omega, by have := HQ.out; omega⟩; clear n3 n4 l3 l4; obtain ⟨d0, d1, d2, d3⟩ := rrow_all (HV.out _ K3).1; obtain ⟨d4, d5, d6, d7⟩ := rrow_all (HV.out _ K3).2.1)
   | (go_at_call_of 37 (Value.agg #[.bool n, .slice b1 k3 c3, .bool nB, .slice b2 k4 c4]); refine (FTake_any n nB b1 b2 k3 c3 k4 c4 bn bd _ (HA.out.2.2.1.kept (HV.out _ K3).2.2) (HA.out.2.2.2.1.kept (HV.out _ K3).2.2) (by have := HQ.out; omega) (by have := HQ.out; omega)).mono ?_; rintro e w5 ⟨hk5, v5, rfl, s5, a5, k5', c5', t5, a6, k6', c6', rfl, n5, n6, l5, l6⟩; have K5 := K3.trans hk5; have H5 : Hid (D.NIs w5 s5 (.slice a5 k5' c5') (M.int n bn) ∧ D.NIs w5 t5 (.slice a6 k6' c6') (M.int nB bd) ∧ k5' ≤ 300 ∧ k6' ≤ 300) := ⟨n5, n6, by have := HQ.out; omega, by have := HQ.out; omega⟩; clear n5 n6 l5 l6; obtain ⟨g0, g1, g2, g3⟩ := rrow_all (HV.out _ K5).1; obtain ⟨g4, g5, g6, g7⟩ := rrow_all (HV.out _ K5).2.1)
   | (go_at_call 44; refine (FHeld_any s3 t3 s5 t5 a3 a4 a5 a6 k3' c3' k4' c4' k5' c5' k6' c6' _ _ _ _ _ (H3.out.1.kept hk5) (H3.out.2.1.kept hk5) H5.out.1 H5.out.2.1 (by have h1 := H3.out.2.2; have h2 := H5.out.2.2; omega)).mono ?_; rintro e w6 ⟨hk6, rfl⟩; have K6 := K5.trans hk6; obtain ⟨i0, i1, i2, i3⟩ := rrow_all (HV.out _ K6).1; obtain ⟨i4, i5, i6, i7⟩ := rrow_all (HV.out _ K6).2.1))
  have HZ := hid' (HV.out _ K6).2.2
  clear q0 q1 q2 q3 r0' r1' r2' r3' d0 d1 d2 d3 d4 d5 d6 d7 g0 g1 g2 g3 g4 g5 g6 g7 i0 i1 i2 i3 i4 i5 i6 i7 hk3 hk5 hk6 K3 K5 K6 HV
  generalize hgi : isgn (M.int m an * M.int nB bd) (M.int n bn * M.int nA ad) = gi
  have HGI := hid' hgi
  clear hgi
  go_wp2
  go_ret2
  exact ⟨HZ.out, 0, HC.out, .inr ⟨rfl, by rw [HGI.out]; rfl⟩⟩
 ·
  have hcb : ((c : Int) == 0) = false := by simpa using hc0
  have H0 := hid' hc0
  clear hc0 r2 r3
  go_wp2
  go_ret2
  exact ⟨HK1.out, c, HC.out, .inl ⟨H0.out, rfl⟩⟩
end F
end Go.Proofs.YtblpacgfgifkcaaGreat
