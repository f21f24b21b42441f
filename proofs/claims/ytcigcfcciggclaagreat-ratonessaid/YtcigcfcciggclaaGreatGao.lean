/- shuntref02: told, Make. rat's Make, Round, Whole, of whatever is handed in. shuntref02: Grid, Round. rat.Whole and shuntref02.Whole, of whatever is handed in. shuntref02.Whole, of whatever is handed in. -/
import Derived.Test.YtcigcfcciggclaaGreatGan
import Derived.Test.YtcigcfcciggclaaGreatFfault
import Derived.Test.YtcigcfcciggclaaGreatFround
import Derived.Test.YtcigcfcciggclaaGreatGnear
import Derived.Test.YtcigcfcciggclaaGreatRwhole
import Derived.Test.YtcigcfcciggclaaGreatMul
namespace Go.Proofs.YtcigcfcciggclaaGreat
open Go.RowKit
namespace F

theorem nis_wide {w : World} {s : Bool} {ao : Option Addr} {k c : Nat} {z : Int} (h : D.NIs w s (.slice ao k c) z) (hk : 72 < (k + 1) / 2) : M.W72 ≤ z.natAbs := by
  obtain ⟨l, h1, h2, rfl⟩ := h
  have e := h1.len
  subst e
  rw [D.natAbs_int]
  exact D.wide_of h2.tr hk

set_option maxRecDepth 100000 in
set_option maxHeartbeats 4000000 in
theorem told_any (s t : Bool) (a1 a2 : Option Addr) (k1 c1 k2 c2 : Nat) (N Q : Int) (w : World) (h1 : D.NIs w s (.slice a1 k1 c1) N) (h2 : D.NIs w t (.slice a2 k2 c2) Q) (hl1 : k1 ≤ 10000) (hl2 : k2 ≤ 10000) :
    Calls Tryz.prog 38 #[.agg #[.bool s, .slice a1 k1 c1, .bool t, .slice a2 k2 c2]] w fun e w' => Kept w w' ∧ ToldIs w.heap.size w' e N Q := by
  have HA : Hid (D.NIs w s (.slice a1 k1 c1) N ∧ D.NIs w t (.slice a2 k2 c2) Q ∧ k1 ≤ 10000 ∧ k2 ≤ 10000) := ⟨h1, h2, hl1, hl2⟩
  clear h1 h2 hl1 hl2
  go_enter Tryz.func38, Tryz.ntmps38
  go_upto_region 1 with fail
  have r1 := ((FRow.alloc w (.bool s) (.slice a1 k1 c1) (.bool t) (.slice a2 k2 c2)).kept ((Kept.refl _).alloc (.cells #[.bool false, .slice none 0 0, .bool false, .slice none 0 0] 26)))
  have r2 := RRow.alloc (w.alloc (.cells #[.bool s, .slice a1 k1 c1, .bool t, .slice a2 k2 c2] 68)) (.bool false) (.slice none 0 0) (.bool false) (.slice none 0 0)
  have hK := ((Kept.refl w).alloc (.cells #[.bool s, .slice a1 k1 c1, .bool t, .slice a2 k2 c2] 68)).alloc (.cells #[.bool false, .slice none 0 0, .bool false, .slice none 0 0] 26)
  simp only [World.size_alloc] at r2
  generalize (w.alloc (.cells #[.bool s, .slice a1 k1 c1, .bool t, .slice a2 k2 c2] 68)).alloc (.cells #[.bool false, .slice none 0 0, .bool false, .slice none 0 0] 26) = W at r1 r2 hK ⊢
  obtain ⟨p2, hp2⟩ : ∃ p, p = w.heap.size + 1 := ⟨_, rfl⟩
  rw [← hp2] at r2 ⊢
  obtain ⟨p1, hp1⟩ : ∃ p, p = w.heap.size := ⟨_, rfl⟩
  rw [← hp1] at r1 ⊢
  have HP : Hid (w.heap.size ≤ p2 ∧ w.heap.size ≤ W.heap.size) := ⟨by omega, hK.size⟩
  have n21 : ¬ p2 = p1 := by omega
  have HV : Hid (∀ V, Kept W V → FRow V p1 (.bool s) (.slice a1 k1 c1) (.bool t) (.slice a2 k2 c2) ∧ RRow V p2 (.bool false) (.slice none 0 0) (.bool false) (.slice none 0 0) ∧ Kept w V) := fun V hV => ⟨r1.kept hV, r2.kept hV, hK.trans hV⟩
  obtain ⟨q0, q1, q2, q3⟩ := frow_all r1
  clear hp1 hp2 r1 r2 hK
  go_wp2_with fail
  refine (D.Length_any s a1 k1 c1 _ (by have := HA.out; omega)).mono ?_
  rintro e w1 ⟨hk1, rfl⟩
  have HK1 := hid' hk1
  clear q0 q1 q2 q3 hk1
  obtain ⟨q0, q1, q2, q3⟩ := frow_all (HV.out _ HK1.out).1
  have z := (HV.out _ HK1.out).2.1
  by_cases h72 : 72 < (k1 + 1) / 2
  · have h72' : (72 : Int) < (((k1 + 1) / 2 : Nat) : Int) := by omega
    have HW := hid' (nis_wide HA.out.1 h72)
    generalize (((k1 + 1) / 2 : Nat) : Int) = q at *
    have e0 := z.c0
    have e1 := z.c1
    have e2 := z.c2
    have e3 := z.c3
    have y0 := z.fz 0
    have y1 := z.fz 1
    have y2 := z.fz 2
    have y3 := z.fz 3
    clear h72 z
    go_wp2
    exact bodyPost_ret (v := .tuple #[.agg #[.bool false, .slice none 0 0, .bool false, .slice none 0 0], .int .i64 13]) (by simp [results, Tryz.results38, go_sem, e0, e1, e2, e3]) rfl ⟨Kept.put4 (HV.out _ HK1.out).2.2 HP.out.1 _ _ _ _, .inr ⟨rfl, .inl HW.out⟩⟩
  · have h72' : ¬ (72 : Int) < (((k1 + 1) / 2 : Nat) : Int) := by omega
    have HL1 : Hid ((k1 + 1) / 2 ≤ 72) := by show _ ≤ _; omega
    generalize (((k1 + 1) / 2 : Nat) : Int) = q at *
    clear h72 z
    go_wp2_with fail
    refine (D.Length_any t a2 k2 c2 _ (by have := HA.out; omega)).mono ?_
    rintro e w2 ⟨hk2, rfl⟩
    have HK2 := hid' (HK1.out.trans hk2)
    clear q0 q1 q2 q3 hk2
    obtain ⟨q0, q1, q2, q3⟩ := frow_all (HV.out _ HK2.out).1
    have z := (HV.out _ HK2.out).2.1
    by_cases h73 : 72 < (k2 + 1) / 2
    · have h73' : (72 : Int) < (((k2 + 1) / 2 : Nat) : Int) := by omega
      have HW := hid' (nis_wide HA.out.2.1 h73)
      generalize (((k2 + 1) / 2 : Nat) : Int) = q' at *
      have e0 := z.c0
      have e1 := z.c1
      have e2 := z.c2
      have e3 := z.c3
      have y0 := z.fz 0
      have y1 := z.fz 1
      have y2 := z.fz 2
      have y3 := z.fz 3
      clear h73 z
      go_wp2
      exact bodyPost_ret (v := .tuple #[.agg #[.bool false, .slice none 0 0, .bool false, .slice none 0 0], .int .i64 13]) (by simp [results, Tryz.results38, go_sem, e0, e1, e2, e3]) rfl ⟨Kept.put4 (HV.out _ HK2.out).2.2 HP.out.1 _ _ _ _, .inr ⟨rfl, .inr HW.out⟩⟩
    · have h73' : ¬ (72 : Int) < (((k2 + 1) / 2 : Nat) : Int) := by omega
      have HL2 : Hid ((k2 + 1) / 2 ≤ 72) := by show _ ≤ _; omega
      generalize (((k2 + 1) / 2 : Nat) : Int) = q' at *
      clear h73 z
      go_wp2_with fail
      refine (FGive_any s t a1 a2 k1 c1 k2 c2 N Q _ (HA.out.1.kept (HV.out _ HK2.out).2.2) (HA.out.2.1.kept (HV.out _ HK2.out).2.2) HA.out.2.2.1 HA.out.2.2.2).mono ?_
      rintro e w3 ⟨hk3, s3, a3, k3, c3, l3, t3, a4, k4, c4, l4, rfl, n3, tr3, i3, e3', z3, n4, tr4, i4, e4', z4⟩
      have HK3 := hid' (HK2.out.trans hk3)
      have HG : Hid ((New w.heap.size w3 (.slice a3 k3 c3) l3 ∧ M.Right s3 l3 ∧ M.int s3 l3 = N) ∧ (New w.heap.size w3 (.slice a4 k4 c4) l4 ∧ M.Right t3 l4 ∧ M.int t3 l4 = Q)) := ⟨⟨n3.mono (HV.out _ HK2.out).2.2.size, ⟨n3.sl.bd, tr3, by rw [e3']; exact HL1.out, z3⟩, i3⟩, n4.mono (HV.out _ HK2.out).2.2.size, ⟨n4.sl.bd, tr4, by rw [e4']; exact HL2.out, z4⟩, i4⟩
      have z := (HV.out _ HK3.out).2.1
      have HZ := hid' z
      have e0 := z.c0
      have e1 := z.c1
      have e2 := z.c2
      have e3 := z.c3
      have y0 := z.fz 0
      have y1 := z.fz 1
      have y2 := z.fz 2
      have y3 := z.fz 3
      clear q0 q1 q2 q3 hk3 n3 tr3 i3 e3' z3 n4 tr4 i4 e4' z4 z
      go_wp2
      exact bodyPost_ret (v := .tuple #[.agg #[.bool s3, .slice a3 k3 c3, .bool t3, .slice a4 k4 c4], .int .i64 0]) (by simp [results, Tryz.results38, go_sem, e0, e1, e2, e3]) rfl ⟨Kept.put4 (HV.out _ HK3.out).2.2 HP.out.1 _ _ _ _, .inl ⟨s3, a3, k3, c3, l3, t3, a4, k4, c4, l4, rfl, New.rset4 HG.out.1.1 HZ.out _ _ _ _, HG.out.1.2.1, HG.out.1.2.2, New.rset4 HG.out.2.1 HZ.out _ _ _ _, HG.out.2.2.1, HG.out.2.2.2⟩⟩

/-- What Make answers. -/
def MadeIs (B : Nat) (w : World) (e : Ending) (m n : Bool) (a b : List Nat) : Prop :=
  (¬ (R m a ∧ R n b) ∧ e = .returned (.tuple #[.agg #[.bool false, .slice none 0 0, .bool false, .slice none 0 0], .int .i64 10])) ∨ (R m a ∧ R n b ∧ ((b.length = 0 ∧ e = .returned (.tuple #[.agg #[.bool false, .slice none 0 0, .bool false, .slice none 0 0], .int .i64 11])) ∨ (0 < b.length ∧ ∃ N Q, Low (M.int m a) (M.int n b) N Q ∧ ToldIs B w e N Q)))

set_option maxRecDepth 100000 in
set_option maxHeartbeats 4000000 in
theorem RMake_any (m n : Bool) (a1 a2 : Option Addr) (k1 c1 k2 c2 : Nat) (a b : List Nat) (w : World) (h1 : Sl w (.slice a1 k1 c1) a) (h2 : Sl w (.slice a2 k2 c2) b) (hl1 : a.length ≤ 9223372036854775807) (hl2 : b.length ≤ 9223372036854775807) :
    Calls Tryz.prog 18 #[.agg #[.bool m, .slice a1 k1 c1], .agg #[.bool n, .slice a2 k2 c2]] w fun e w' => Kept w w' ∧ MadeIs w.heap.size w' e m n a b := by
  have HA : Hid (Sl w (.slice a1 k1 c1) a ∧ Sl w (.slice a2 k2 c2) b ∧ a.length ≤ 9223372036854775807 ∧ b.length ≤ 9223372036854775807 ∧ k2 = b.length) := ⟨h1, h2, hl1, hl2, h2.len⟩
  clear h1 h2 hl1 hl2
  go_enter Tryz.func18, Tryz.ntmps18
  go_upto_region 1 with fail
  have r2 := ((IRow.alloc w (.bool m) (.slice a1 k1 c1)).kept (((Kept.refl _).alloc (.cells #[.bool n, .slice a2 k2 c2] 24)).alloc (.cells #[.bool false, .slice none 0 0, .bool false, .slice none 0 0] 26)))
  have r3 := ((IRow.alloc (w.alloc (.cells #[.bool m, .slice a1 k1 c1] 24)) (.bool n) (.slice a2 k2 c2)).kept ((Kept.refl _).alloc (.cells #[.bool false, .slice none 0 0, .bool false, .slice none 0 0] 26)))
  have r4 := RRow.alloc ((w.alloc (.cells #[.bool m, .slice a1 k1 c1] 24)).alloc (.cells #[.bool n, .slice a2 k2 c2] 24)) (.bool false) (.slice none 0 0) (.bool false) (.slice none 0 0)
  have hK := (((Kept.refl w).alloc (.cells #[.bool m, .slice a1 k1 c1] 24)).alloc (.cells #[.bool n, .slice a2 k2 c2] 24)).alloc (.cells #[.bool false, .slice none 0 0, .bool false, .slice none 0 0] 26)
  simp only [World.size_alloc] at r3 r4
  generalize ((w.alloc (.cells #[.bool m, .slice a1 k1 c1] 24)).alloc (.cells #[.bool n, .slice a2 k2 c2] 24)).alloc (.cells #[.bool false, .slice none 0 0, .bool false, .slice none 0 0] 26) = W at r2 r3 r4 hK ⊢
  obtain ⟨p4, hp4⟩ : ∃ p, p = w.heap.size + 1 + 1 := ⟨_, rfl⟩
  rw [← hp4] at r4 ⊢
  obtain ⟨p3, hp3⟩ : ∃ p, p = w.heap.size + 1 := ⟨_, rfl⟩
  rw [← hp3] at r3 ⊢
  obtain ⟨p2, hp2⟩ : ∃ p, p = w.heap.size := ⟨_, rfl⟩
  rw [← hp2] at r2 ⊢
  have HP : Hid (w.heap.size ≤ p4 ∧ w.heap.size ≤ W.heap.size) := ⟨by omega, hK.size⟩
  have n42 : ¬ p4 = p2 := by omega
  have n43 : ¬ p4 = p3 := by omega
  have HV : Hid (∀ V, Kept W V → (V.cell? ⟨p2, 0, none⟩ = some (.bool m) ∧ V.cell? ⟨p2, 1, none⟩ = some (.slice a1 k1 c1)) ∧ (V.cell? ⟨p3, 0, none⟩ = some (.bool n) ∧ V.cell? ⟨p3, 1, none⟩ = some (.slice a2 k2 c2)) ∧ RRow V p4 (.bool false) (.slice none 0 0) (.bool false) (.slice none 0 0) ∧ Kept w V) := fun V hV => ⟨⟨(r2.kept hV).c0, (r2.kept hV).c1⟩, ⟨(r3.kept hV).c0, (r3.kept hV).c1⟩, r4.kept hV, hK.trans hV⟩
  clear hp2 hp3 hp4 r2 r3 r4 hK
  obtain ⟨⟨q0, q1⟩, ⟨q2, q3⟩, -, hK⟩ := HV.out _ (Kept.refl W)
  have HK := hid' hK
  clear hK
  by_cases hra : R m a
  · go_wp2_with fail
    refine (right_yes m _ a _ (HA.out.1.kept HK.out) hra).mono ?_
    rintro e w1 ⟨rfl, hk1⟩
    have HK1 := hid' hk1
    have HRA := hid' hra
    clear q0 q1 q2 q3 hk1 hra
    obtain ⟨⟨q0, q1⟩, ⟨q2, q3⟩, -, -⟩ := HV.out _ HK1.out
    by_cases hrb : R n b
    · go_wp2_with fail
      refine (right_yes n _ b _ (HA.out.2.1.kept (HV.out _ HK1.out).2.2.2) hrb).mono ?_
      rintro e w2 ⟨rfl, hk2⟩
      have HK2 := hid' (HK1.out.trans hk2)
      have HRB := hid' hrb
      clear q0 q1 q2 q3 hk2 hrb
      obtain ⟨⟨q0, q1⟩, ⟨q2, q3⟩, z, -⟩ := HV.out _ HK2.out
      by_cases hb0 : b.length = 0
      · have hk0 : k2 = 0 := by rw [HA.out.2.2.2.2, hb0]
        have HB0 := hid' hb0
        subst hk0
        have e0 := z.c0
        have e1 := z.c1
        have e2 := z.c2
        have e3 := z.c3
        have y0 := z.fz 0
        have y1 := z.fz 1
        have y2 := z.fz 2
        have y3 := z.fz 3
        clear hb0 z
        go_wp2
        exact bodyPost_ret (v := .tuple #[.agg #[.bool false, .slice none 0 0, .bool false, .slice none 0 0], .int .i64 11]) (by simp [results, Tryz.results18, go_sem, e0, e1, e2, e3]) rfl ⟨Kept.put4 (HV.out _ HK2.out).2.2.2 HP.out.1 _ _ _ _, .inr ⟨HRA.out, HRB.out, .inl ⟨HB0.out, rfl⟩⟩⟩
      · have hkb : ((k2 : Int) == 0) = false := by rw [HA.out.2.2.2.2]; simpa using hb0
        have HB0 : Hid (0 < b.length) := by show 0 < _; omega
        have HN0 : Hid (M.int n b ≠ 0) := by
          have h := M.val_pos HRB.out.tr (fun e => by rw [e] at hb0; simp at hb0)
          have h' := M.natAbs_int n b
          show _ ≠ _; omega
        have HQ := hid' (And.intro HRA.out.1 HRB.out.1)
        clear hb0 z
        go_upto_region 5 with fail
        go_region_held3 (fun w' => w'.cell? ⟨p2, 0, none⟩ = some (.bool m) ∧ w'.cell? ⟨p2, 1, none⟩ = some (.slice a1 k1 c1) ∧ w'.cell? ⟨p3, 0, none⟩ = some (.bool n) ∧ w'.cell? ⟨p3, 1, none⟩ = some (.slice a2 k2 c2)) (go_keep) (first
          | (go_at_call_of 50 (Value.slice a1 k1 c1); refine (D.Take_any m a1 k1 c1 a _ (HA.out.1.kept (HV.out _ (HK2.out.trans (Kept.refl _).drew)).2.2.2) (by have := HQ.out; omega)).mono ?_; rintro e w3 ⟨hk3, s3, a3, k3, c3, rfl, n3, l3⟩; have K3 := HK2.out.trans ((Kept.refl w2).drew.trans hk3); have H3 := hid' (And.intro n3 l3); clear n3 l3; obtain ⟨⟨d0, d1⟩, ⟨d2, d3⟩, -, -⟩ := HV.out _ K3)
          | (go_at_call_of 50 (Value.slice a2 k2 c2); refine (D.Take_any n a2 k2 c2 b _ (HA.out.2.1.kept (HV.out _ K3).2.2.2) (by have := HQ.out; omega)).mono ?_; rintro e w4 ⟨hk4, s4, a4, k4, c4, rfl, n4, l4⟩; have K4 := K3.trans hk4; have H4 := hid' (And.intro n4 (And.intro l4 (H3.out.1.kept hk4))); clear n4 l4; obtain ⟨⟨g0, g1⟩, ⟨g2, g3⟩, -, -⟩ := HV.out _ K4)
          | (go_at_call 49; refine (Lowest_any s3 s4 a3 a4 k3 c3 k4 c4 _ _ _ H4.out.2.2 H4.out.1 (by have h1 := H3.out.2; have h2 := HQ.out; omega) (by have h1 := H4.out.2.1; have h2 := HQ.out; omega) HN0.out).mono ?_; rintro e w5 ⟨hk5, v5, N5, D5, rfl, hF5, hL5⟩; have K5 := K4.trans hk5; obtain ⟨s5, a5, k5, c5, t5, a6, k6, c6, rfl, n5, n6, l5, l6⟩ := hF5; have H5 := hid' (And.intro n5 (And.intro n6 (And.intro l5 (And.intro l6 hL5)))); clear n5 n6 l5 l6 hL5; obtain ⟨⟨i0, i1⟩, ⟨i2, i3⟩, -, -⟩ := HV.out _ K5)
          | (go_at_call 38; refine (told_any s5 t5 a5 a6 k5 c5 k6 c6 N5 D5 _ H5.out.1 H5.out.2.1 (by have h1 := H3.out.2; have h2 := HQ.out; have h3 := H5.out.2.2.1; omega) (by have h1 := H4.out.2.1; have h2 := HQ.out; have h3 := H5.out.2.2.2.1; omega)).mono ?_; rintro e w6 ⟨hk6, hT⟩; have K6 := K5.trans hk6; obtain ⟨s7, a7, k7, c7, t7, a8, k8, c8, ec, rfl, hT'⟩ := hT.split; have H6 := hid' hT'; clear hT hT'; obtain ⟨⟨j0, j1⟩, ⟨j2, j3⟩, z, -⟩ := HV.out _ K6; have e0 := z.c0; have e1 := z.c1; have e2 := z.c2; have e3 := z.c3; have y0 := z.fz 0; have y1 := z.fz 1; have y2 := z.fz 2; have y3 := z.fz 3))
        have HZ := hid' (And.intro z (And.intro (HV.out _ K6).2.2.2 (HV.out _ K5).2.2.2.size))
        clear q0 q1 q2 q3 d0 d1 d2 d3 g0 g1 g2 g3 i0 i1 i2 i3 j0 j1 j2 j3 hk3 hk4 hk5 hk6 K3 K4 K5 K6 HV z
        go_wp2
        exact bodyPost_ret (v := .tuple #[.agg #[.bool s7, .slice a7 k7 c7, .bool t7, .slice a8 k8 c8], .int .i64 ec]) (by simp [results, Tryz.results18, go_sem, e0, e1, e2, e3]) rfl ⟨Kept.put4 HZ.out.2.1 HP.out.1 _ _ _ _, .inr ⟨HRA.out, HRB.out, .inr ⟨HB0.out, N5, D5, H5.out.2.2.2.2, (H6.out.mono HZ.out.2.2).put4 HZ.out.1 _ _ _ _⟩⟩⟩
    · go_wp2_with fail
      refine (right_no n _ b _ (HA.out.2.1.kept (HV.out _ HK1.out).2.2.2) HA.out.2.2.2.1 hrb).mono ?_
      rintro e w2 ⟨rfl, hk2⟩
      have HK2 := hid' (HK1.out.trans hk2)
      have HRB := hid' hrb
      clear q0 q1 q2 q3 hk2 hrb
      obtain ⟨-, -, z, -⟩ := HV.out _ HK2.out
      have e0 := z.c0
      have e1 := z.c1
      have e2 := z.c2
      have e3 := z.c3
      have y0 := z.fz 0
      have y1 := z.fz 1
      have y2 := z.fz 2
      have y3 := z.fz 3
      clear z
      go_wp2
      exact bodyPost_ret (v := .tuple #[.agg #[.bool false, .slice none 0 0, .bool false, .slice none 0 0], .int .i64 10]) (by simp [results, Tryz.results18, go_sem, e0, e1, e2, e3]) rfl ⟨Kept.put4 (HV.out _ HK2.out).2.2.2 HP.out.1 _ _ _ _, .inl ⟨fun h => HRB.out h.2, rfl⟩⟩
  · go_wp2_with fail
    refine (right_no m _ a _ (HA.out.1.kept HK.out) HA.out.2.2.1 hra).mono ?_
    rintro e w1 ⟨rfl, hk1⟩
    have HK1 := hid' hk1
    have HRA := hid' hra
    clear q0 q1 q2 q3 hk1 hra
    obtain ⟨-, -, z, -⟩ := HV.out _ HK1.out
    have e0 := z.c0
    have e1 := z.c1
    have e2 := z.c2
    have e3 := z.c3
    have y0 := z.fz 0
    have y1 := z.fz 1
    have y2 := z.fz 2
    have y3 := z.fz 3
    clear z
    go_wp2
    exact bodyPost_ret (v := .tuple #[.agg #[.bool false, .slice none 0 0, .bool false, .slice none 0 0], .int .i64 10]) (by simp [results, Tryz.results18, go_sem, e0, e1, e2, e3]) rfl ⟨Kept.put4 (HV.out _ HK1.out).2.2.2 HP.out.1 _ _ _ _, .inl ⟨fun h => HRA.out h.1, rfl⟩⟩

end F
end Go.Proofs.YtcigcfcciggclaaGreat

namespace Go.Proofs.YtcigcfcciggclaaGreat
open Go.RowKit
namespace F

/-- What a fraction is refused for. -/
def FaultC (m n : Bool) (a d : List Nat) (c : Int) : Prop := (c = 10 ∧ ¬ (R m a ∧ R n d)) ∨ (c = 20 ∧ R m a ∧ R n d ∧ ¬ RatR m n a d) ∨ (c = 0 ∧ RatR m n a d)

theorem FaultC.one {m n : Bool} {a d : List Nat} {c c' : Int} (h : FaultC m n a d c) (h' : FaultC m n a d c') : c = c' := by
  rcases h with ⟨rfl, h⟩ | ⟨rfl, h1, h2, h3⟩ | ⟨rfl, h⟩ <;> rcases h' with ⟨rfl, h'⟩ | ⟨rfl, h1', h2', h3'⟩ | ⟨rfl, h'⟩
  · rfl
  · exact absurd ⟨h1', h2'⟩ h
  · exact absurd ⟨h'.ra, h'.rd⟩ h
  · exact absurd ⟨h1, h2⟩ h'
  · rfl
  · exact absurd h' h3
  · exact absurd ⟨h.ra, h.rd⟩ h'
  · exact absurd h h3'
  · rfl

theorem refused_c {m n : Bool} {a d : List Nat} {c : Int} (h : Refused 1 (fun _ => m) (fun _ => n) (fun _ => a) (fun _ => d) c) : FaultC m n a d c := by
  rcases h with ⟨rfl, i, hi, h⟩ | ⟨hr, ⟨rfl, i, hi, h⟩ | ⟨rfl, h⟩⟩
  · exact .inl ⟨rfl, h⟩
  · exact .inr (.inl ⟨rfl, (hr 0 (by omega)).1, (hr 0 (by omega)).2, fun q => h ⟨q.pos, q.low⟩⟩)
  · exact .inr (.inr ⟨rfl, (hr 0 (by omega)).1, (hr 0 (by omega)).2, (h 0 (by omega)).1, (h 0 (by omega)).2⟩)

set_option maxHeartbeats 1000000 in
theorem gcd_bad (m n : Bool) (va vb : Value) (a b : List Nat) (w : World) (ha : Sl w va a) (hb : Sl w vb b) (hla : a.length ≤ 9223372036854775807) (hlb : b.length ≤ 9223372036854775807) (hr : ¬ (R m a ∧ R n b)) :
    Calls Tryz.prog 46 #[.agg #[.bool m, va], .agg #[.bool n, vb]] w fun e w' => Kept w w' ∧ e = .returned (.tuple #[.agg #[.bool false, .slice none 0 0], .int .i64 10]) := by
  have HR : Hid (¬ (R m a ∧ R n b)) := hr
  have HA : Hid (Sl w va a ∧ Sl w vb b ∧ a.length ≤ 9223372036854775807 ∧ b.length ≤ 9223372036854775807) := ⟨ha, hb, hla, hlb⟩
  clear hr ha hb hla hlb
  have K3 : ∀ x y t, Kept w (((w.alloc x).alloc y).alloc t) := fun x y t => (((Kept.refl w).alloc x).alloc y).alloc t
  go_enter Tryz.func46, Tryz.ntmps46
  go_wp2_with fail
  refine (wrong_yes m n va vb a b _ (HA.out.1.kept (K3 _ _ _)) (HA.out.2.1.kept (K3 _ _ _)) HA.out.2.2.1 HA.out.2.2.2 HR.out).mono ?_
  rintro e w1 ⟨rfl, hk⟩
  obtain ⟨_, _, _, _, hR0, hR1⟩ := box_kept3 hk
  have hf := hk.frozens
  have HK1 : Hid (Kept w w1) := (K3 _ _ _).trans hk
  clear hk K3
  go_wp2
  exact bodyPost_ret (v := .tuple #[.agg #[.bool false, .slice none 0 0], .int .i64 10]) (by simp [results, Tryz.results46, go_sem, hR0, hR1]) rfl ⟨(HK1.out.setCell (by simp; omega) _).setCell (by simp; omega) _, rfl⟩

set_option maxRecDepth 100000 in
set_option maxHeartbeats 4000000 in
theorem Make_bad (m n : Bool) (a1 a2 : Option Addr) (k1 c1 k2 c2 : Nat) (a b : List Nat) (w : World) (h1 : Sl w (.slice a1 k1 c1) a) (h2 : Sl w (.slice a2 k2 c2) b) (hl1 : a.length ≤ 9223372036854775807) (hl2 : b.length ≤ 9223372036854775807) (hr : ¬ (R m a ∧ R n b)) :
    Calls Tryz.prog 17 #[.agg #[.bool m, .slice a1 k1 c1], .agg #[.bool n, .slice a2 k2 c2]] w fun e w' => Kept w w' ∧ e = .returned (.tuple #[.agg #[.bool false, .slice none 0 0, .bool false, .slice none 0 0], .int .i64 10]) := by
  have HA : Hid (Sl w (.slice a1 k1 c1) a ∧ Sl w (.slice a2 k2 c2) b ∧ a.length ≤ 9223372036854775807 ∧ b.length ≤ 9223372036854775807 ∧ ¬ (R m a ∧ R n b)) := ⟨h1, h2, hl1, hl2, hr⟩
  clear h1 h2 hl1 hl2 hr
  have r4 := RRow.alloc ((w.alloc (.cells #[.bool m, .slice a1 k1 c1] 24)).alloc (.cells #[.bool n, .slice a2 k2 c2] 24)) (.bool false) (.slice none 0 0) (.bool false) (.slice none 0 0)
  simp only [World.size_alloc] at r4
  have H4 := hid' r4
  have K3 : ∀ x y t, Kept w (((w.alloc x).alloc y).alloc t) := fun x y t => (((Kept.refl w).alloc x).alloc y).alloc t
  clear r4
  go_enter Tryz.func17, Tryz.ntmps17
  go_wp2_with fail
  refine (gcd_bad m n _ _ a b _ (HA.out.1.kept (K3 _ _ _)) (HA.out.2.1.kept (K3 _ _ _)) HA.out.2.2.1 HA.out.2.2.2.1 HA.out.2.2.2.2).mono ?_
  rintro e w1 ⟨hk, rfl⟩
  have HK := hid' ((K3 _ _ _).trans hk)
  have H4 := hid' (H4.out.kept hk)
  clear hk K3
  go_upto_region 3 with fail
  have hk := (Kept.refl w1).alloc (.cells #[.bool false, .slice none 0 0] 24)
  generalize w1.alloc (.cells #[.bool false, .slice none 0 0] 24) = W at hk ⊢
  have z := H4.out.kept hk
  have HK := hid' (HK.out.trans hk)
  have e0 := z.c0
  have e1 := z.c1
  have e2 := z.c2
  have e3 := z.c3
  have y0 := z.fz 0
  have y1 := z.fz 1
  have y2 := z.fz 2
  have y3 := z.fz 3
  clear hk z
  go_wp2
  exact bodyPost_ret (v := .tuple #[.agg #[.bool false, .slice none 0 0, .bool false, .slice none 0 0], .int .i64 10]) (by simp [results, Tryz.results17, go_sem, e0, e1, e2, e3]) rfl ⟨Kept.put4 HK.out (by omega) _ _ _ _, rfl⟩

set_option maxRecDepth 100000 in
set_option maxHeartbeats 4000000 in
theorem Make_nil (m n : Bool) (a1 a2 : Option Addr) (k1 c1 c2 : Nat) (a : List Nat) (w : World) (h1 : Sl w (.slice a1 k1 c1) a) (hra : R m a) (hrb : R n []) :
    Calls Tryz.prog 17 #[.agg #[.bool m, .slice a1 k1 c1], .agg #[.bool n, .slice a2 0 c2]] w fun e w' => Kept w w' ∧ e = .returned (.tuple #[.agg #[.bool false, .slice none 0 0, .bool false, .slice none 0 0], .int .i64 11]) := by
  have HA : Hid (Sl w (.slice a1 k1 c1) a ∧ R m a ∧ R n []) := ⟨h1, hra, hrb⟩
  clear h1 hra hrb
  have r3 := ((IRow.alloc (w.alloc (.cells #[.bool m, .slice a1 k1 c1] 24)) (.bool n) (.slice a2 0 c2)).kept ((Kept.refl _).alloc (.cells #[.bool false, .slice none 0 0, .bool false, .slice none 0 0] 26)))
  have r4 := RRow.alloc ((w.alloc (.cells #[.bool m, .slice a1 k1 c1] 24)).alloc (.cells #[.bool n, .slice a2 0 c2] 24)) (.bool false) (.slice none 0 0) (.bool false) (.slice none 0 0)
  simp only [World.size_alloc] at r3 r4
  have H3 := hid' r3
  have H4 := hid' r4
  have K3 : ∀ x y t, Kept w (((w.alloc x).alloc y).alloc t) := fun x y t => (((Kept.refl w).alloc x).alloc y).alloc t
  clear r3 r4
  go_enter Tryz.func17, Tryz.ntmps17
  go_wp2_with fail
  refine (gcd_any m n _ _ a [] _ (HA.out.1.kept (K3 _ _ _)) (Sl.nil _ _ _) HA.out.2.1 HA.out.2.2).mono ?_
  rintro e w1 ⟨hk, ao, k, cap, l, rfl, hn, hr, hv⟩
  have HK := hid' ((K3 _ _ _).trans hk)
  have H3 := hid' (H3.out.kept hk)
  have H4 := hid' (H4.out.kept hk)
  clear hk K3 hn hr hv
  go_upto_region 4 with fail
  have hk := (Kept.refl w1).alloc (.cells #[.bool false, .slice ao k cap] 24)
  generalize w1.alloc (.cells #[.bool false, .slice ao k cap] 24) = W at hk ⊢
  have HK := hid' (HK.out.trans hk)
  have H3 := hid' (H3.out.kept hk)
  have H4 := hid' (H4.out.kept hk)
  have q0 := H3.out.c0
  have q1 := H3.out.c1
  clear hk
  go_wp2_with fail
  refine (sign_any n a2 0 c2 [] _ (Sl.nil _ _ _) HA.out.2.2).mono ?_
  rw [show isgn (M.int n []) 0 = 0 by cases n <;> rfl]
  rintro e w2 ⟨rfl, hk⟩
  have HK := hid' (HK.out.trans hk)
  have z := H4.out.kept hk
  have e0 := z.c0
  have e1 := z.c1
  have e2 := z.c2
  have e3 := z.c3
  have y0 := z.fz 0
  have y1 := z.fz 1
  have y2 := z.fz 2
  have y3 := z.fz 3
  clear hk z q0 q1
  go_wp2
  exact bodyPost_ret (v := .tuple #[.agg #[.bool false, .slice none 0 0, .bool false, .slice none 0 0], .int .i64 11]) (by simp [results, Tryz.results17, go_sem, e0, e1, e2, e3]) rfl ⟨Kept.put4 HK.out (by omega) _ _ _ _, rfl⟩

theorem right_lt {s : Bool} {l : List Nat} (h : M.Right s l) : (M.int s l).natAbs < M.W72 := by rw [M.natAbs_int]; exact M.lt_W72 h.bd h.len

/-- rat.Make, whatever is handed in. -/
theorem Make_all (m n : Bool) (a1 a2 : Option Addr) (k1 c1 k2 c2 : Nat) (a b : List Nat) (w : World) (h1 : Sl w (.slice a1 k1 c1) a) (h2 : Sl w (.slice a2 k2 c2) b) (hl1 : a.length ≤ 9223372036854775807) (hl2 : b.length ≤ 9223372036854775807) :
    Calls Tryz.prog 17 #[.agg #[.bool m, .slice a1 k1 c1], .agg #[.bool n, .slice a2 k2 c2]] w fun e w' => Kept w w' ∧ MadeIs w.heap.size w' e m n a b := by
  by_cases hr : R m a ∧ R n b
  · by_cases hb : b.length = 0
    · obtain rfl : b = [] := List.length_eq_zero_iff.1 hb
      have hk := h2.len
      simp at hk
      subst hk
      refine (Make_nil m n a1 a2 k1 c1 c2 a w h1 hr.1 hr.2).mono ?_
      rintro e w' ⟨h, rfl⟩
      exact ⟨h, .inr ⟨hr.1, hr.2, .inl ⟨rfl, rfl⟩⟩⟩
    · refine (Make_ok m n a1 a2 k1 c1 k2 c2 a b w h1 h2 hr.1 hr.2 (by omega)).mono ?_
      rintro e w' ⟨h, v, X, Y, rfl, ⟨s, ao, k, c, l, t, ap, k', c', l', rfl, n1, r1, i1, n2, r2, i2, hR⟩, g, hg, hx, hy, hs⟩
      refine ⟨h, .inr ⟨hr.1, hr.2, .inr ⟨by omega, X, Y, ⟨?_, ?_, ?_⟩, .inl ⟨s, ao, k, c, l, t, ap, k', c', l', rfl, n1, r1, i1, n2, r2, i2⟩⟩⟩⟩
      · rw [← i2]; exact hR.pos
      · rw [← i1, ← i2, M.natAbs_int, M.natAbs_int]; exact hR.low
      · rw [← hx, ← hy, Int.mul_assoc, Int.mul_comm g]
  · refine (Make_bad m n a1 a2 k1 c1 k2 c2 a b w h1 h2 hl1 hl2 hr).mono ?_
    rintro e w' ⟨h, rfl⟩
    exact ⟨h, .inl ⟨hr, rfl⟩⟩

/-- What Round answers. -/
def RoundIs (e : Ending) (m n : Bool) (a d : List Nat) : Prop := ∃ c, FaultC m n a d c ∧ ((c ≠ 0 ∧ e = .returned (.tuple #[.int .i64 0, .int .i64 c])) ∨ (c = 0 ∧ e = .returned (.tuple #[.int .i64 (gridV (near (M.int m a) (M.val d))), .int .i64 (gridE (near (M.int m a) (M.val d)))])))

set_option maxHeartbeats 4000000 in
theorem Round_bad (m n : Bool) (aoa aob : Option Addr) (ka ca kb cb : Nat) (a d : List Nat) (w : World) (ha : Sl w (.slice aoa ka ca) a) (hd : Sl w (.slice aob kb cb) d) (hla : a.length ≤ 9223372036854775807) (hld : d.length ≤ 9223372036854775807) (hn : ¬ RatR m n a d) :
    Calls Tryz.prog 19 #[.agg #[.bool m, .slice aoa ka ca, .bool n, .slice aob kb cb]] w fun e w' => Kept w w' ∧ ∃ c, FaultC m n a d c ∧ c ≠ 0 ∧ e = .returned (.tuple #[.int .i64 0, .int .i64 c]) := by
  have HA : Hid (Sl w (.slice aoa ka ca) a ∧ Sl w (.slice aob kb cb) d ∧ a.length ≤ 9223372036854775807 ∧ d.length ≤ 9223372036854775807) := ⟨ha, hd, hla, hld⟩
  have HN := hid' hn
  clear ha hd hla hld hn
  have K2 : ∀ x y, Kept w ((w.alloc x).alloc y) := fun x y => ((Kept.refl w).alloc x).alloc y
  go_enter Tryz.func19, Tryz.ntmps19
  go_wp2_with fail
  refine (refusal_any _ (w.heap.size + 1) 0 1 1 _ _ _ _ _ _ _ _ _ _ _ (fun _ => rfl) (by omega) (RatAll.single (m := m) (n := n) (a1 := aoa) (a2 := aob) (k1 := ka) (c1 := ca) (k2 := kb) (c2 := cb) (by simp) (by simp) (by simp) (by simp) (HA.out.1.kept (K2 _ _)) (HA.out.2.1.kept (K2 _ _)) HA.out.2.2.1 HA.out.2.2.2)).mono ?_
  rintro e w1 ⟨hk, c, rfl, hc⟩
  have hf := refused_c hc
  have hc0 : c ≠ 0 := by
    rintro rfl
    rcases hf with ⟨h, _⟩ | ⟨h, _⟩ | ⟨_, h⟩
    · exact absurd h (by decide)
    · exact absurd h (by decide)
    · exact HN.out h
  have HF := hid' (And.intro hf hc0)
  have HK := hid' ((K2 _ _).trans hk)
  have hcb : ((c : Int) == 0) = false := by simpa using hc0
  clear hk hc hf hc0 K2
  go_wp2
  go_ret2
  exact ⟨HK.out, c, HF.out.1, HF.out.2, rfl⟩

theorem Round_all (m n : Bool) (aoa aob : Option Addr) (ka ca kb cb : Nat) (a d : List Nat) (w : World) (ha : Sl w (.slice aoa ka ca) a) (hd : Sl w (.slice aob kb cb) d) (hla : a.length ≤ 9223372036854775807) (hld : d.length ≤ 9223372036854775807) :
    Calls Tryz.prog 19 #[.agg #[.bool m, .slice aoa ka ca, .bool n, .slice aob kb cb]] w fun e w' => Kept w w' ∧ RoundIs e m n a d := by
  by_cases hR : RatR m n a d
  · refine (Round_ok m n aoa aob ka ca kb cb a d w ha hd hR).mono ?_
    rintro e w' ⟨rfl, h⟩
    exact ⟨h, 0, .inr (.inr ⟨rfl, hR⟩), .inr ⟨rfl, rfl⟩⟩
  · refine (Round_bad m n aoa aob ka ca kb cb a d w ha hd hla hld hR).mono ?_
    rintro e w' ⟨h, c, hc, h0, rfl⟩
    exact ⟨h, c, hc, .inl ⟨h0, rfl⟩⟩

end F
end Go.Proofs.YtcigcfcciggclaaGreat

namespace Go.Proofs.YtcigcfcciggclaaGreat
open Go.RowKit
namespace F

set_option maxHeartbeats 4000000 in
theorem Grid_any (s t : Bool) (a1 a2 : Option Addr) (k1 c1 k2 c2 : Nat) (X Y : Int) (w : World) (h1 : D.NIs w s (.slice a1 k1 c1) X) (h2 : D.NIs w t (.slice a2 k2 c2) Y) (hl1 : k1 ≤ 900) (hl2 : k2 ≤ 900) (hy : 0 < Y) :
    Calls Tryz.prog 55 #[.agg #[.bool s, .slice a1 k1 c1, .bool t, .slice a2 k2 c2]] w fun e w' => Kept w w' ∧ e = .returned (.tuple #[.int .i64 (gridV (near X Y.toNat)), .int .i64 (gridE (near X Y.toNat))]) := by
  have HA : Hid (D.NIs w s (.slice a1 k1 c1) X ∧ D.NIs w t (.slice a2 k2 c2) Y ∧ k1 ≤ 900 ∧ k2 ≤ 900 ∧ 0 < Y) := ⟨h1, h2, hl1, hl2, hy⟩
  clear h1 h2 hl1 hl2 hy
  obtain ⟨z, HZ⟩ : ∃ z, Hid (near X Y.toNat = z) := ⟨_, rfl⟩
  rw [HZ.out]
  go_enter Tryz.func55, Tryz.ntmps55
  go_wp2_with fail
  refine (Near_any s t a1 a2 k1 c1 k2 c2 X Y _ (HA.out.1.kept ((Kept.refl w).alloc _)) (HA.out.2.1.kept ((Kept.refl w).alloc _)) HA.out.2.2.1 HA.out.2.2.2.1 HA.out.2.2.2.2).mono ?_
  rw [HZ.out]
  rintro e w1 ⟨hk1, s3, a3, k3, c3, rfl, n3, l3⟩
  have HK1 := hid' (((Kept.refl w).alloc _).trans hk1)
  have H3 := hid' (And.intro n3 l3)
  clear hk1 n3 l3
  go_wp2_with fail
  refine (D.Whole_any s3 a3 k3 c3 z _ H3.out.1 (by have h1 := H3.out.2; have h2 := HA.out.2.2.1; omega)).mono ?_
  by_cases hin : -9223372036854775808 ≤ z ∧ z ≤ 9223372036854775807
  · rw [show i64r z = z by unfold i64r; rw [if_pos hin], show (i64e z == 0) = true by unfold i64e; rw [if_pos hin]; rfl]
    rintro e w2 ⟨rfl, hk2⟩
    have HK2 := hid' (HK1.out.trans hk2)
    clear hk2
    by_cases hg : -1000000000000000000 ≤ z ∧ z ≤ 1000000000000000000
    · have HG := hid' hg
      have g1 : ¬ 1000000000000000000 < z := by omega
      have g2 : ¬ z < -1000000000000000000 := by omega
      clear hg hin
      go_wp2
      go_ret2
      exact ⟨HK2.out, ret_grid HG.out rfl⟩
    · have HG := hid' hg
      by_cases g1 : 1000000000000000000 < z
      · clear hg hin
        go_wp2
        go_ret2
        exact ⟨HK2.out, ret_off HG.out⟩
      · have g2 : z < -1000000000000000000 := by omega
        clear hg hin
        go_wp2
        go_ret2
        exact ⟨HK2.out, ret_off HG.out⟩
  · rw [show (i64e z == 0) = false by unfold i64e; rw [if_neg hin]; rfl]
    have HG : Hid (¬ (-1000000000000000000 ≤ z ∧ z ≤ 1000000000000000000)) := fun h => hin (by omega)
    clear hin
    rintro e w2 ⟨rfl, hk2⟩
    have HK2 := hid' (HK1.out.trans hk2)
    clear hk2
    generalize i64r z = q
    go_wp2
    go_ret2
    exact ⟨HK2.out, ret_off HG.out⟩

set_option maxHeartbeats 4000000 in
theorem RRound_any (m n : Bool) (aoa aob : Option Addr) (ka ca kb cb : Nat) (a d : List Nat) (w : World) (ha : Sl w (.slice aoa ka ca) a) (hd : Sl w (.slice aob kb cb) d) (hla : a.length ≤ 9223372036854775807) (hld : d.length ≤ 9223372036854775807) :
    Calls Tryz.prog 20 #[.agg #[.bool m, .slice aoa ka ca, .bool n, .slice aob kb cb]] w fun e w' => Kept w w' ∧ RoundIs e m n a d := by
  have HA : Hid (Sl w (.slice aoa ka ca) a ∧ Sl w (.slice aob kb cb) d ∧ a.length ≤ 9223372036854775807 ∧ d.length ≤ 9223372036854775807) := ⟨ha, hd, hla, hld⟩
  clear ha hd hla hld
  go_enter Tryz.func20, Tryz.ntmps20
  go_wp2_with fail
  refine (Fault_any m n aoa aob ka ca kb cb a d _ (HA.out.1.kept ((Kept.refl w).alloc _)) (HA.out.2.1.kept ((Kept.refl w).alloc _)) HA.out.2.2.1 HA.out.2.2.2).mono ?_
  rintro e w1 ⟨hk1, c, rfl, hc⟩
  have rA := (RRow.alloc w (.bool m) (.slice aoa ka ca) (.bool n) (.slice aob kb cb)).kept hk1
  obtain ⟨q0, q1, q2, q3⟩ := rrow_all rA
  have HK1 := hid' (((Kept.refl w).alloc _).trans hk1)
  have HC : Hid (FaultC m n a d c) := hc
  clear hk1 rA hc
  by_cases hc0 : c = 0
  · subst hc0
    have HR : Hid (RatR m n a d) := by
      rcases HC.out with ⟨h, _⟩ | ⟨h, _⟩ | ⟨_, h⟩
      · exact absurd h (by decide)
      · exact absurd h (by decide)
      · exact h
    go_wp2_with fail
    refine (FTake_any m n aoa aob ka ca kb cb a d _ (HA.out.1.kept HK1.out) (HA.out.2.1.kept HK1.out) (by have := HR.out.ra.1; omega) (by have := HR.out.rd.1; omega)).mono ?_
    rintro e w2 ⟨hk2, v, rfl, s3, a3, k3, c3, t3, a4, k4, c4, rfl, n3, n4, l3, l4⟩
    have H3 := hid' (And.intro n3 (And.intro n4 (And.intro l3 l4)))
    have HK2 := hid' (HK1.out.trans hk2)
    have HLL := hid' (And.intro HR.out.ra.1 HR.out.rd.1)
    clear hk2 n3 n4 l3 l4 q0 q1 q2 q3
    go_wp2_with fail
    refine (Grid_any s3 t3 a3 a4 k3 c3 k4 c4 _ _ _ H3.out.1 H3.out.2.1 (by have h1 := H3.out.2.2; have h2 := HLL.out; omega) (by have h1 := H3.out.2.2; have h2 := HLL.out; omega) HR.out.pos).mono ?_
    rw [show (M.int n d).toNat = M.val d by rw [HR.out.val]; rfl]
    rintro e w3 ⟨hk3, rfl⟩
    have HK3 := hid' (HK2.out.trans hk3)
    clear hk3
    generalize hgv : gridV (near (M.int m a) (M.val d)) = gv
    generalize hge : gridE (near (M.int m a) (M.val d)) = ge
    have HGG := hid' (And.intro hgv hge)
    clear hgv hge
    go_wp2
    go_ret2
    exact ⟨HK3.out, 0, HC.out, .inr ⟨rfl, by rw [HGG.out.1, HGG.out.2]; rfl⟩⟩
  · have hcb : ((c : Int) == 0) = false := by simpa using hc0
    have H0 := hid' hc0
    clear hc0
    go_wp2
    go_ret2
    exact ⟨HK1.out, c, HC.out, .inl ⟨H0.out, rfl⟩⟩

end F
end Go.Proofs.YtcigcfcciggclaaGreat

namespace Go.Proofs.YtcigcfcciggclaaGreat
open Go.RowKit
namespace F

/-- What Whole answers, by its parts. -/
def WholeX (B : Nat) (w : World) (so : Bool) (v : Value) (ec : Int) (m n : Bool) (a d : List Nat) (s : Bool) (b : List Nat) : Prop :=
  (ec ≠ 0 ∧ so = false ∧ v = .slice none 0 0 ∧ ((¬ R s b ∧ ec = 10) ∨ (R s b ∧ FaultC m n a d ec) ∨ (R s b ∧ RatR m n a d ∧ ¬ M.val d ∣ M.val b ∧ ec = 12))) ∨ (R s b ∧ RatR m n a d ∧ M.val d ∣ M.val b ∧ ∃ z, z * M.val d = M.int s b * M.int m a ∧ Fin B w so v ec z)

def WholeIs (B : Nat) (w : World) (e : Ending) (m n : Bool) (a d : List Nat) (s : Bool) (b : List Nat) : Prop :=
  ∃ so ao k c ec, e = .returned (.tuple #[.agg #[.bool so, .slice ao k c], .int .i64 ec]) ∧ WholeX B w so (.slice ao k c) ec m n a d s b

theorem Fin.mono {B B' : Nat} {w : World} {s : Bool} {v : Value} {c z : Int} (h : Fin B w s v c z) (hB : B' ≤ B) : Fin B' w s v c z := by
  rcases h with ⟨h1, l, h2, h3⟩ | h
  · exact .inl ⟨h1, l, h2.mono hB, h3⟩
  · exact .inr h

theorem Fin.box {B p : Nat} {w : World} {s : Bool} {v : Value} {c z : Int} (h : Fin B w s v c z) (hz : ZBox w p) (x y : Value) : Fin B ((w.setCell ⟨p, 0, none⟩ x).setCell ⟨p, 1, none⟩ y) s v c z := by
  rcases h with ⟨h1, l, h2, h3⟩ | h
  · exact .inl ⟨h1, l, New.box2 h2 hz x y, h3⟩
  · exact .inr h

theorem exa_whole {m n s t : Bool} {a d b q : List Nat} (hR : RatR m n a d) (h : M.int t q * M.int n d = M.int s b) : (M.int t q * M.int m a) * M.val d = M.int s b * M.int m a := by
  rw [← h, hR.val, Int.mul_assoc, Int.mul_assoc, Int.mul_comm (M.int m a)]

set_option maxRecDepth 100000 in
set_option maxHeartbeats 8000000 in
theorem Whole_all (m n : Bool) (a1 a2 : Option Addr) (k1 c1 k2 c2 : Nat) (a d : List Nat) (s : Bool) (ab : Option Addr) (kb cb : Nat) (b : List Nat) (w : World) (ha : Sl w (.slice a1 k1 c1) a) (hd : Sl w (.slice a2 k2 c2) d) (hb : Sl w (.slice ab kb cb) b) (hla : a.length ≤ 9223372036854775807) (hld : d.length ≤ 9223372036854775807) (hlb : b.length ≤ 9223372036854775807) :
    Calls Tryz.prog 21 #[.agg #[.bool m, .slice a1 k1 c1, .bool n, .slice a2 k2 c2], .agg #[.bool s, .slice ab kb cb]] w fun e w' => Kept w w' ∧ WholeIs w.heap.size w' e m n a d s b := by
  have HA : Hid (Sl w (.slice a1 k1 c1) a ∧ Sl w (.slice a2 k2 c2) d ∧ Sl w (.slice ab kb cb) b ∧ a.length ≤ 9223372036854775807 ∧ d.length ≤ 9223372036854775807 ∧ b.length ≤ 9223372036854775807) := ⟨ha, hd, hb, hla, hld, hlb⟩
  clear ha hd hb hla hld hlb
  go_enter Tryz.func21, Tryz.ntmps21
  go_upto_region 1 with fail
  have r2 := ((RRow.alloc w (.bool m) (.slice a1 k1 c1) (.bool n) (.slice a2 k2 c2)).kept (((Kept.refl _).alloc (.cells #[.bool s, .slice ab kb cb] 24)).alloc (.cells #[.bool false, .slice none 0 0] 24)))
  have r3 := ((IRow.alloc (w.alloc (.cells #[.bool m, .slice a1 k1 c1, .bool n, .slice a2 k2 c2] 26)) (.bool s) (.slice ab kb cb)).kept ((Kept.refl _).alloc (.cells #[.bool false, .slice none 0 0] 24)))
  have r4 := ZBox.alloc ((w.alloc (.cells #[.bool m, .slice a1 k1 c1, .bool n, .slice a2 k2 c2] 26)).alloc (.cells #[.bool s, .slice ab kb cb] 24))
  have hK := (((Kept.refl w).alloc (.cells #[.bool m, .slice a1 k1 c1, .bool n, .slice a2 k2 c2] 26)).alloc (.cells #[.bool s, .slice ab kb cb] 24)).alloc (.cells #[.bool false, .slice none 0 0] 24)
  simp only [World.size_alloc] at r3 r4
  generalize ((w.alloc (.cells #[.bool m, .slice a1 k1 c1, .bool n, .slice a2 k2 c2] 26)).alloc (.cells #[.bool s, .slice ab kb cb] 24)).alloc (.cells #[.bool false, .slice none 0 0] 24) = W at r2 r3 r4 hK ⊢
  obtain ⟨p4, hp4⟩ : ∃ p, p = w.heap.size + 1 + 1 := ⟨_, rfl⟩
  rw [← hp4] at r4 ⊢
  obtain ⟨p3, hp3⟩ : ∃ p, p = w.heap.size + 1 := ⟨_, rfl⟩
  rw [← hp3] at r3 ⊢
  obtain ⟨p2, hp2⟩ : ∃ p, p = w.heap.size := ⟨_, rfl⟩
  rw [← hp2] at r2 ⊢
  have HP : Hid (w.heap.size ≤ p4) := by show _ ≤ _; omega
  have HV : Hid (∀ V, Kept W V → RRow V p2 (.bool m) (.slice a1 k1 c1) (.bool n) (.slice a2 k2 c2) ∧ IRow V p3 (.bool s) (.slice ab kb cb) ∧ ZBox V p4 ∧ Kept w V) := fun V hV => ⟨r2.kept hV, r3.kept hV, r4.kept hV, hK.trans hV⟩
  have q0 := r3.c0
  have q1 := r3.c1
  have HK := hid' hK
  clear hp2 hp3 hp4 r2 r3 r4 hK
  by_cases hrb : R s b
  · have HRB := hid' hrb
    go_wp2_with fail
    refine (check_yes s _ b _ (HA.out.2.2.1.kept HK.out) hrb).mono ?_
    rintro e w1 ⟨rfl, hk1⟩
    have HK1 := hid' hk1
    clear hk1 q0 q1 hrb
    obtain ⟨q0, q1, q2, q3⟩ := rrow_all (HV.out _ HK1.out).1
    have K2 : ∀ x, Kept w (w1.alloc x) := fun x => (HV.out _ HK1.out).2.2.2.alloc x
    have HK2 := hid' K2
    clear K2
    go_wp2_with fail
    refine (refusal_any _ w1.heap.size 0 1 1 _ _ _ _ _ _ _ _ _ _ _ (fun _ => rfl) (by omega) (RatAll.single (m := m) (n := n) (a1 := a1) (a2 := a2) (k1 := k1) (c1 := c1) (k2 := k2) (c2 := c2) (by simp) (by simp) (by simp) (by simp) (HA.out.1.kept (HK2.out _)) (HA.out.2.1.kept (HK2.out _)) HA.out.2.2.2.1 HA.out.2.2.2.2.1)).mono ?_
    rintro e w2 ⟨hk2, c, rfl, hc⟩
    have HF := hid' (refused_c hc)
    have HK2 := hid' ((HK1.out.alloc _).trans hk2)
    clear hk2 hc q0 q1 q2 q3
    by_cases hc0 : c = 0
    · subst hc0
      have HR : Hid (RatR m n a d) := by
        rcases HF.out with ⟨h, _⟩ | ⟨h, _⟩ | ⟨_, h⟩
        · exact absurd h (by decide)
        · exact absurd h (by decide)
        · exact h
      obtain ⟨q0, q1, q2, q3⟩ := rrow_all (HV.out _ HK2.out).1
      have q4 := (HV.out _ HK2.out).2.1.c0
      have q5 := (HV.out _ HK2.out).2.1.c1
      go_wp2_with fail
      refine (exact_any s n (.slice ab kb cb) (.slice a2 k2 c2) b d _ (HA.out.2.2.1.kept (HV.out _ HK2.out).2.2.2) (HA.out.2.1.kept (HV.out _ HK2.out).2.2.2) HRB.out HR.out.rd (len_pos (s := n) HR.out.pos)).mono ?_
      rintro e w3 ⟨hk3, hx⟩
      have HK3 := hid' (HK2.out.trans hk3)
      rcases hx with ⟨hdv, t3, a3, k3, c3, l3, rfl, n3, r3, v3⟩ | ⟨hdv, rfl⟩
      · have HX := hid' (And.intro n3.sl (And.intro r3 (And.intro v3 hdv)))
        clear hk3 q0 q1 q2 q3 q4 q5 n3 r3 v3 hdv
        go_upto_region 10 with fail
        have hI := IRow.alloc w3 (.bool t3) (.slice a3 k3 c3)
        have hk := (Kept.refl w3).alloc (.cells #[.bool t3, .slice a3 k3 c3] 24)
        generalize w3.alloc (.cells #[.bool t3, .slice a3 k3 c3] 24) = W4 at hI hk ⊢
        have HK4 := hid' (HK3.out.trans hk)
        have HX := hid' (And.intro (HX.out.1.kept hk) HX.out.2)
        obtain ⟨q0, q1, q2, q3⟩ := rrow_all (HV.out _ HK4.out).1
        have q4 := hI.c0
        have q5 := hI.c1
        clear hI hk
        go_wp2_with fail
        refine (mul_any t3 m (.slice a3 k3 c3) (.slice a1 k1 c1) l3 a _ HX.out.1 (HA.out.1.kept (HV.out _ HK4.out).2.2.2) (R.of_right HX.out.2.1) HR.out.ra).mono ?_
        rintro e w5 ⟨hk5, s5, a5, k5, c5, e5, rfl, hf⟩
        have HK5 := hid' (HK4.out.trans hk5)
        have HFF := hid' (Fin.mono hf (HV.out _ HK4.out).2.2.2.size)
        have z := (HV.out _ HK5.out).2.2.1
        have HZ := hid' z
        have y0 := z.c0
        have y1 := z.c1
        have y2 := z.fz 0
        have y3 := z.fz 1
        clear hk5 hf z q0 q1 q2 q3 q4 q5
        go_wp2
        exact bodyPost_ret (v := .tuple #[.agg #[.bool s5, .slice a5 k5 c5], .int .i64 e5]) (by simp [results, Tryz.results21, go_sem, y0, y1]) rfl ⟨((HV.out _ HK5.out).2.2.2.setCell (p := ⟨p4, 0, none⟩) HP.out _).setCell (p := ⟨p4, 1, none⟩) HP.out _, s5, a5, k5, c5, e5, rfl, .inr ⟨HRB.out, HR.out, HX.out.2.2.2, _, exa_whole HR.out HX.out.2.2.1, Fin.box HFF.out HZ.out _ _⟩⟩
      · have HX := hid' hdv
        clear hk3 q0 q1 q2 q3 q4 q5 hdv
        go_upto_region 9 with fail
        have hk := (Kept.refl w3).alloc (.cells #[.bool false, .slice none 0 0] 24)
        generalize w3.alloc (.cells #[.bool false, .slice none 0 0] 24) = W4 at hk ⊢
        have HK4 := hid' (HK3.out.trans hk)
        have z := (HV.out _ HK4.out).2.2.1
        have y0 := z.c0
        have y1 := z.c1
        have y2 := z.fz 0
        have y3 := z.fz 1
        clear hk z
        go_wp2
        exact bodyPost_ret (v := .tuple #[.agg #[.bool false, .slice none 0 0], .int .i64 12]) (by simp [results, Tryz.results21, go_sem, y0, y1]) rfl ⟨((HV.out _ HK4.out).2.2.2.setCell (p := ⟨p4, 0, none⟩) HP.out _).setCell (p := ⟨p4, 1, none⟩) HP.out _, false, none, 0, 0, 12, rfl, .inl ⟨by decide, rfl, rfl, .inr (.inr ⟨HRB.out, HR.out, HX.out, rfl⟩)⟩⟩
    · have hcb : ((c : Int) == 0) = false := by simpa using hc0
      have H0 := hid' hc0
      have z := (HV.out _ HK2.out).2.2.1
      have y0 := z.c0
      have y1 := z.c1
      have y2 := z.fz 0
      have y3 := z.fz 1
      clear hc0 z
      go_wp2
      exact bodyPost_ret (v := .tuple #[.agg #[.bool false, .slice none 0 0], .int .i64 c]) (by simp [results, Tryz.results21, go_sem, y0, y1]) rfl ⟨((HV.out _ HK2.out).2.2.2.setCell (p := ⟨p4, 0, none⟩) HP.out _).setCell (p := ⟨p4, 1, none⟩) HP.out _, false, none, 0, 0, c, rfl, .inl ⟨H0.out, rfl, rfl, .inr (.inl ⟨HRB.out, HF.out⟩)⟩⟩
  · have HRB := hid' hrb
    go_wp2_with fail
    refine (check_no s _ b _ (HA.out.2.2.1.kept HK.out) HA.out.2.2.2.2.2 hrb).mono ?_
    rintro e w1 ⟨rfl, hk1⟩
    have HK1 := hid' hk1
    have z := (HV.out _ HK1.out).2.2.1
    have y0 := z.c0
    have y1 := z.c1
    have y2 := z.fz 0
    have y3 := z.fz 1
    clear hk1 q0 q1 hrb z
    go_wp2
    exact bodyPost_ret (v := .tuple #[.agg #[.bool false, .slice none 0 0], .int .i64 10]) (by simp [results, Tryz.results21, go_sem, y0, y1]) rfl ⟨((HV.out _ HK1.out).2.2.2.setCell (p := ⟨p4, 0, none⟩) HP.out _).setCell (p := ⟨p4, 1, none⟩) HP.out _, false, none, 0, 0, 10, rfl, .inl ⟨by decide, rfl, rfl, .inl ⟨HRB.out, rfl⟩⟩⟩

end F
end Go.Proofs.YtcigcfcciggclaaGreat

namespace Go.Proofs.YtcigcfcciggclaaGreat
open Go.RowKit
namespace F

theorem FRow.put4 {w : World} {p : Nat} {x0 x1 x2 x3 : Value} (h : FRow w p x0 x1 x2 x3) (y0 y1 y2 y3 : Value) : FRow (F.put4 w p y0 y1 y2 y3) p y0 y1 y2 y3 :=
  ((World.rowIs.set (World.rowIs.set (World.rowIs.set (World.rowIs.set h 0 y0) 1 y1) 2 y2) 3 y3).congr fun i hi => by
    match i, hi with
    | 0, _ => rfl
    | 1, _ => rfl
    | 2, _ => rfl
    | 3, _ => rfl)

theorem whole_no {V B Q N : Int} {D : Nat} (hL : Low (V * B) (D * ((1 : Nat) : Int)) N Q) (hp : 0 < D) (hQ : Q ≠ 1) : ¬ D ∣ B.natAbs := by
  intro h
  apply hQ
  obtain ⟨z, hz⟩ : (D : Int) ∣ B := by apply Int.natAbs_dvd_natAbs.1; rw [Int.natAbs_natCast]; exact h
  have h' : Low (V * B) (D * ((1 : Nat) : Int)) (V * z) 1 := ⟨by decide, Nat.gcd_one_right _, by rw [hz, Int.mul_assoc, Int.mul_comm z]; simp⟩
  exact (hL.one h' (by simp; omega)).2

theorem whole_yes {V B Q N : Int} {D : Nat} (hL : Low (V * B) (D * ((1 : Nat) : Int)) N Q) (hQ : Q = 1) (hc : Nat.gcd V.natAbs D = 1) : D ∣ B.natAbs ∧ N * D = B * V := by
  subst hQ
  have e := hL.eq
  have e' : N * D = V * B := by simpa using e
  refine ⟨?_, by rw [e', Int.mul_comm]⟩
  have h := congrArg Int.natAbs e'
  rw [Int.natAbs_mul, Int.natAbs_mul, Int.natAbs_natCast] at h
  exact (Nat.Coprime.symm hc).dvd_of_dvd_mul_left (by rw [← h]; exact Nat.dvd_mul_left _ _)

set_option maxRecDepth 100000 in
set_option maxHeartbeats 8000000 in
theorem RWhole_any (m n : Bool) (a1 a2 : Option Addr) (k1 c1 k2 c2 : Nat) (a d : List Nat) (s : Bool) (ab : Option Addr) (kb cb : Nat) (b : List Nat) (w : World) (ha : Sl w (.slice a1 k1 c1) a) (hd : Sl w (.slice a2 k2 c2) d) (hb : Sl w (.slice ab kb cb) b) (hla : a.length ≤ 9223372036854775807) (hld : d.length ≤ 9223372036854775807) (hlb : b.length ≤ 9223372036854775807) :
    Calls Tryz.prog 22 #[.agg #[.bool m, .slice a1 k1 c1, .bool n, .slice a2 k2 c2], .agg #[.bool s, .slice ab kb cb]] w fun e w' => Kept w w' ∧ WholeIs w.heap.size w' e m n a d s b := by
  have HA : Hid (Sl w (.slice a1 k1 c1) a ∧ Sl w (.slice a2 k2 c2) d ∧ Sl w (.slice ab kb cb) b ∧ a.length ≤ 9223372036854775807 ∧ d.length ≤ 9223372036854775807 ∧ b.length ≤ 9223372036854775807) := ⟨ha, hd, hb, hla, hld, hlb⟩
  clear ha hd hb hla hld hlb
  go_enter Tryz.func22, Tryz.ntmps22
  go_upto_region 1 with fail
  have r2 := ((RRow.alloc w (.bool m) (.slice a1 k1 c1) (.bool n) (.slice a2 k2 c2)).kept (((Kept.refl _).alloc (.cells #[.bool s, .slice ab kb cb] 24)).alloc (.cells #[.bool false, .slice none 0 0] 24)))
  have r3 := ((IRow.alloc (w.alloc (.cells #[.bool m, .slice a1 k1 c1, .bool n, .slice a2 k2 c2] 26)) (.bool s) (.slice ab kb cb)).kept ((Kept.refl _).alloc (.cells #[.bool false, .slice none 0 0] 24)))
  have r4 := ZBox.alloc ((w.alloc (.cells #[.bool m, .slice a1 k1 c1, .bool n, .slice a2 k2 c2] 26)).alloc (.cells #[.bool s, .slice ab kb cb] 24))
  have hK := (((Kept.refl w).alloc (.cells #[.bool m, .slice a1 k1 c1, .bool n, .slice a2 k2 c2] 26)).alloc (.cells #[.bool s, .slice ab kb cb] 24)).alloc (.cells #[.bool false, .slice none 0 0] 24)
  simp only [World.size_alloc] at r3 r4
  generalize ((w.alloc (.cells #[.bool m, .slice a1 k1 c1, .bool n, .slice a2 k2 c2] 26)).alloc (.cells #[.bool s, .slice ab kb cb] 24)).alloc (.cells #[.bool false, .slice none 0 0] 24) = W at r2 r3 r4 hK ⊢
  obtain ⟨p4, hp4⟩ : ∃ p, p = w.heap.size + 1 + 1 := ⟨_, rfl⟩
  rw [← hp4] at r4 ⊢
  obtain ⟨p3, hp3⟩ : ∃ p, p = w.heap.size + 1 := ⟨_, rfl⟩
  rw [← hp3] at r3 ⊢
  obtain ⟨p2, hp2⟩ : ∃ p, p = w.heap.size := ⟨_, rfl⟩
  rw [← hp2] at r2 ⊢
  have HP : Hid (w.heap.size ≤ p4) := by show _ ≤ _; omega
  have HV : Hid (∀ V, Kept W V → RRow V p2 (.bool m) (.slice a1 k1 c1) (.bool n) (.slice a2 k2 c2) ∧ IRow V p3 (.bool s) (.slice ab kb cb) ∧ ZBox V p4 ∧ Kept w V) := fun V hV => ⟨r2.kept hV, r3.kept hV, r4.kept hV, hK.trans hV⟩
  obtain ⟨q0, q1, q2, q3⟩ := rrow_all r2
  have HK := hid' hK
  clear hp2 hp3 hp4 r2 r3 r4 hK
  go_wp2_with fail
  refine (Fault_any m n a1 a2 k1 c1 k2 c2 a d _ (HA.out.1.kept HK.out) (HA.out.2.1.kept HK.out) HA.out.2.2.2.1 HA.out.2.2.2.2.1).mono ?_
  rintro e w1 ⟨hk1, c, rfl, hc⟩
  have HF : Hid (FaultC m n a d c) := hc
  have HK1 := hid' hk1
  clear hk1 hc q0 q1 q2 q3
  have q4 := (HV.out _ HK1.out).2.1.c0
  have q5 := (HV.out _ HK1.out).2.1.c1
  by_cases h10 : c = 10
  · subst h10
    have HB : Hid (¬ R s b ∨ R s b) := (Classical.em (R s b)).symm
    clear q4 q5
    have z := (HV.out _ HK1.out).2.2.1
    have y0 := z.c0
    have y1 := z.c1
    have y2 := z.fz 0
    have y3 := z.fz 1
    clear z
    go_wp2
    exact bodyPost_ret (v := .tuple #[.agg #[.bool false, .slice none 0 0], .int .i64 10]) (by simp [results, Tryz.results22, go_sem, y0, y1]) rfl ⟨((HV.out _ HK1.out).2.2.2.setCell (p := ⟨p4, 0, none⟩) HP.out _).setCell (p := ⟨p4, 1, none⟩) HP.out _, false, none, 0, 0, 10, rfl, .inl ⟨by decide, rfl, rfl, HB.out.elim (fun h => .inl ⟨h, rfl⟩) (fun h => .inr (.inl ⟨h, HF.out⟩))⟩⟩
  · have hcb : ((c : Int) == 10) = false := by simpa using h10
    have HC10 := hid' h10
    by_cases hrb : R s b
    · have HRB := hid' hrb
      clear h10
      go_wp2_with fail
      refine (right_yes s _ b _ (HA.out.2.2.1.kept (HV.out _ HK1.out).2.2.2) hrb).mono ?_
      rintro e w2 ⟨rfl, hk2⟩
      have HK2 := hid' (HK1.out.trans hk2)
      clear hk2 q4 q5 hrb
      by_cases hc0 : c = 0
      · subst hc0
        have HR : Hid (RatR m n a d) := by
          rcases HF.out with ⟨h, _⟩ | ⟨h, _⟩ | ⟨_, h⟩
          · exact absurd h (by decide)
          · exact absurd h (by decide)
          · exact h
        have HQ : Hid (a.length ≤ 72 ∧ d.length ≤ 72 ∧ b.length ≤ 72) := ⟨HR.out.ra.1, HR.out.rd.1, HRB.out.1⟩
        have HD0 : Hid (M.int n d ≠ 0) := by have := HR.out.pos; show _ ≠ _; omega
        clear hcb
        go_upto_region 6 with fail
        go_cut [7] (fun s7 wc => ∃ (p7 : Nat) (sx : Bool) (ax : Option Addr) (kx cx : Nat) (tx : Bool) (ay : Option Addr) (ky cy : Nat), s7 = .pointer (some ⟨p7, 0, none⟩) ∧ Hid (Kept w2 wc ∧ FRow wc p7 (.bool sx) (.slice ax kx cx) (.bool tx) (.slice ay ky cy) ∧ ∃ N Q : Int, D.NIs wc sx (.slice ax kx cx) N ∧ D.NIs wc tx (.slice ay ky cy) Q ∧ Low (M.int m a * M.int s b) (M.int n d * ((1 : Nat) : Int)) N Q ∧ kx ≤ 900 ∧ ky ≤ 900))
        case first =>
          have KT : Kept w2 w2.drew := (Kept.refl _).drew
          refine wp_region_held_drew (S := fun w' => w'.cell? ⟨p2, 0, none⟩ = some (.bool m) ∧ w'.cell? ⟨p2, 1, none⟩ = some (.slice a1 k1 c1) ∧ w'.cell? ⟨p2, 2, none⟩ = some (.bool n) ∧ w'.cell? ⟨p2, 3, none⟩ = some (.slice a2 k2 c2) ∧ w'.cell? ⟨p3, 0, none⟩ = some (.bool s) ∧ w'.cell? ⟨p3, 1, none⟩ = some (.slice ab kb cb)) (by kernel_rfl) ⟨(HV.out _ (HK2.out.trans KT)).1.c0, (HV.out _ (HK2.out.trans KT)).1.c1, (HV.out _ (HK2.out.trans KT)).1.c2, (HV.out _ (HK2.out.trans KT)).1.c3, (HV.out _ (HK2.out.trans KT)).2.1.c0, (HV.out _ (HK2.out.trans KT)).2.1.c1⟩ (fun hHeld => ?_)
          generalize w2.drew = Wd at KT hHeld ⊢
          refine wpAnyH_take (i := 0) (v := ?vhx0x1) rfl (by kernel_rfl) (by kernel_rfl) (by kernel_rfl) (fun _ _ _ h => h) (Or.inl ⟨by rfl, ?yhx0x1⟩) hHeld ?rhx0x1
          case yhx0x1 =>
            intro w' hSw
            obtain ⟨hSw0, hSw1, hSw2, hSw3, hSw4, hSw5⟩ := hSw
            go_simp
            with_reducible rfl
          case rhx0x1 =>
          refine wpAnyH_take (i := 2) (v := ?vhx2x2) rfl (by kernel_rfl) (by kernel_rfl) (by kernel_rfl) (fun _ _ _ h => h) (Or.inl ⟨by rfl, ?yhx2x2⟩) hHeld ?rhx2x2
          case yhx2x2 =>
            intro w' hSw
            obtain ⟨hSw0, hSw1, hSw2, hSw3, hSw4, hSw5⟩ := hSw
            go_simp
            with_reducible rfl
          case rhx2x2 =>
          refine wpAnyH_ready (rs := [1, 7]) (by kernel_rfl) (by simp) ?_
          refine AllReadyH.cons rfl (fun K hK => ?_) ?_
          · go_simp
            refine (FTake_any m n a1 a2 k1 c1 k2 c2 a d _ (HA.out.1.kept (HV.out _ (HK2.out.trans KT)).2.2.2) (HA.out.2.1.kept (HV.out _ (HK2.out.trans KT)).2.2.2) (by have := HQ.out; omega) (by have := HQ.out; omega)).mono ?_
            rintro e w3 ⟨hk3, v3, rfl, s3, a3, k3, c3, t3, a4, k4, c4, rfl, n3, n4, l3, l4⟩
            have HL3 := hid' (And.intro l3 l4)
            clear l3 l4
            refine hK.out _ _ ⟨(HV.out _ (HK2.out.trans (KT.trans hk3))).1.c0, (HV.out _ (HK2.out.trans (KT.trans hk3))).1.c1, (HV.out _ (HK2.out.trans (KT.trans hk3))).1.c2, (HV.out _ (HK2.out.trans (KT.trans hk3))).1.c3, (HV.out _ (HK2.out.trans (KT.trans hk3))).2.1.c0, (HV.out _ (HK2.out.trans (KT.trans hk3))).2.1.c1⟩ (fun hHeld => ?_)
            clear hK K
            have KT := KT.trans hk3
            refine wpAnyH_ready (rs := [3, 7]) (by kernel_rfl) (by simp) ?_
            refine AllReadyH.cons rfl (fun K hK => ?_) ?_
            · go_simp
              refine (D.Take_any s ab kb cb b _ (HA.out.2.2.1.kept (HV.out _ (HK2.out.trans KT)).2.2.2) (by have := HQ.out; omega)).mono ?_
              rintro e w5 ⟨hk5, s5, a5, k5, c5, rfl, n5, l5⟩
              have HL5 := hid' l5
              clear l5
              refine hK.out _ _ ⟨(HV.out _ (HK2.out.trans (KT.trans hk5))).1.c0, (HV.out _ (HK2.out.trans (KT.trans hk5))).1.c1, (HV.out _ (HK2.out.trans (KT.trans hk5))).1.c2, (HV.out _ (HK2.out.trans (KT.trans hk5))).1.c3, (HV.out _ (HK2.out.trans (KT.trans hk5))).2.1.c0, (HV.out _ (HK2.out.trans (KT.trans hk5))).2.1.c1⟩ (fun hHeld => ?_)
              clear hK K
              have n3 := D.NIs.kept n3 hk5
              have n4 := D.NIs.kept n4 hk5
              have KT := KT.trans hk5
              refine wpAnyH_ready (rs := [4, 7]) (by kernel_rfl) (by simp) ?_
              refine AllReadyH.cons rfl (fun K hK => ?_) ?_
              · go_simp
                refine (D.small_any 1 _ (by omega)).mono ?_
                rintro e w6 ⟨hk6, a6, k6, c6, l6, rfl, s6, t6, v6, e6⟩
                have n6 : D.NIs w6 false (.slice a6 k6 c6) ((1 : Nat) : Int) := ⟨l6, s6, ⟨s6.bd, t6, fun _ => rfl⟩, by rw [← v6]; simp [D.int]⟩
                have HL6 : Hid (k6 ≤ 1) := by have := s6.len; show _ ≤ _; omega
                clear s6 t6 v6 e6
                refine hK.out _ _ ⟨(HV.out _ (HK2.out.trans (KT.trans hk6))).1.c0, (HV.out _ (HK2.out.trans (KT.trans hk6))).1.c1, (HV.out _ (HK2.out.trans (KT.trans hk6))).1.c2, (HV.out _ (HK2.out.trans (KT.trans hk6))).1.c3, (HV.out _ (HK2.out.trans (KT.trans hk6))).2.1.c0, (HV.out _ (HK2.out.trans (KT.trans hk6))).2.1.c1⟩ (fun hHeld => ?_)
                clear hK K
                have n3 := D.NIs.kept n3 hk6
                have n4 := D.NIs.kept n4 hk6
                have n5 := D.NIs.kept n5 hk6
                have KT := KT.trans hk6
                refine wpAnyH_take (i := 5) (v := ?vhx5x3) rfl (by kernel_rfl) (by kernel_rfl) (by kernel_rfl) (fun _ _ _ h => h) (Or.inl ⟨by rfl, ?yhx5x3⟩) hHeld ?rhx5x3
                case yhx5x3 =>
                  intro w' hSw
                  obtain ⟨hSw0, hSw1, hSw2, hSw3, hSw4, hSw5⟩ := hSw
                  go_simp
                  with_reducible rfl
                case rhx5x3 =>
                refine wpAnyH_ready (rs := [6, 7]) (by kernel_rfl) (by simp) ?_
                refine AllReadyH.cons rfl (fun K hK => ?_) ?_
                · go_simp
                  refine (FTimes_any s3 t3 s5 false a3 a4 a5 a6 k3 c3 k4 c4 k5 c5 k6 c6 _ _ _ _ _ n3 n4 n5 n6 (by have h1 := HL3.out; have h2 := HL5.out; have h3 := HQ.out; omega) (by have h1 := HL3.out; have h2 := HL6.out; have h3 := HQ.out; omega) HD0.out (by omega)).mono ?_
                  rintro e w7 ⟨hk7, v7, N7, Q7, rfl, ⟨s7, a7, k7, c7, t7, a8, k8, c8, rfl, n7, n8, l7, l8⟩, hL7⟩
                  have HL7 : Hid (Low (M.int m a * M.int s b) (M.int n d * ((1 : Nat) : Int)) N7 Q7 ∧ k7 ≤ 900 ∧ k8 ≤ 900) := ⟨hL7, by have h1 := HL3.out; have h2 := HL5.out; have h3 := HQ.out; omega, by have h1 := HL3.out; have h2 := HL6.out; have h3 := HQ.out; omega⟩
                  clear l7 l8 hL7
                  refine hK.out _ _ ⟨(HV.out _ (HK2.out.trans (KT.trans hk7))).1.c0, (HV.out _ (HK2.out.trans (KT.trans hk7))).1.c1, (HV.out _ (HK2.out.trans (KT.trans hk7))).1.c2, (HV.out _ (HK2.out.trans (KT.trans hk7))).1.c3, (HV.out _ (HK2.out.trans (KT.trans hk7))).2.1.c0, (HV.out _ (HK2.out.trans (KT.trans hk7))).2.1.c1⟩ (fun hHeld => ?_)
                  clear hK K
                  have n3 := D.NIs.kept n3 hk7
                  have n4 := D.NIs.kept n4 hk7
                  have n5 := D.NIs.kept n5 hk7
                  have n6 := D.NIs.kept n6 hk7
                  have KT := KT.trans hk7
                  refine wpAnyH_ready (rs := [7]) (by kernel_rfl) (by simp) ?_
                  refine AllReadyH.cons rfl (fun K hK => ?_) AllReadyH.nil
                  go_simp
                  refine hK.out _ _ ⟨(HV.out _ (HK2.out.trans (KT.alloc _))).1.c0, (HV.out _ (HK2.out.trans (KT.alloc _))).1.c1, (HV.out _ (HK2.out.trans (KT.alloc _))).1.c2, (HV.out _ (HK2.out.trans (KT.alloc _))).1.c3, (HV.out _ (HK2.out.trans (KT.alloc _))).2.1.c0, (HV.out _ (HK2.out.trans (KT.alloc _))).2.1.c1⟩ (fun hHeld => ?_)
                  clear hK K
                  have zp7 := FRow.alloc w7 (.bool false) (.slice none 0 0) (.bool false) (.slice none 0 0)
                  have hgp7 : w2.heap.size ≤ w7.heap.size := KT.size
                  have n3 := D.NIs.kept n3 ((Kept.refl w7).alloc (.cells #[.bool false, .slice none 0 0, .bool false, .slice none 0 0] 68))
                  have n4 := D.NIs.kept n4 ((Kept.refl w7).alloc (.cells #[.bool false, .slice none 0 0, .bool false, .slice none 0 0] 68))
                  have n5 := D.NIs.kept n5 ((Kept.refl w7).alloc (.cells #[.bool false, .slice none 0 0, .bool false, .slice none 0 0] 68))
                  have n6 := D.NIs.kept n6 ((Kept.refl w7).alloc (.cells #[.bool false, .slice none 0 0, .bool false, .slice none 0 0] 68))
                  have n7 := D.NIs.kept n7 ((Kept.refl w7).alloc (.cells #[.bool false, .slice none 0 0, .bool false, .slice none 0 0] 68))
                  have n8 := D.NIs.kept n8 ((Kept.refl w7).alloc (.cells #[.bool false, .slice none 0 0, .bool false, .slice none 0 0] 68))
                  have KT := KT.alloc (.cells #[.bool false, .slice none 0 0, .bool false, .slice none 0 0] 68)
                  obtain ⟨p7, hpp7⟩ : ∃ p, p = w7.heap.size := ⟨_, rfl⟩
                  rw [← hpp7] at zp7 hgp7 ⊢
                  generalize w7.alloc (.cells #[.bool false, .slice none 0 0, .bool false, .slice none 0 0] 68) = Wa7 at zp7 n3 n4 n5 n6 n7 n8 KT hHeld ⊢
                  clear hpp7
                  have cp70 := zp7.c0
                  have cp71 := zp7.c1
                  have cp72 := zp7.c2
                  have cp73 := zp7.c3
                  have gp70 := zp7.fz 0
                  have gp71 := zp7.fz 1
                  have gp72 := zp7.fz 2
                  have gp73 := zp7.fz 3
                  refine wpAnyH_ready (rs := [8]) (by kernel_rfl) (by simp) ?_
                  refine AllReadyH.cons rfl (fun K hK => ?_) AllReadyH.nil
                  go_simp
                  refine hK.out _ _ ⟨(HV.out _ (HK2.out.trans (Kept.put4 KT hgp7 _ _ _ _))).1.c0, (HV.out _ (HK2.out.trans (Kept.put4 KT hgp7 _ _ _ _))).1.c1, (HV.out _ (HK2.out.trans (Kept.put4 KT hgp7 _ _ _ _))).1.c2, (HV.out _ (HK2.out.trans (Kept.put4 KT hgp7 _ _ _ _))).1.c3, (HV.out _ (HK2.out.trans (Kept.put4 KT hgp7 _ _ _ _))).2.1.c0, (HV.out _ (HK2.out.trans (Kept.put4 KT hgp7 _ _ _ _))).2.1.c1⟩ (fun hHeld => ?_)
                  clear hK K
                  have ep7 := zp7.put4 (.bool s7) (.slice a7 k7 c7) (.bool t7) (.slice a8 k8 c8)
                  have n3 := nset4 (y0 := .bool s7) (y1 := .slice a7 k7 c7) (y2 := .bool t7) (y3 := .slice a8 k8 c8) n3 zp7
                  have n4 := nset4 (y0 := .bool s7) (y1 := .slice a7 k7 c7) (y2 := .bool t7) (y3 := .slice a8 k8 c8) n4 zp7
                  have n5 := nset4 (y0 := .bool s7) (y1 := .slice a7 k7 c7) (y2 := .bool t7) (y3 := .slice a8 k8 c8) n5 zp7
                  have n6 := nset4 (y0 := .bool s7) (y1 := .slice a7 k7 c7) (y2 := .bool t7) (y3 := .slice a8 k8 c8) n6 zp7
                  have n7 := nset4 (y0 := .bool s7) (y1 := .slice a7 k7 c7) (y2 := .bool t7) (y3 := .slice a8 k8 c8) n7 zp7
                  have n8 := nset4 (y0 := .bool s7) (y1 := .slice a7 k7 c7) (y2 := .bool t7) (y3 := .slice a8 k8 c8) n8 zp7
                  have KT := Kept.put4 KT hgp7 (.bool s7) (.slice a7 k7 c7) (.bool t7) (.slice a8 k8 c8)
                  clear cp70 cp71 cp72 cp73 gp70 gp71 gp72 gp73 zp7
                  unfold put4 at n3 n4 n5 n6 n7 n8 KT ep7
                  generalize (((Wa7.setCell ⟨p7, 0, none⟩ (.bool s7)).setCell ⟨p7, 1, none⟩ (.slice a7 k7 c7)).setCell ⟨p7, 2, none⟩ (.bool t7)).setCell ⟨p7, 3, none⟩ (.slice a8 k8 c8) = Ws at ep7 n3 n4 n5 n6 n7 n8 KT hHeld ⊢
                  refine wpAnyH_done (by kernel_rfl) ?_ _
                  go_wp2_with fail
                  go_meet
                  case rel => exact ⟨p7, s7, a7, k7, c7, t7, a8, k8, c8, rfl, KT, ep7, N7, Q7, n7, n8, HL7.out⟩
                refine AllReadyH.cons rfl (fun K hK => ?_) AllReadyH.nil
                go_simp
                refine hK.out _ _ ⟨(HV.out _ (HK2.out.trans (KT.alloc _))).1.c0, (HV.out _ (HK2.out.trans (KT.alloc _))).1.c1, (HV.out _ (HK2.out.trans (KT.alloc _))).1.c2, (HV.out _ (HK2.out.trans (KT.alloc _))).1.c3, (HV.out _ (HK2.out.trans (KT.alloc _))).2.1.c0, (HV.out _ (HK2.out.trans (KT.alloc _))).2.1.c1⟩ (fun hHeld => ?_)
                clear hK K
                have zp7 := FRow.alloc w6 (.bool false) (.slice none 0 0) (.bool false) (.slice none 0 0)
                have hgp7 : w2.heap.size ≤ w6.heap.size := KT.size
                have n3 := D.NIs.kept n3 ((Kept.refl w6).alloc (.cells #[.bool false, .slice none 0 0, .bool false, .slice none 0 0] 68))
                have n4 := D.NIs.kept n4 ((Kept.refl w6).alloc (.cells #[.bool false, .slice none 0 0, .bool false, .slice none 0 0] 68))
                have n5 := D.NIs.kept n5 ((Kept.refl w6).alloc (.cells #[.bool false, .slice none 0 0, .bool false, .slice none 0 0] 68))
                have n6 := D.NIs.kept n6 ((Kept.refl w6).alloc (.cells #[.bool false, .slice none 0 0, .bool false, .slice none 0 0] 68))
                have KT := KT.alloc (.cells #[.bool false, .slice none 0 0, .bool false, .slice none 0 0] 68)
                obtain ⟨p7, hpp7⟩ : ∃ p, p = w6.heap.size := ⟨_, rfl⟩
                rw [← hpp7] at zp7 hgp7 ⊢
                generalize w6.alloc (.cells #[.bool false, .slice none 0 0, .bool false, .slice none 0 0] 68) = Wa7 at zp7 n3 n4 n5 n6 KT hHeld ⊢
                clear hpp7
                refine wpAnyH_ready (rs := [6]) (by kernel_rfl) (by simp) ?_
                refine AllReadyH.cons rfl (fun K hK => ?_) AllReadyH.nil
                go_simp
                refine (FTimes_any s3 t3 s5 false a3 a4 a5 a6 k3 c3 k4 c4 k5 c5 k6 c6 _ _ _ _ _ n3 n4 n5 n6 (by have h1 := HL3.out; have h2 := HL5.out; have h3 := HQ.out; omega) (by have h1 := HL3.out; have h2 := HL6.out; have h3 := HQ.out; omega) HD0.out (by omega)).mono ?_
                rintro e w7 ⟨hk7, v7, N7, Q7, rfl, ⟨s7, a7, k7, c7, t7, a8, k8, c8, rfl, n7, n8, l7, l8⟩, hL7⟩
                have HL7 : Hid (Low (M.int m a * M.int s b) (M.int n d * ((1 : Nat) : Int)) N7 Q7 ∧ k7 ≤ 900 ∧ k8 ≤ 900) := ⟨hL7, by have h1 := HL3.out; have h2 := HL5.out; have h3 := HQ.out; omega, by have h1 := HL3.out; have h2 := HL6.out; have h3 := HQ.out; omega⟩
                clear l7 l8 hL7
                refine hK.out _ _ ⟨(HV.out _ (HK2.out.trans (KT.trans hk7))).1.c0, (HV.out _ (HK2.out.trans (KT.trans hk7))).1.c1, (HV.out _ (HK2.out.trans (KT.trans hk7))).1.c2, (HV.out _ (HK2.out.trans (KT.trans hk7))).1.c3, (HV.out _ (HK2.out.trans (KT.trans hk7))).2.1.c0, (HV.out _ (HK2.out.trans (KT.trans hk7))).2.1.c1⟩ (fun hHeld => ?_)
                clear hK K
                have zp7 := zp7.kept hk7
                have n3 := D.NIs.kept n3 hk7
                have n4 := D.NIs.kept n4 hk7
                have n5 := D.NIs.kept n5 hk7
                have n6 := D.NIs.kept n6 hk7
                have KT := KT.trans hk7
                have cp70 := zp7.c0
                have cp71 := zp7.c1
                have cp72 := zp7.c2
                have cp73 := zp7.c3
                have gp70 := zp7.fz 0
                have gp71 := zp7.fz 1
                have gp72 := zp7.fz 2
                have gp73 := zp7.fz 3
                refine wpAnyH_ready (rs := [8]) (by kernel_rfl) (by simp) ?_
                refine AllReadyH.cons rfl (fun K hK => ?_) AllReadyH.nil
                go_simp
                refine hK.out _ _ ⟨(HV.out _ (HK2.out.trans (Kept.put4 KT hgp7 _ _ _ _))).1.c0, (HV.out _ (HK2.out.trans (Kept.put4 KT hgp7 _ _ _ _))).1.c1, (HV.out _ (HK2.out.trans (Kept.put4 KT hgp7 _ _ _ _))).1.c2, (HV.out _ (HK2.out.trans (Kept.put4 KT hgp7 _ _ _ _))).1.c3, (HV.out _ (HK2.out.trans (Kept.put4 KT hgp7 _ _ _ _))).2.1.c0, (HV.out _ (HK2.out.trans (Kept.put4 KT hgp7 _ _ _ _))).2.1.c1⟩ (fun hHeld => ?_)
                clear hK K
                have ep7 := zp7.put4 (.bool s7) (.slice a7 k7 c7) (.bool t7) (.slice a8 k8 c8)
                have n3 := nset4 (y0 := .bool s7) (y1 := .slice a7 k7 c7) (y2 := .bool t7) (y3 := .slice a8 k8 c8) n3 zp7
                have n4 := nset4 (y0 := .bool s7) (y1 := .slice a7 k7 c7) (y2 := .bool t7) (y3 := .slice a8 k8 c8) n4 zp7
                have n5 := nset4 (y0 := .bool s7) (y1 := .slice a7 k7 c7) (y2 := .bool t7) (y3 := .slice a8 k8 c8) n5 zp7
                have n6 := nset4 (y0 := .bool s7) (y1 := .slice a7 k7 c7) (y2 := .bool t7) (y3 := .slice a8 k8 c8) n6 zp7
                have n7 := nset4 (y0 := .bool s7) (y1 := .slice a7 k7 c7) (y2 := .bool t7) (y3 := .slice a8 k8 c8) n7 zp7
                have n8 := nset4 (y0 := .bool s7) (y1 := .slice a7 k7 c7) (y2 := .bool t7) (y3 := .slice a8 k8 c8) n8 zp7
                have KT := Kept.put4 KT hgp7 (.bool s7) (.slice a7 k7 c7) (.bool t7) (.slice a8 k8 c8)
                clear cp70 cp71 cp72 cp73 gp70 gp71 gp72 gp73 zp7
                unfold put4 at n3 n4 n5 n6 n7 n8 KT ep7
                generalize (((w7.setCell ⟨p7, 0, none⟩ (.bool s7)).setCell ⟨p7, 1, none⟩ (.slice a7 k7 c7)).setCell ⟨p7, 2, none⟩ (.bool t7)).setCell ⟨p7, 3, none⟩ (.slice a8 k8 c8) = Ws at ep7 n3 n4 n5 n6 n7 n8 KT hHeld ⊢
                refine wpAnyH_done (by kernel_rfl) ?_ _
                go_wp2_with fail
                go_meet
                case rel => exact ⟨p7, s7, a7, k7, c7, t7, a8, k8, c8, rfl, KT, ep7, N7, Q7, n7, n8, HL7.out⟩
              refine AllReadyH.cons rfl (fun K hK => ?_) AllReadyH.nil
              go_simp
              refine hK.out _ _ ⟨(HV.out _ (HK2.out.trans (KT.alloc _))).1.c0, (HV.out _ (HK2.out.trans (KT.alloc _))).1.c1, (HV.out _ (HK2.out.trans (KT.alloc _))).1.c2, (HV.out _ (HK2.out.trans (KT.alloc _))).1.c3, (HV.out _ (HK2.out.trans (KT.alloc _))).2.1.c0, (HV.out _ (HK2.out.trans (KT.alloc _))).2.1.c1⟩ (fun hHeld => ?_)
              clear hK K
              have zp7 := FRow.alloc w5 (.bool false) (.slice none 0 0) (.bool false) (.slice none 0 0)
              have hgp7 : w2.heap.size ≤ w5.heap.size := KT.size
              have n3 := D.NIs.kept n3 ((Kept.refl w5).alloc (.cells #[.bool false, .slice none 0 0, .bool false, .slice none 0 0] 68))
              have n4 := D.NIs.kept n4 ((Kept.refl w5).alloc (.cells #[.bool false, .slice none 0 0, .bool false, .slice none 0 0] 68))
              have n5 := D.NIs.kept n5 ((Kept.refl w5).alloc (.cells #[.bool false, .slice none 0 0, .bool false, .slice none 0 0] 68))
              have KT := KT.alloc (.cells #[.bool false, .slice none 0 0, .bool false, .slice none 0 0] 68)
              obtain ⟨p7, hpp7⟩ : ∃ p, p = w5.heap.size := ⟨_, rfl⟩
              rw [← hpp7] at zp7 hgp7 ⊢
              generalize w5.alloc (.cells #[.bool false, .slice none 0 0, .bool false, .slice none 0 0] 68) = Wa7 at zp7 n3 n4 n5 KT hHeld ⊢
              clear hpp7
              refine wpAnyH_ready (rs := [4]) (by kernel_rfl) (by simp) ?_
              refine AllReadyH.cons rfl (fun K hK => ?_) AllReadyH.nil
              go_simp
              refine (D.small_any 1 _ (by omega)).mono ?_
              rintro e w6 ⟨hk6, a6, k6, c6, l6, rfl, s6, t6, v6, e6⟩
              have n6 : D.NIs w6 false (.slice a6 k6 c6) ((1 : Nat) : Int) := ⟨l6, s6, ⟨s6.bd, t6, fun _ => rfl⟩, by rw [← v6]; simp [D.int]⟩
              have HL6 : Hid (k6 ≤ 1) := by have := s6.len; show _ ≤ _; omega
              clear s6 t6 v6 e6
              refine hK.out _ _ ⟨(HV.out _ (HK2.out.trans (KT.trans hk6))).1.c0, (HV.out _ (HK2.out.trans (KT.trans hk6))).1.c1, (HV.out _ (HK2.out.trans (KT.trans hk6))).1.c2, (HV.out _ (HK2.out.trans (KT.trans hk6))).1.c3, (HV.out _ (HK2.out.trans (KT.trans hk6))).2.1.c0, (HV.out _ (HK2.out.trans (KT.trans hk6))).2.1.c1⟩ (fun hHeld => ?_)
              clear hK K
              have zp7 := zp7.kept hk6
              have n3 := D.NIs.kept n3 hk6
              have n4 := D.NIs.kept n4 hk6
              have n5 := D.NIs.kept n5 hk6
              have KT := KT.trans hk6
              refine wpAnyH_take (i := 5) (v := ?vhx5x4) rfl (by kernel_rfl) (by kernel_rfl) (by kernel_rfl) (fun _ _ _ h => h) (Or.inl ⟨by rfl, ?yhx5x4⟩) hHeld ?rhx5x4
              case yhx5x4 =>
                intro w' hSw
                obtain ⟨hSw0, hSw1, hSw2, hSw3, hSw4, hSw5⟩ := hSw
                go_simp
                with_reducible rfl
              case rhx5x4 =>
              refine wpAnyH_ready (rs := [6]) (by kernel_rfl) (by simp) ?_
              refine AllReadyH.cons rfl (fun K hK => ?_) AllReadyH.nil
              go_simp
              refine (FTimes_any s3 t3 s5 false a3 a4 a5 a6 k3 c3 k4 c4 k5 c5 k6 c6 _ _ _ _ _ n3 n4 n5 n6 (by have h1 := HL3.out; have h2 := HL5.out; have h3 := HQ.out; omega) (by have h1 := HL3.out; have h2 := HL6.out; have h3 := HQ.out; omega) HD0.out (by omega)).mono ?_
              rintro e w7 ⟨hk7, v7, N7, Q7, rfl, ⟨s7, a7, k7, c7, t7, a8, k8, c8, rfl, n7, n8, l7, l8⟩, hL7⟩
              have HL7 : Hid (Low (M.int m a * M.int s b) (M.int n d * ((1 : Nat) : Int)) N7 Q7 ∧ k7 ≤ 900 ∧ k8 ≤ 900) := ⟨hL7, by have h1 := HL3.out; have h2 := HL5.out; have h3 := HQ.out; omega, by have h1 := HL3.out; have h2 := HL6.out; have h3 := HQ.out; omega⟩
              clear l7 l8 hL7
              refine hK.out _ _ ⟨(HV.out _ (HK2.out.trans (KT.trans hk7))).1.c0, (HV.out _ (HK2.out.trans (KT.trans hk7))).1.c1, (HV.out _ (HK2.out.trans (KT.trans hk7))).1.c2, (HV.out _ (HK2.out.trans (KT.trans hk7))).1.c3, (HV.out _ (HK2.out.trans (KT.trans hk7))).2.1.c0, (HV.out _ (HK2.out.trans (KT.trans hk7))).2.1.c1⟩ (fun hHeld => ?_)
              clear hK K
              have zp7 := zp7.kept hk7
              have n3 := D.NIs.kept n3 hk7
              have n4 := D.NIs.kept n4 hk7
              have n5 := D.NIs.kept n5 hk7
              have n6 := D.NIs.kept n6 hk7
              have KT := KT.trans hk7
              have cp70 := zp7.c0
              have cp71 := zp7.c1
              have cp72 := zp7.c2
              have cp73 := zp7.c3
              have gp70 := zp7.fz 0
              have gp71 := zp7.fz 1
              have gp72 := zp7.fz 2
              have gp73 := zp7.fz 3
              refine wpAnyH_ready (rs := [8]) (by kernel_rfl) (by simp) ?_
              refine AllReadyH.cons rfl (fun K hK => ?_) AllReadyH.nil
              go_simp
              refine hK.out _ _ ⟨(HV.out _ (HK2.out.trans (Kept.put4 KT hgp7 _ _ _ _))).1.c0, (HV.out _ (HK2.out.trans (Kept.put4 KT hgp7 _ _ _ _))).1.c1, (HV.out _ (HK2.out.trans (Kept.put4 KT hgp7 _ _ _ _))).1.c2, (HV.out _ (HK2.out.trans (Kept.put4 KT hgp7 _ _ _ _))).1.c3, (HV.out _ (HK2.out.trans (Kept.put4 KT hgp7 _ _ _ _))).2.1.c0, (HV.out _ (HK2.out.trans (Kept.put4 KT hgp7 _ _ _ _))).2.1.c1⟩ (fun hHeld => ?_)
              clear hK K
              have ep7 := zp7.put4 (.bool s7) (.slice a7 k7 c7) (.bool t7) (.slice a8 k8 c8)
              have n3 := nset4 (y0 := .bool s7) (y1 := .slice a7 k7 c7) (y2 := .bool t7) (y3 := .slice a8 k8 c8) n3 zp7
              have n4 := nset4 (y0 := .bool s7) (y1 := .slice a7 k7 c7) (y2 := .bool t7) (y3 := .slice a8 k8 c8) n4 zp7
              have n5 := nset4 (y0 := .bool s7) (y1 := .slice a7 k7 c7) (y2 := .bool t7) (y3 := .slice a8 k8 c8) n5 zp7
              have n6 := nset4 (y0 := .bool s7) (y1 := .slice a7 k7 c7) (y2 := .bool t7) (y3 := .slice a8 k8 c8) n6 zp7
              have n7 := nset4 (y0 := .bool s7) (y1 := .slice a7 k7 c7) (y2 := .bool t7) (y3 := .slice a8 k8 c8) n7 zp7
              have n8 := nset4 (y0 := .bool s7) (y1 := .slice a7 k7 c7) (y2 := .bool t7) (y3 := .slice a8 k8 c8) n8 zp7
              have KT := Kept.put4 KT hgp7 (.bool s7) (.slice a7 k7 c7) (.bool t7) (.slice a8 k8 c8)
              clear cp70 cp71 cp72 cp73 gp70 gp71 gp72 gp73 zp7
              unfold put4 at n3 n4 n5 n6 n7 n8 KT ep7
              generalize (((w7.setCell ⟨p7, 0, none⟩ (.bool s7)).setCell ⟨p7, 1, none⟩ (.slice a7 k7 c7)).setCell ⟨p7, 2, none⟩ (.bool t7)).setCell ⟨p7, 3, none⟩ (.slice a8 k8 c8) = Ws at ep7 n3 n4 n5 n6 n7 n8 KT hHeld ⊢
              refine wpAnyH_done (by kernel_rfl) ?_ _
              go_wp2_with fail
              go_meet
              case rel => exact ⟨p7, s7, a7, k7, c7, t7, a8, k8, c8, rfl, KT, ep7, N7, Q7, n7, n8, HL7.out⟩
            refine AllReadyH.cons rfl (fun K hK => ?_) AllReadyH.nil
            go_simp
            refine hK.out _ _ ⟨(HV.out _ (HK2.out.trans (KT.alloc _))).1.c0, (HV.out _ (HK2.out.trans (KT.alloc _))).1.c1, (HV.out _ (HK2.out.trans (KT.alloc _))).1.c2, (HV.out _ (HK2.out.trans (KT.alloc _))).1.c3, (HV.out _ (HK2.out.trans (KT.alloc _))).2.1.c0, (HV.out _ (HK2.out.trans (KT.alloc _))).2.1.c1⟩ (fun hHeld => ?_)
            clear hK K
            have zp7 := FRow.alloc w3 (.bool false) (.slice none 0 0) (.bool false) (.slice none 0 0)
            have hgp7 : w2.heap.size ≤ w3.heap.size := KT.size
            have n3 := D.NIs.kept n3 ((Kept.refl w3).alloc (.cells #[.bool false, .slice none 0 0, .bool false, .slice none 0 0] 68))
            have n4 := D.NIs.kept n4 ((Kept.refl w3).alloc (.cells #[.bool false, .slice none 0 0, .bool false, .slice none 0 0] 68))
            have KT := KT.alloc (.cells #[.bool false, .slice none 0 0, .bool false, .slice none 0 0] 68)
            obtain ⟨p7, hpp7⟩ : ∃ p, p = w3.heap.size := ⟨_, rfl⟩
            rw [← hpp7] at zp7 hgp7 ⊢
            generalize w3.alloc (.cells #[.bool false, .slice none 0 0, .bool false, .slice none 0 0] 68) = Wa7 at zp7 n3 n4 KT hHeld ⊢
            clear hpp7
            refine wpAnyH_ready (rs := [3]) (by kernel_rfl) (by simp) ?_
            refine AllReadyH.cons rfl (fun K hK => ?_) AllReadyH.nil
            go_simp
            refine (D.Take_any s ab kb cb b _ (HA.out.2.2.1.kept (HV.out _ (HK2.out.trans KT)).2.2.2) (by have := HQ.out; omega)).mono ?_
            rintro e w5 ⟨hk5, s5, a5, k5, c5, rfl, n5, l5⟩
            have HL5 := hid' l5
            clear l5
            refine hK.out _ _ ⟨(HV.out _ (HK2.out.trans (KT.trans hk5))).1.c0, (HV.out _ (HK2.out.trans (KT.trans hk5))).1.c1, (HV.out _ (HK2.out.trans (KT.trans hk5))).1.c2, (HV.out _ (HK2.out.trans (KT.trans hk5))).1.c3, (HV.out _ (HK2.out.trans (KT.trans hk5))).2.1.c0, (HV.out _ (HK2.out.trans (KT.trans hk5))).2.1.c1⟩ (fun hHeld => ?_)
            clear hK K
            have zp7 := zp7.kept hk5
            have n3 := D.NIs.kept n3 hk5
            have n4 := D.NIs.kept n4 hk5
            have KT := KT.trans hk5
            refine wpAnyH_ready (rs := [4]) (by kernel_rfl) (by simp) ?_
            refine AllReadyH.cons rfl (fun K hK => ?_) AllReadyH.nil
            go_simp
            refine (D.small_any 1 _ (by omega)).mono ?_
            rintro e w6 ⟨hk6, a6, k6, c6, l6, rfl, s6, t6, v6, e6⟩
            have n6 : D.NIs w6 false (.slice a6 k6 c6) ((1 : Nat) : Int) := ⟨l6, s6, ⟨s6.bd, t6, fun _ => rfl⟩, by rw [← v6]; simp [D.int]⟩
            have HL6 : Hid (k6 ≤ 1) := by have := s6.len; show _ ≤ _; omega
            clear s6 t6 v6 e6
            refine hK.out _ _ ⟨(HV.out _ (HK2.out.trans (KT.trans hk6))).1.c0, (HV.out _ (HK2.out.trans (KT.trans hk6))).1.c1, (HV.out _ (HK2.out.trans (KT.trans hk6))).1.c2, (HV.out _ (HK2.out.trans (KT.trans hk6))).1.c3, (HV.out _ (HK2.out.trans (KT.trans hk6))).2.1.c0, (HV.out _ (HK2.out.trans (KT.trans hk6))).2.1.c1⟩ (fun hHeld => ?_)
            clear hK K
            have zp7 := zp7.kept hk6
            have n3 := D.NIs.kept n3 hk6
            have n4 := D.NIs.kept n4 hk6
            have n5 := D.NIs.kept n5 hk6
            have KT := KT.trans hk6
            refine wpAnyH_take (i := 5) (v := ?vhx5x5) rfl (by kernel_rfl) (by kernel_rfl) (by kernel_rfl) (fun _ _ _ h => h) (Or.inl ⟨by rfl, ?yhx5x5⟩) hHeld ?rhx5x5
            case yhx5x5 =>
              intro w' hSw
              obtain ⟨hSw0, hSw1, hSw2, hSw3, hSw4, hSw5⟩ := hSw
              go_simp
              with_reducible rfl
            case rhx5x5 =>
            refine wpAnyH_ready (rs := [6]) (by kernel_rfl) (by simp) ?_
            refine AllReadyH.cons rfl (fun K hK => ?_) AllReadyH.nil
            go_simp
            refine (FTimes_any s3 t3 s5 false a3 a4 a5 a6 k3 c3 k4 c4 k5 c5 k6 c6 _ _ _ _ _ n3 n4 n5 n6 (by have h1 := HL3.out; have h2 := HL5.out; have h3 := HQ.out; omega) (by have h1 := HL3.out; have h2 := HL6.out; have h3 := HQ.out; omega) HD0.out (by omega)).mono ?_
            rintro e w7 ⟨hk7, v7, N7, Q7, rfl, ⟨s7, a7, k7, c7, t7, a8, k8, c8, rfl, n7, n8, l7, l8⟩, hL7⟩
            have HL7 : Hid (Low (M.int m a * M.int s b) (M.int n d * ((1 : Nat) : Int)) N7 Q7 ∧ k7 ≤ 900 ∧ k8 ≤ 900) := ⟨hL7, by have h1 := HL3.out; have h2 := HL5.out; have h3 := HQ.out; omega, by have h1 := HL3.out; have h2 := HL6.out; have h3 := HQ.out; omega⟩
            clear l7 l8 hL7
            refine hK.out _ _ ⟨(HV.out _ (HK2.out.trans (KT.trans hk7))).1.c0, (HV.out _ (HK2.out.trans (KT.trans hk7))).1.c1, (HV.out _ (HK2.out.trans (KT.trans hk7))).1.c2, (HV.out _ (HK2.out.trans (KT.trans hk7))).1.c3, (HV.out _ (HK2.out.trans (KT.trans hk7))).2.1.c0, (HV.out _ (HK2.out.trans (KT.trans hk7))).2.1.c1⟩ (fun hHeld => ?_)
            clear hK K
            have zp7 := zp7.kept hk7
            have n3 := D.NIs.kept n3 hk7
            have n4 := D.NIs.kept n4 hk7
            have n5 := D.NIs.kept n5 hk7
            have n6 := D.NIs.kept n6 hk7
            have KT := KT.trans hk7
            have cp70 := zp7.c0
            have cp71 := zp7.c1
            have cp72 := zp7.c2
            have cp73 := zp7.c3
            have gp70 := zp7.fz 0
            have gp71 := zp7.fz 1
            have gp72 := zp7.fz 2
            have gp73 := zp7.fz 3
            refine wpAnyH_ready (rs := [8]) (by kernel_rfl) (by simp) ?_
            refine AllReadyH.cons rfl (fun K hK => ?_) AllReadyH.nil
            go_simp
            refine hK.out _ _ ⟨(HV.out _ (HK2.out.trans (Kept.put4 KT hgp7 _ _ _ _))).1.c0, (HV.out _ (HK2.out.trans (Kept.put4 KT hgp7 _ _ _ _))).1.c1, (HV.out _ (HK2.out.trans (Kept.put4 KT hgp7 _ _ _ _))).1.c2, (HV.out _ (HK2.out.trans (Kept.put4 KT hgp7 _ _ _ _))).1.c3, (HV.out _ (HK2.out.trans (Kept.put4 KT hgp7 _ _ _ _))).2.1.c0, (HV.out _ (HK2.out.trans (Kept.put4 KT hgp7 _ _ _ _))).2.1.c1⟩ (fun hHeld => ?_)
            clear hK K
            have ep7 := zp7.put4 (.bool s7) (.slice a7 k7 c7) (.bool t7) (.slice a8 k8 c8)
            have n3 := nset4 (y0 := .bool s7) (y1 := .slice a7 k7 c7) (y2 := .bool t7) (y3 := .slice a8 k8 c8) n3 zp7
            have n4 := nset4 (y0 := .bool s7) (y1 := .slice a7 k7 c7) (y2 := .bool t7) (y3 := .slice a8 k8 c8) n4 zp7
            have n5 := nset4 (y0 := .bool s7) (y1 := .slice a7 k7 c7) (y2 := .bool t7) (y3 := .slice a8 k8 c8) n5 zp7
            have n6 := nset4 (y0 := .bool s7) (y1 := .slice a7 k7 c7) (y2 := .bool t7) (y3 := .slice a8 k8 c8) n6 zp7
            have n7 := nset4 (y0 := .bool s7) (y1 := .slice a7 k7 c7) (y2 := .bool t7) (y3 := .slice a8 k8 c8) n7 zp7
            have n8 := nset4 (y0 := .bool s7) (y1 := .slice a7 k7 c7) (y2 := .bool t7) (y3 := .slice a8 k8 c8) n8 zp7
            have KT := Kept.put4 KT hgp7 (.bool s7) (.slice a7 k7 c7) (.bool t7) (.slice a8 k8 c8)
            clear cp70 cp71 cp72 cp73 gp70 gp71 gp72 gp73 zp7
            unfold put4 at n3 n4 n5 n6 n7 n8 KT ep7
            generalize (((w7.setCell ⟨p7, 0, none⟩ (.bool s7)).setCell ⟨p7, 1, none⟩ (.slice a7 k7 c7)).setCell ⟨p7, 2, none⟩ (.bool t7)).setCell ⟨p7, 3, none⟩ (.slice a8 k8 c8) = Ws at ep7 n3 n4 n5 n6 n7 n8 KT hHeld ⊢
            refine wpAnyH_done (by kernel_rfl) ?_ _
            go_wp2_with fail
            go_meet
            case rel => exact ⟨p7, s7, a7, k7, c7, t7, a8, k8, c8, rfl, KT, ep7, N7, Q7, n7, n8, HL7.out⟩
          refine AllReadyH.cons rfl (fun K hK => ?_) AllReadyH.nil
          go_simp
          refine hK.out _ _ ⟨(HV.out _ (HK2.out.trans (KT.alloc _))).1.c0, (HV.out _ (HK2.out.trans (KT.alloc _))).1.c1, (HV.out _ (HK2.out.trans (KT.alloc _))).1.c2, (HV.out _ (HK2.out.trans (KT.alloc _))).1.c3, (HV.out _ (HK2.out.trans (KT.alloc _))).2.1.c0, (HV.out _ (HK2.out.trans (KT.alloc _))).2.1.c1⟩ (fun hHeld => ?_)
          clear hK K
          have zp7 := FRow.alloc Wd (.bool false) (.slice none 0 0) (.bool false) (.slice none 0 0)
          have hgp7 : w2.heap.size ≤ Wd.heap.size := KT.size
          have KT := KT.alloc (.cells #[.bool false, .slice none 0 0, .bool false, .slice none 0 0] 68)
          obtain ⟨p7, hpp7⟩ : ∃ p, p = Wd.heap.size := ⟨_, rfl⟩
          rw [← hpp7] at zp7 hgp7 ⊢
          generalize Wd.alloc (.cells #[.bool false, .slice none 0 0, .bool false, .slice none 0 0] 68) = Wa7 at zp7  KT hHeld ⊢
          clear hpp7
          refine wpAnyH_ready (rs := [1]) (by kernel_rfl) (by simp) ?_
          refine AllReadyH.cons rfl (fun K hK => ?_) AllReadyH.nil
          go_simp
          refine (FTake_any m n a1 a2 k1 c1 k2 c2 a d _ (HA.out.1.kept (HV.out _ (HK2.out.trans KT)).2.2.2) (HA.out.2.1.kept (HV.out _ (HK2.out.trans KT)).2.2.2) (by have := HQ.out; omega) (by have := HQ.out; omega)).mono ?_
          rintro e w3 ⟨hk3, v3, rfl, s3, a3, k3, c3, t3, a4, k4, c4, rfl, n3, n4, l3, l4⟩
          have HL3 := hid' (And.intro l3 l4)
          clear l3 l4
          refine hK.out _ _ ⟨(HV.out _ (HK2.out.trans (KT.trans hk3))).1.c0, (HV.out _ (HK2.out.trans (KT.trans hk3))).1.c1, (HV.out _ (HK2.out.trans (KT.trans hk3))).1.c2, (HV.out _ (HK2.out.trans (KT.trans hk3))).1.c3, (HV.out _ (HK2.out.trans (KT.trans hk3))).2.1.c0, (HV.out _ (HK2.out.trans (KT.trans hk3))).2.1.c1⟩ (fun hHeld => ?_)
          clear hK K
          have zp7 := zp7.kept hk3
          have KT := KT.trans hk3
          refine wpAnyH_ready (rs := [3]) (by kernel_rfl) (by simp) ?_
          refine AllReadyH.cons rfl (fun K hK => ?_) AllReadyH.nil
          go_simp
          refine (D.Take_any s ab kb cb b _ (HA.out.2.2.1.kept (HV.out _ (HK2.out.trans KT)).2.2.2) (by have := HQ.out; omega)).mono ?_
          rintro e w5 ⟨hk5, s5, a5, k5, c5, rfl, n5, l5⟩
          have HL5 := hid' l5
          clear l5
          refine hK.out _ _ ⟨(HV.out _ (HK2.out.trans (KT.trans hk5))).1.c0, (HV.out _ (HK2.out.trans (KT.trans hk5))).1.c1, (HV.out _ (HK2.out.trans (KT.trans hk5))).1.c2, (HV.out _ (HK2.out.trans (KT.trans hk5))).1.c3, (HV.out _ (HK2.out.trans (KT.trans hk5))).2.1.c0, (HV.out _ (HK2.out.trans (KT.trans hk5))).2.1.c1⟩ (fun hHeld => ?_)
          clear hK K
          have zp7 := zp7.kept hk5
          have n3 := D.NIs.kept n3 hk5
          have n4 := D.NIs.kept n4 hk5
          have KT := KT.trans hk5
          refine wpAnyH_ready (rs := [4]) (by kernel_rfl) (by simp) ?_
          refine AllReadyH.cons rfl (fun K hK => ?_) AllReadyH.nil
          go_simp
          refine (D.small_any 1 _ (by omega)).mono ?_
          rintro e w6 ⟨hk6, a6, k6, c6, l6, rfl, s6, t6, v6, e6⟩
          have n6 : D.NIs w6 false (.slice a6 k6 c6) ((1 : Nat) : Int) := ⟨l6, s6, ⟨s6.bd, t6, fun _ => rfl⟩, by rw [← v6]; simp [D.int]⟩
          have HL6 : Hid (k6 ≤ 1) := by have := s6.len; show _ ≤ _; omega
          clear s6 t6 v6 e6
          refine hK.out _ _ ⟨(HV.out _ (HK2.out.trans (KT.trans hk6))).1.c0, (HV.out _ (HK2.out.trans (KT.trans hk6))).1.c1, (HV.out _ (HK2.out.trans (KT.trans hk6))).1.c2, (HV.out _ (HK2.out.trans (KT.trans hk6))).1.c3, (HV.out _ (HK2.out.trans (KT.trans hk6))).2.1.c0, (HV.out _ (HK2.out.trans (KT.trans hk6))).2.1.c1⟩ (fun hHeld => ?_)
          clear hK K
          have zp7 := zp7.kept hk6
          have n3 := D.NIs.kept n3 hk6
          have n4 := D.NIs.kept n4 hk6
          have n5 := D.NIs.kept n5 hk6
          have KT := KT.trans hk6
          refine wpAnyH_take (i := 5) (v := ?vhx5x6) rfl (by kernel_rfl) (by kernel_rfl) (by kernel_rfl) (fun _ _ _ h => h) (Or.inl ⟨by rfl, ?yhx5x6⟩) hHeld ?rhx5x6
          case yhx5x6 =>
            intro w' hSw
            obtain ⟨hSw0, hSw1, hSw2, hSw3, hSw4, hSw5⟩ := hSw
            go_simp
            with_reducible rfl
          case rhx5x6 =>
          refine wpAnyH_ready (rs := [6]) (by kernel_rfl) (by simp) ?_
          refine AllReadyH.cons rfl (fun K hK => ?_) AllReadyH.nil
          go_simp
          refine (FTimes_any s3 t3 s5 false a3 a4 a5 a6 k3 c3 k4 c4 k5 c5 k6 c6 _ _ _ _ _ n3 n4 n5 n6 (by have h1 := HL3.out; have h2 := HL5.out; have h3 := HQ.out; omega) (by have h1 := HL3.out; have h2 := HL6.out; have h3 := HQ.out; omega) HD0.out (by omega)).mono ?_
          rintro e w7 ⟨hk7, v7, N7, Q7, rfl, ⟨s7, a7, k7, c7, t7, a8, k8, c8, rfl, n7, n8, l7, l8⟩, hL7⟩
          have HL7 : Hid (Low (M.int m a * M.int s b) (M.int n d * ((1 : Nat) : Int)) N7 Q7 ∧ k7 ≤ 900 ∧ k8 ≤ 900) := ⟨hL7, by have h1 := HL3.out; have h2 := HL5.out; have h3 := HQ.out; omega, by have h1 := HL3.out; have h2 := HL6.out; have h3 := HQ.out; omega⟩
          clear l7 l8 hL7
          refine hK.out _ _ ⟨(HV.out _ (HK2.out.trans (KT.trans hk7))).1.c0, (HV.out _ (HK2.out.trans (KT.trans hk7))).1.c1, (HV.out _ (HK2.out.trans (KT.trans hk7))).1.c2, (HV.out _ (HK2.out.trans (KT.trans hk7))).1.c3, (HV.out _ (HK2.out.trans (KT.trans hk7))).2.1.c0, (HV.out _ (HK2.out.trans (KT.trans hk7))).2.1.c1⟩ (fun hHeld => ?_)
          clear hK K
          have zp7 := zp7.kept hk7
          have n3 := D.NIs.kept n3 hk7
          have n4 := D.NIs.kept n4 hk7
          have n5 := D.NIs.kept n5 hk7
          have n6 := D.NIs.kept n6 hk7
          have KT := KT.trans hk7
          have cp70 := zp7.c0
          have cp71 := zp7.c1
          have cp72 := zp7.c2
          have cp73 := zp7.c3
          have gp70 := zp7.fz 0
          have gp71 := zp7.fz 1
          have gp72 := zp7.fz 2
          have gp73 := zp7.fz 3
          refine wpAnyH_ready (rs := [8]) (by kernel_rfl) (by simp) ?_
          refine AllReadyH.cons rfl (fun K hK => ?_) AllReadyH.nil
          go_simp
          refine hK.out _ _ ⟨(HV.out _ (HK2.out.trans (Kept.put4 KT hgp7 _ _ _ _))).1.c0, (HV.out _ (HK2.out.trans (Kept.put4 KT hgp7 _ _ _ _))).1.c1, (HV.out _ (HK2.out.trans (Kept.put4 KT hgp7 _ _ _ _))).1.c2, (HV.out _ (HK2.out.trans (Kept.put4 KT hgp7 _ _ _ _))).1.c3, (HV.out _ (HK2.out.trans (Kept.put4 KT hgp7 _ _ _ _))).2.1.c0, (HV.out _ (HK2.out.trans (Kept.put4 KT hgp7 _ _ _ _))).2.1.c1⟩ (fun hHeld => ?_)
          clear hK K
          have ep7 := zp7.put4 (.bool s7) (.slice a7 k7 c7) (.bool t7) (.slice a8 k8 c8)
          have n3 := nset4 (y0 := .bool s7) (y1 := .slice a7 k7 c7) (y2 := .bool t7) (y3 := .slice a8 k8 c8) n3 zp7
          have n4 := nset4 (y0 := .bool s7) (y1 := .slice a7 k7 c7) (y2 := .bool t7) (y3 := .slice a8 k8 c8) n4 zp7
          have n5 := nset4 (y0 := .bool s7) (y1 := .slice a7 k7 c7) (y2 := .bool t7) (y3 := .slice a8 k8 c8) n5 zp7
          have n6 := nset4 (y0 := .bool s7) (y1 := .slice a7 k7 c7) (y2 := .bool t7) (y3 := .slice a8 k8 c8) n6 zp7
          have n7 := nset4 (y0 := .bool s7) (y1 := .slice a7 k7 c7) (y2 := .bool t7) (y3 := .slice a8 k8 c8) n7 zp7
          have n8 := nset4 (y0 := .bool s7) (y1 := .slice a7 k7 c7) (y2 := .bool t7) (y3 := .slice a8 k8 c8) n8 zp7
          have KT := Kept.put4 KT hgp7 (.bool s7) (.slice a7 k7 c7) (.bool t7) (.slice a8 k8 c8)
          clear cp70 cp71 cp72 cp73 gp70 gp71 gp72 gp73 zp7
          unfold put4 at n3 n4 n5 n6 n7 n8 KT ep7
          generalize (((w7.setCell ⟨p7, 0, none⟩ (.bool s7)).setCell ⟨p7, 1, none⟩ (.slice a7 k7 c7)).setCell ⟨p7, 2, none⟩ (.bool t7)).setCell ⟨p7, 3, none⟩ (.slice a8 k8 c8) = Ws at ep7 n3 n4 n5 n6 n7 n8 KT hHeld ⊢
          refine wpAnyH_done (by kernel_rfl) ?_ _
          go_wp2_with fail
          go_meet
          case rel => exact ⟨p7, s7, a7, k7, c7, t7, a8, k8, c8, rfl, KT, ep7, N7, Q7, n7, n8, HL7.out⟩

        case rest =>
          obtain ⟨p7, s7, a7, k7, c7, t7, a8, k8, c8, rfl, HC⟩ := hcut
          obtain ⟨hkc, hFR, N, Q, n7, n8, hL, l7, l8⟩ := HC.out
          have HKc := hid' (HK2.out.trans hkc)
          have HFR := hid' hFR
          have HN := hid' (And.intro n7 (And.intro n8 (And.intro l7 l8)))
          have HL : Hid (Low (M.int m a * M.int s b) ((M.val d : Nat) * ((1 : Nat) : Int)) N Q) := by show Low _ _ _ _; rw [← HR.out.val]; exact hL
          have q0 := hFR.c2
          have q1 := hFR.c3
          clear HC hkc hFR n7 n8 hL l7 l8
          go_wp2_with fail
          go_region_held3 (fun w' => w'.cell? ⟨p7, 2, none⟩ = some (.bool t7) ∧ w'.cell? ⟨p7, 3, none⟩ = some (.slice a8 k8 c8)) (go_keep) (first
            | (go_at_call 59; refine (D.small_any 1 _ (by omega)).mono ?_; rintro e w4 ⟨hk4, a4, k4, c4, l4, rfl, s4, t4, v4, e4⟩; have K4 := (Kept.refl wc).drew.trans hk4; have H4 : Hid (D.NIs w4 false (.slice a4 k4 c4) ((1 : Nat) : Int) ∧ k4 ≤ 1) := ⟨⟨l4, s4, ⟨s4.bd, t4, fun _ => rfl⟩, by rw [← v4]; simp [D.int]⟩, by have := s4.len; omega⟩; clear s4 t4 v4 e4; have d0 := (HFR.out.kept K4).c2; have d1 := (HFR.out.kept K4).c3)
            | (go_at_call 60; refine (D.Held_any t7 false a8 a4 k8 k4 c8 c4 Q _ _ (HN.out.2.1.kept K4) H4.out.1 (by have := HN.out; omega) (by have := H4.out.2; omega)).mono ?_; rintro e w5 ⟨rfl, hk5⟩; have K5 := K4.trans hk5; have g0 := (HFR.out.kept K5).c2; have g1 := (HFR.out.kept K5).c3))
          have HK5 := hid' (HKc.out.trans K5)
          have HFR := hid' (HFR.out.kept K5)
          have HN := hid' (And.intro (HN.out.1.kept K5) HN.out.2)
          clear q0 q1 d0 d1 g0 g1 hk4 hk5 K4 K5
          by_cases hQ1 : Q = 1
          · rw [show isgn Q 1 = 0 by rw [hQ1]; rfl]
            have HY := hid' (whole_yes HL.out hQ1 (by rw [M.natAbs_int]; exact HR.out.low))
            clear hQ1
            have q0 := HFR.out.c0
            have q1 := HFR.out.c1
            go_wp2_with fail
            refine (D.Length_any s7 a7 k7 c7 _ (by have := HN.out; omega)).mono ?_
            rintro e w6 ⟨hk6, rfl⟩
            have HK6 := hid' (HK5.out.trans hk6)
            have HFR := hid' (HFR.out.kept hk6)
            have HN := hid' (And.intro (HN.out.1.kept hk6) HN.out.2)
            clear hk6 q0 q1
            have HDV : Hid (M.val d ∣ M.val b) := by have h := HY.out.1; rw [M.natAbs_int] at h; exact h
            by_cases h72 : 72 < (k7 + 1) / 2
            · have h72' : (72 : Int) < (((k7 + 1) / 2 : Nat) : Int) := by omega
              have HW := hid' (nis_wide HN.out.1 h72)
              generalize (((k7 + 1) / 2 : Nat) : Int) = q at *
              clear h72
              have z := (HV.out _ HK6.out).2.2.1
              have y0 := z.c0
              have y1 := z.c1
              have y2 := z.fz 0
              have y3 := z.fz 1
              clear z
              go_wp2
              exact bodyPost_ret (v := .tuple #[.agg #[.bool false, .slice none 0 0], .int .i64 13]) (by simp [results, Tryz.results22, go_sem, y0, y1]) rfl ⟨((HV.out _ HK6.out).2.2.2.setCell (p := ⟨p4, 0, none⟩) HP.out _).setCell (p := ⟨p4, 1, none⟩) HP.out _, false, none, 0, 0, 13, rfl, .inr ⟨HRB.out, HR.out, HDV.out, N, HY.out.2, .inr ⟨rfl, rfl, rfl, HW.out⟩⟩⟩
            · have h72' : ¬ (72 : Int) < (((k7 + 1) / 2 : Nat) : Int) := by omega
              have H72 : Hid ((k7 + 1) / 2 ≤ 72) := by show _ ≤ _; omega
              generalize (((k7 + 1) / 2 : Nat) : Int) = q at *
              obtain ⟨l7, sl7, rt7, it7, rfl⟩ := HN.out.1.len
              have HN7 := hid' (And.intro sl7 (And.intro rt7 it7))
              have q0 := HFR.out.c0
              have q1 := HFR.out.c1
              clear h72 sl7 rt7 it7
              go_wp2_with fail
              refine (D.Give_any s7 a7 c7 l7 _ HN7.out.1 HN7.out.2.1.tr (by have := HN.out; omega)).mono ?_
              rintro e w8 ⟨hk8, ag, kg, cg, lg, rfl, ng, tg, vg, eg⟩
              have HK8 := hid' (HK6.out.trans hk8)
              have HG : Hid (Fin w.heap.size w8 s7 (.slice ag kg cg) 0 N) := .inl ⟨rfl, lg, ng.mono (HV.out _ HK6.out).2.2.2.size, ⟨ng.sl.bd, tg, by rw [eg]; exact H72.out, give_zero HN7.out.2.1 eg⟩, by rw [give_int vg]; exact HN7.out.2.2⟩
              have z := (HV.out _ HK8.out).2.2.1
              have HZ := hid' z
              have y0 := z.c0
              have y1 := z.c1
              have y2 := z.fz 0
              have y3 := z.fz 1
              clear hk8 ng tg vg eg z q0 q1
              go_wp2
              exact bodyPost_ret (v := .tuple #[.agg #[.bool s7, .slice ag kg cg], .int .i64 0]) (by simp [results, Tryz.results22, go_sem, y0, y1]) rfl ⟨((HV.out _ HK8.out).2.2.2.setCell (p := ⟨p4, 0, none⟩) HP.out _).setCell (p := ⟨p4, 1, none⟩) HP.out _, s7, ag, kg, cg, 0, rfl, .inr ⟨HRB.out, HR.out, HDV.out, N, HY.out.2, Fin.box HG.out HZ.out _ _⟩⟩
          · have HNO : Hid (¬ M.val d ∣ M.val b) := by have h := whole_no HL.out HR.out.vpos hQ1; rw [M.natAbs_int] at h; exact h
            have hi : (isgn Q 1 == 0) = false := by
              unfold isgn
              by_cases h : Q < 1
              · rw [if_pos h]; rfl
              · rw [if_neg h, if_neg hQ1]; rfl
            generalize isgn Q 1 = q at *
            clear hQ1
            have z := (HV.out _ HK5.out).2.2.1
            have y0 := z.c0
            have y1 := z.c1
            have y2 := z.fz 0
            have y3 := z.fz 1
            clear z
            go_wp2
            exact bodyPost_ret (v := .tuple #[.agg #[.bool false, .slice none 0 0], .int .i64 12]) (by simp [results, Tryz.results22, go_sem, y0, y1]) rfl ⟨((HV.out _ HK5.out).2.2.2.setCell (p := ⟨p4, 0, none⟩) HP.out _).setCell (p := ⟨p4, 1, none⟩) HP.out _, false, none, 0, 0, 12, rfl, .inl ⟨by decide, rfl, rfl, .inr (.inr ⟨HRB.out, HR.out, HNO.out, rfl⟩)⟩⟩
      · have hcc : ((c : Int) == 0) = false := by simpa using hc0
        have H0 := hid' hc0
        clear hc0
        have z := (HV.out _ HK2.out).2.2.1
        have y0 := z.c0
        have y1 := z.c1
        have y2 := z.fz 0
        have y3 := z.fz 1
        clear z
        go_wp2
        exact bodyPost_ret (v := .tuple #[.agg #[.bool false, .slice none 0 0], .int .i64 c]) (by simp [results, Tryz.results22, go_sem, y0, y1]) rfl ⟨((HV.out _ HK2.out).2.2.2.setCell (p := ⟨p4, 0, none⟩) HP.out _).setCell (p := ⟨p4, 1, none⟩) HP.out _, false, none, 0, 0, c, rfl, .inl ⟨H0.out, rfl, rfl, .inr (.inl ⟨HRB.out, HF.out⟩)⟩⟩
    · have HRB := hid' hrb
      clear h10
      go_wp2_with fail
      refine (right_no s _ b _ (HA.out.2.2.1.kept (HV.out _ HK1.out).2.2.2) HA.out.2.2.2.2.2 hrb).mono ?_
      rintro e w2 ⟨rfl, hk2⟩
      have HK2 := hid' (HK1.out.trans hk2)
      clear hk2 q4 q5 hrb
      have z := (HV.out _ HK2.out).2.2.1
      have y0 := z.c0
      have y1 := z.c1
      have y2 := z.fz 0
      have y3 := z.fz 1
      clear z
      go_wp2
      exact bodyPost_ret (v := .tuple #[.agg #[.bool false, .slice none 0 0], .int .i64 10]) (by simp [results, Tryz.results22, go_sem, y0, y1]) rfl ⟨((HV.out _ HK2.out).2.2.2.setCell (p := ⟨p4, 0, none⟩) HP.out _).setCell (p := ⟨p4, 1, none⟩) HP.out _, false, none, 0, 0, 10, rfl, .inl ⟨by decide, rfl, rfl, .inl ⟨HRB.out, rfl⟩⟩⟩

end F
end Go.Proofs.YtcigcfcciggclaaGreat
