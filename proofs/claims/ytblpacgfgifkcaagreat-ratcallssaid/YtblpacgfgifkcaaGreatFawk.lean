/- shuntlaw02.awake: it answers true. -/
import Derived.Test.YtblpacgfgifkcaaGreatGar
import Derived.Test.YtblpacgfgifkcaaGreatFround
import Derived.Test.YtblpacgfgifkcaaGreatGao
namespace Go.Proofs.YtblpacgfgifkcaaGreat
open Go.RowKit
namespace F
theorem five_six {N : Int} {D : Nat} (h : IsSum 1 2 1 3 N D) : N = 5 ∧ D = 6 := by
 have e := h.eq
 have hp := h.pos
 have e6 : N * 6 = 5 * D := by have : ((2 : Nat) : Int) * ((3 : Nat) : Int) = 6 := rfl; rw [this] at e; rw [e]; rfl
 have hN : 0 < N := by omega
 obtain ⟨k, rfl⟩ := Int.eq_ofNat_of_zero_le (Int.le_of_lt hN)
 have e7 : k * 6 = 5 * D := by omega
 have hc : Nat.Coprime k D := by have := h.low; rwa [Int.natAbs_natCast] at this
 have hd : k ∣ 5 := hc.dvd_of_dvd_mul_right (by rw [← e7]; exact Nat.dvd_mul_right _ _)
 have hl := Nat.le_of_dvd (by omega) hd
 omega
theorem small_W {x : Nat} (h : x < 4294967296) : x < M.W72 := by
 have h1 := M.lt_W72 (l := [x]) (fun y hy => by simp at hy; omega) (by simp)
 simpa [M.val] using h1
theorem one_limb {s : Bool} {l : List Nat} {x : Nat} (h : M.Right s l) (hv : M.int s l = (x : Int)) (h0 : 0 < x) (hx : x < 4294967296) : s = false ∧ l = [x] :=
 M.int_inj h (b := [x]) (n := false) ⟨fun y hy => by simp at hy; omega, .inr (by simp; omega), by simp, fun e => by simp at e⟩ (by rw [hv]; simp [M.int, M.val])
theorem Sl.one {w : World} {ao : Option Addr} {k c x : Nat} (h : Sl w (.slice ao k c) [x]) : k = 1 ∧ 1 ≤ c ∧ ∃ b off, ao = some ⟨b, off, none⟩ ∧ w.cell? ⟨b, off, none⟩ = some (.int .u32 (x : Int)) := by
 obtain ⟨_, ao', cap, hv, hx⟩ := h
 simp only [Value.slice.injEq] at hv
 obtain ⟨rfl, rfl, rfl⟩ := hv
 obtain ⟨h1, b, off, rfl, _, hc⟩ := hx (by simp)
 exact ⟨by simp, by simpa using h1, b, off, rfl, by simpa using hc 0 (by simp)⟩
set_option maxHeartbeats 4000000 in
theorem awake_yes (w : World) : Calls Tryz.prog 5 #[] w fun e w' => e = .returned (.bool true) ∧ Kept w w' := by
 go_enter Tryz.func5, Tryz.ntmps5
 go_wp2_with fail
 refine (of_ok 1 2 _ (by omega) (by omega) (by omega) (by omega) (by omega)).mono ?_
 rintro e w1 ⟨hk1, v1, X1, Y1, rfl, ⟨s1, ao1, k1, c1, l1, t1, ap1, k1', c1', l1', rfl, n1, r1, i1, n1', r1', i1', R1⟩, g1, hg1, hx1, hy1, hs1⟩
 have eg1 : g1 = 1 := by rw [show Nat.gcd (1 : Int).natAbs (2 : Int).natAbs = 1 by decide] at hg1; omega
 subst eg1
 have e1 : M.int s1 l1 = 1 := by omega
 have e1' : M.int t1 l1' = 2 := by omega
 have H1 : Hid (Kept w w1 ∧ Sl w1 (.slice ao1 k1 c1) l1 ∧ Sl w1 (.slice ap1 k1' c1') l1' ∧ RatR s1 t1 l1 l1' ∧ M.int s1 l1 = 1 ∧ M.val l1' = 2) := ⟨hk1, n1.sl, n1'.sl, R1, e1, by have := R1.val; omega⟩
 clear hk1 n1 r1 i1 n1' r1' i1' R1 hg1 hx1 hy1 hs1 e1 e1'
 go_wp2_with fail
 refine (of_ok 2 6 _ (by omega) (by omega) (by omega) (by omega) (by omega)).mono ?_
 rintro e w2 ⟨hk2, v2, X2, Y2, rfl, ⟨s2, ao2, k2, c2, l2, t2, ap2, k2', c2', l2', rfl, n2, r2, i2, n2', r2', i2', R2⟩, g2, hg2, hx2, hy2, hs2⟩
 have eg2 : g2 = 2 := by rw [show Nat.gcd (2 : Int).natAbs (6 : Int).natAbs = 2 by decide] at hg2; omega
 subst eg2
 have e2 : M.int s2 l2 = 1 := by omega
 have e2' : M.int t2 l2' = 3 := by omega
 have H2 : Hid (Kept w w2 ∧ (Sl w2 (.slice ao1 k1 c1) l1 ∧ Sl w2 (.slice ap1 k1' c1') l1') ∧ Sl w2 (.slice ao2 k2 c2) l2 ∧ Sl w2 (.slice ap2 k2' c2') l2' ∧ RatR s2 t2 l2 l2' ∧ M.int s2 l2 = 1 ∧ M.val l2' = 3) := ⟨H1.out.1.trans hk2, ⟨H1.out.2.1.kept hk2, H1.out.2.2.1.kept hk2⟩, n2.sl, n2'.sl, R2, e2, by have := R2.val; omega⟩
 clear hk2 n2 r2 i2 n2' r2' i2' R2 hg2 hx2 hy2 hs2 e2 e2'
 go_wp2_with fail
 refine (Add_ok s1 t1 s2 t2 ao1 ap1 ao2 ap2 k1 c1 k1' c1' k2 c2 k2' c2' l1 l1' l2 l2' _ H2.out.2.1.1 H2.out.2.1.2 H2.out.2.2.1 H2.out.2.2.2.1 H1.out.2.2.2.1 H2.out.2.2.2.2.1).mono ?_
 rintro e w3 ⟨hk3, N, D, hS, hR⟩
 rw [H1.out.2.2.2.2.1, H1.out.2.2.2.2.2, H2.out.2.2.2.2.2.1, H2.out.2.2.2.2.2.2] at hS
 obtain ⟨rfl, rfl⟩ := five_six hS
 obtain ⟨v3, rfl, s3, ao3, k3, c3, l3, t3, ap3, k3', c3', l3', rfl, n3, r3, i3, n3', r3', i3'⟩ := hR.resolve_right (fun h => h.2 ⟨small_W (by decide), small_W (by decide)⟩)
 obtain ⟨rfl, rfl⟩ := one_limb (x := 5) r3 i3 (by omega) (by omega)
 obtain ⟨rfl, rfl⟩ := one_limb (x := 6) r3' i3' (by omega) (by omega)
 have H3 : Hid (Kept w w3 ∧ Sl w3 (.slice ao3 k3 c3) [5] ∧ Sl w3 (.slice ap3 k3' c3') [6]) := ⟨H2.out.1.trans hk3, n3.sl, n3'.sl⟩
 clear hk3 hS hR n3 r3 i3 n3' r3' i3' H1 H2
 obtain ⟨rfl, hc3, pb, po, rfl, hcell⟩ := Sl.one H3.out.2.2
 have HC := hid' hcell
 have HC1 := hid' hc3
 clear hcell hc3
 go_wp2_with fail
 refine (of_ok (-3) 2 _ (by omega) (by omega) (by omega) (by omega) (by omega)).mono ?_
 rintro e w4 ⟨hk4, v4, X4, Y4, rfl, ⟨s4, ao4, k4, c4, l4, t4, ap4, k4', c4', l4', rfl, n4, r4, i4, n4', r4', i4', R4⟩, g4, hg4, hx4, hy4, hs4⟩
 have eg4 : g4 = 1 := by rw [show Nat.gcd (-3 : Int).natAbs (2 : Int).natAbs = 1 by decide] at hg4; omega
 subst eg4
 have e4 : M.int s4 l4 = -3 := by omega
 have e4' : M.int t4 l4' = 2 := by omega
 have rS := (RRow.alloc w3 (.bool false) (.slice ao3 k3 c3) (.bool false) (.slice (some ⟨pb, po, none⟩) 1 c3')).kept hk4
 have H4 : Hid (Kept w w4 ∧ RRow w4 w3.heap.size (.bool false) (.slice ao3 k3 c3) (.bool false) (.slice (some ⟨pb, po, none⟩) 1 c3') ∧ Sl w4 (.slice ao4 k4 c4) l4 ∧ Sl w4 (.slice ap4 k4' c4') l4' ∧ RatR s4 t4 l4 l4' ∧ M.int s4 l4 = -3 ∧ M.val l4' = 2 ∧ Kept w3 w4) := ⟨(H3.out.1.alloc _).trans hk4, rS, n4.sl, n4'.sl, R4, e4, by have := R4.val; omega, ((Kept.refl _).alloc _).trans hk4⟩
 clear hk4 n4 r4 i4 n4' r4' i4' R4 hg4 hx4 hy4 hs4 e4 e4' rS
 go_wp2_with fail
 refine (Round_ok s4 t4 ao4 ap4 k4 c4 k4' c4' l4 l4' _ H4.out.2.2.1 H4.out.2.2.2.1 H4.out.2.2.2.2.1).mono ?_
 rw [H4.out.2.2.2.2.2.1, H4.out.2.2.2.2.2.2.1, show gridV (near (-3) 2) = -2 by decide, show gridE (near (-3) 2) = 0 by decide]
 rintro e w5 ⟨rfl, hk5⟩
 have HK5 : Hid (Kept w w5) := H4.out.1.trans hk5
 have rS := H4.out.2.1.kept hk5
 have q0 := rS.c0
 have q1 := rS.c1
 have q2 := rS.c2
 have q3 := rS.c3
 have q4 := cell_kept (H4.out.2.2.2.2.2.2.2.trans hk5) HC.out
 obtain ⟨p1, hp1⟩ : ∃ p, p = w3.heap.size := ⟨_, rfl⟩
 have HV : Hid (∀ V, Kept w5 V → (RRow V p1 (.bool false) (.slice ao3 k3 c3) (.bool false) (.slice (some ⟨pb, po, none⟩) 1 c3') ∧ V.cell? ⟨pb, po, none⟩ = some (.int .u32 6) ∧ Sl V (.slice ao3 k3 c3) [5] ∧ Sl V (.slice (some ⟨pb, po, none⟩) 1 c3') [6])) := fun V hV => ⟨by rw [hp1]; exact rS.kept hV, cell_kept hV q4, H3.out.2.1.kept ((H4.out.2.2.2.2.2.2.2.trans hk5).trans hV), H3.out.2.2.kept ((H4.out.2.2.2.2.2.2.2.trans hk5).trans hV)⟩
 rw [← hp1] at q0 q1 q2 q3 ⊢
 clear hk5 rS hp1 H3 H4 HC HC1
 go_wp2_with fail
 go_region_held3 (fun w' => w'.cell? ⟨p1, 0, none⟩ = some (.bool false) ∧ w'.cell? ⟨p1, 1, none⟩ = some (.slice ao3 k3 c3) ∧ w'.cell? ⟨p1, 2, none⟩ = some (.bool false) ∧ w'.cell? ⟨p1, 3, none⟩ = some (.slice (some ⟨pb, po, none⟩) 1 c3') ∧ w'.cell? ⟨pb, po, none⟩ = some (.int .u32 6)) (go_keep) (first
  | (go_at_call 26; refine (of_ok 5 6 _ (by omega) (by omega) (by omega) (by omega) (by omega)).mono ?_; rintro e w6 ⟨hk6, v6, X6, Y6, rfl, ⟨s6, ao6, k6, c6, l6, t6, ap6, k6', c6', l6', rfl, n6, r6, i6, n6', r6', i6', R6⟩, g6, hg6, hx6, hy6, hs6⟩; (have eg6 : g6 = 1 := (by rw [show Nat.gcd (5 : Int).natAbs (6 : Int).natAbs = 1 by decide] at hg6; omega)); subst eg6; obtain ⟨rfl, rfl⟩ := one_limb (x := 5) r6 (by omega) (by omega) (by omega); obtain ⟨rfl, rfl⟩ := one_limb (x := 6) r6' (by omega) (by omega) (by omega); have K6 := (Kept.refl w5).drew.trans hk6; have H6 := hid' (And.intro n6 n6'); clear n6 r6 i6 n6' r6' i6' R6 hg6 hx6 hy6 hs6; have b0 := (HV.out _ K6).1.c0; have b1 := (HV.out _ K6).1.c1; have b2 := (HV.out _ K6).1.c2; have b3 := (HV.out _ K6).1.c3; have b4 := (HV.out _ K6).2.1)
  | (go_at_call 15; refine (lsame_r false false _ _ _ _ [5] [6] _ (HV.out _ K6).2.2.1 (HV.out _ K6).2.2.2 H6.out.1.sl H6.out.2.sl (by simp) (by simp)).mono ?_; rintro e w7 ⟨rfl, hk7⟩; have K7 := K6.trans hk7; have d0 := (HV.out _ K7).1.c0; have d1 := (HV.out _ K7).1.c1; have d2 := (HV.out _ K7).1.c2; have d3 := (HV.out _ K7).1.c3; have d4 := (HV.out _ K7).2.1)
  | (go_at_call 24; refine (Check_zero _).mono ?_; rintro e w8 ⟨rfl, hk8⟩; have K8 := K7.trans hk8; have f0 := (HV.out _ K8).1.c0; have f1 := (HV.out _ K8).1.c1; have f2 := (HV.out _ K8).1.c2; have f3 := (HV.out _ K8).1.c3; have f4 := (HV.out _ K8).2.1))
 have HK8 : Hid (Kept w w8) := HK5.out.trans K8
 clear q0 q1 q2 q3 q4 b0 b1 b2 b3 b4 d0 d1 d2 d3 d4 f0 f1 f2 f3 f4 hk6 hk7 hk8 K6 K7 K8 H6 HV
 go_wp2
 go_ret
 exact ⟨rfl, HK8.out⟩
end F
end Go.Proofs.YtblpacgfgifkcaaGreat
