/- rat.Round, of a right fraction. -/
import Derived.Test.YtkomjjpekgmjfaaGreatGap
import Derived.Test.YtkomjjpekgmjfaaGreatGap
import Derived.Test.YtkomjjpekgmjfaaGreatGal
import Derived.Test.YtkomjjpekgmjfaaGreatGaq
namespace Go.Proofs.YtkomjjpekgmjfaaGreat
open Go.RowKit
namespace F
def near (n : Int) (d : Nat) : Int :=
 if isgn (Int.tmod n d).natAbs ((d : Int) - (Int.tmod n d).natAbs) = 1 ∨ (isgn (Int.tmod n d).natAbs ((d : Int) - (Int.tmod n d).natAbs) = 0 ∧ Int.tdiv n d % 2 ≠ 0) then Int.tdiv n d + isgn (Int.tmod n d) 0 else Int.tdiv n d
def gridV (z : Int) : Int := if -1000000000000000000 ≤ z ∧ z ≤ 1000000000000000000 then z else 0
def gridE (z : Int) : Int := if -1000000000000000000 ≤ z ∧ z ≤ 1000000000000000000 then 0 else 4
theorem sgn_small' (x : Int) : -1 ≤ isgn x 0 ∧ isgn x 0 ≤ 1 := by unfold isgn; split <;> (try split) <;> omega
theorem sgn_three {h x y : Int} (e : h = isgn x y) : h = -1 ∨ h = 0 ∨ h = 1 := by
 rw [e]; unfold isgn; split <;> (try split) <;> simp
theorem near_stay {n : Int} {d : Nat} {x z : Int} (h : x = isgn (Int.tmod n d).natAbs ((d : Int) - (Int.tmod n d).natAbs)) (c : x = -1 ∨ (x = 0 ∧ z % 2 = 0)) (hz : z = Int.tdiv n d) : near n d = z := by
 unfold near
 rw [← h, ← hz, if_neg (by omega)]
theorem near_step {n : Int} {d : Nat} {x z sg : Int} (h : x = isgn (Int.tmod n d).natAbs ((d : Int) - (Int.tmod n d).natAbs)) (c : x = 1 ∨ (x = 0 ∧ ¬ z % 2 = 0)) (hz : z = Int.tdiv n d) (hs : sg = isgn (Int.tmod n d) 0) : near n d = z + sg := by
 unfold near
 rw [← h, ← hz, ← hs, if_pos (by omega)]
theorem ret_grid {x z : Int} (h : -1000000000000000000 ≤ x ∧ x ≤ 1000000000000000000) (e : x = z) : Ending.returned (.tuple #[.int .i64 x, .int .i64 0]) = Ending.returned (.tuple #[.int .i64 (gridV z), .int .i64 (gridE z)]) := by
 subst e; unfold gridV gridE; rw [if_pos h, if_pos h]
theorem ret_off {z : Int} (h : ¬ (-1000000000000000000 ≤ z ∧ z ≤ 1000000000000000000)) : Ending.returned (.tuple #[.int .i64 0, .int .i64 4]) = Ending.returned (.tuple #[.int .i64 (gridV z), .int .i64 (gridE z)]) := by
 unfold gridV gridE; rw [if_neg h, if_neg h]
theorem even_tmod {z : Int} : Int.tmod z 2 = 0 ↔ z % 2 = 0 := by
 rw [← Int.dvd_iff_tmod_eq_zero, ← Int.dvd_iff_emod_eq_zero]
theorem wrap_in {z s : Int} (_hz : -9223372036854775808 ≤ z ∧ z ≤ 9223372036854775807) (_hs : -1 ≤ s ∧ s ≤ 1) (h : -1000000000000000000 ≤ wrap64 (z + s) ∧ wrap64 (z + s) ≤ 1000000000000000000) : (-1000000000000000000 ≤ wrap64 (z + s) ∧ wrap64 (z + s) ≤ 1000000000000000000) ∧ wrap64 (z + s) = z + s := by
 refine ⟨h, ?_⟩
 unfold wrap64 at h ⊢
 omega
theorem wrap_out {z s : Int} (_hz : -9223372036854775808 ≤ z ∧ z ≤ 9223372036854775807) (_hs : -1 ≤ s ∧ s ≤ 1) (h : ¬ (-1000000000000000000 ≤ wrap64 (z + s) ∧ wrap64 (z + s) ≤ 1000000000000000000)) : ¬ (-1000000000000000000 ≤ z + s ∧ z + s ≤ 1000000000000000000) := by
 unfold wrap64 at h
 omega
theorem off_far {z s : Int} (h : ¬ (-9223372036854775808 ≤ z ∧ z ≤ 9223372036854775807)) (hs : -1 ≤ s ∧ s ≤ 1) : ¬ (-1000000000000000000 ≤ z + s ∧ z + s ≤ 1000000000000000000) := by omega
theorem off_far0 {z : Int} (h : ¬ (-9223372036854775808 ≤ z ∧ z ≤ 9223372036854775807)) : ¬ (-1000000000000000000 ≤ z ∧ z ≤ 1000000000000000000) := by omega
set_option maxHeartbeats 4000000 in
theorem Round_ok (m n : Bool) (aoa aob : Option Addr) (ka ca kb cb : Nat) (a d : List Nat) (w : World) (ha : Sl w (.slice aoa ka ca) a) (hd : Sl w (.slice aob kb cb) d) (hA : RatR m n a d) :
  Calls Tryz.prog 39 #[.agg #[.bool m, .slice aoa ka ca, .bool n, .slice aob kb cb]] w fun e w' => e = .returned (.tuple #[.int .i64 (gridV (near (M.int m a) (M.val d))), .int .i64 (gridE (near (M.int m a) (M.val d)))]) ∧ Kept w w' := by
 obtain rfl := hA.sgn
 have HA : Hid (Sl w (.slice aoa ka ca) a ∧ Sl w (.slice aob kb cb) d) := ⟨ha, hd⟩
 have HR : Hid (RatR m false a d ∧ 0 < d.length) := ⟨hA, len_pos (s := false) hA.pos⟩
 have HL : Hid (a.length ≤ 72 ∧ d.length ≤ 72) := ⟨hA.ra.1, hA.rd.1⟩
 have HX : Hid (M.int false d = (M.val d : Int)) := hA.val
 clear ha hd hA
 have K2 : ∀ x y, Kept w ((w.alloc x).alloc y) := fun x y => ((Kept.refl w).alloc x).alloc y
 go_enter Tryz.func39, Tryz.ntmps39
 go_wp2_with fail
 refine (refusal_any _ (w.heap.size + 1) 0 1 1 _ _ _ _ _ _ _ _ _ _ _ (fun _ => rfl) (by omega) (RatAll.single (m := m) (n := false) (a1 := aoa) (a2 := aob) (k1 := ka) (c1 := ca) (k2 := kb) (c2 := cb) (by simp) (by simp) (by simp) (by simp) (HA.out.1.kept (K2 _ _)) (HA.out.2.kept (K2 _ _)) (by have := HL.out; omega) (by have := HL.out; omega))).mono ?_
 rintro e w1 ⟨hk, c, rfl, hc⟩
 obtain rfl : c = 0 := Refused.single HR.out.1 hc
 clear hc
 have rA := ((RRow.alloc w (.bool m) (.slice aoa ka ca) (.bool false) (.slice aob kb cb))).kept (((Kept.refl _).alloc _).trans hk)
 have HK : Hid (Kept w w1) := (K2 _ _).trans hk
 have q0 := rA.c0
 have q1 := rA.c1
 have q2 := rA.c2
 have q3 := rA.c3
 have HRA := hid' rA
 clear hk K2 rA
 go_wp2_with fail
 refine (quoRem_r m false (.slice aoa ka ca) (.slice aob kb cb) a d _ (HA.out.1.kept HK.out) (HA.out.2.kept HK.out) HR.out.1.ra HR.out.1.rd HR.out.2).mono ?_
 rintro e w2 ⟨hk2, s, aq, kq, cq, q, t, ar, kr, cr, r, rfl, nq, nr, rq, rr, vq, vr⟩
 rw [HX.out] at vq vr
 have HQ : Hid (M.Right s q ∧ M.Right t r ∧ M.int s q = Int.tdiv (M.int m a) (M.val d) ∧ M.int t r = Int.tmod (M.int m a) (M.val d)) := ⟨rq, rr, vq, vr⟩
 clear q0 q1 q2 q3 rq rr vq vr
 go_upto_region 5 with fail
 have hK : Kept w2 ((w2.alloc (.cells #[.bool s, .slice aq kq cq] 64)).alloc (.cells #[.bool t, .slice ar kr cr] 64)) := ((Kept.refl w2).alloc _).alloc _
 have hY := box_kept2 (Kept.refl ((w2.alloc (.cells #[.bool s, .slice aq kq cq] 64)).alloc (.cells #[.bool t, .slice ar kr cr] 64)))
 have nq := nq.kept hK
 have nr := nr.kept hK
 have rA := (HRA.out.kept hk2).kept hK
 have hKW := (HK.out.trans hk2).trans hK
 generalize (w2.alloc (.cells #[.bool s, .slice aq kq cq] 64)).alloc (.cells #[.bool t, .slice ar kr cr] 64) = W at hK hY nq nr rA hKW ⊢
 obtain ⟨hy0, hy1, hy2, hy3⟩ := hY
 obtain ⟨p6, hp6⟩ : ∃ p, p = w2.heap.size + 1 := ⟨_, rfl⟩
 rw [← hp6] at hy2 hy3 ⊢
 obtain ⟨p5, hp5⟩ : ∃ p, p = w2.heap.size := ⟨_, rfl⟩
 rw [← hp5] at hy0 hy1 ⊢
 have HW : Hid (Kept w W ∧ Sl W (.slice aq kq cq) q ∧ Sl W (.slice ar kr cr) r ∧ RRow W w.heap.size (.bool m) (.slice aoa ka ca) (.bool false) (.slice aob kb cb)) := ⟨hKW, nq.sl, nr.sl, rA⟩
 have HY : Hid (W.cell? ⟨p6, 0, none⟩ = some (.bool t) ∧ W.cell? ⟨p6, 1, none⟩ = some (.slice ar kr cr)) := ⟨hy2, hy3⟩
 clear hK nq nr rA hKW hp6 hp5 hk2 hy2 hy3 HRA
 go_wp2_with fail
 refine (int64_yes s aq kq cq q _ HW.out.2.1 (R.of_right HQ.out.1)).mono ?_
 rintro e w3 ⟨rfl, hk3⟩
 obtain ⟨z, HZ⟩ : ∃ z, Hid (z = Int.tdiv (M.int m a) (M.val d)) := ⟨_, rfl⟩
 rw [HQ.out.2.2.1, ← HZ.out]
 have hy2 := cell_kept hk3 HY.out.1
 have hy3 := cell_kept hk3 HY.out.2
 have rA := HW.out.2.2.2.kept hk3
 have q2 := rA.c2
 have q3 := rA.c3
 have HK3 := hid' hk3
 clear hk3 hy0 hy1 rA
 have hi1 : -9223372036854775808 ≤ i64r z ∧ i64r z ≤ 9223372036854775807 := by unfold i64r; split <;> omega
 obtain ⟨v, HV⟩ : ∃ v, Hid (v = i64r z) := ⟨_, rfl⟩
 obtain ⟨er, HE⟩ : ∃ v, Hid (v = i64e z) := ⟨_, rfl⟩
 rw [← HV.out] at hi1
 rw [← HV.out, ← HE.out]
 have HI := hid' hi1
 clear hi1
 go_wp2_with fail
 refine (beyondHalf_r t ar aob kr cr kb cb r d _ (HW.out.2.2.1.kept HK3.out) (HA.out.2.kept (HW.out.1.trans HK3.out)) (R.of_right HQ.out.2.1) HR.out.1.rd (by rw [← M.natAbs_int t r, HQ.out.2.2.2, Int.natAbs_tmod, Int.natAbs_natCast]; exact Nat.le_of_lt (Nat.mod_lt _ HR.out.1.vpos))).mono ?_
 rintro e w4 ⟨rfl, hk4⟩
 have hy2 := cell_kept hk4 hy2
 have hy3 := cell_kept hk4 hy3
 have HK4 : Hid (Kept w w4) := (HW.out.1.trans HK3.out).trans hk4
 have HK34 : Hid (Kept W w4) := HK3.out.trans hk4
 clear hk4 q2 q3
 rw [show ((M.val r : Nat) : Int) = ((Int.tmod (M.int m a) (M.val d)).natAbs : Int) by rw [← HQ.out.2.2.2, M.natAbs_int]]
 -- ways
 obtain ⟨hf, HF⟩ : ∃ x, Hid (x = isgn (Int.tmod (M.int m a) (M.val d)).natAbs ((M.val d : Int) - (Int.tmod (M.int m a) (M.val d)).natAbs)) := ⟨_, rfl⟩
 rw [← HF.out]
 by_cases hz : -9223372036854775808 ≤ z ∧ z ≤ 9223372036854775807
 ·
  obtain rfl : v = z := by rw [HV.out]; unfold i64r; rw [if_pos hz]
  obtain rfl : er = 0 := by rw [HE.out]; unfold i64e; rw [if_pos hz]
  clear HV HE
  obtain ⟨z, hzz⟩ : ∃ z, z = v := ⟨_, rfl⟩
  subst hzz
  have HI := hid' hz
  clear hz
  rcases sgn_three HF.out with rfl | rfl | rfl
  ·
   go_wp2_with fail
   refine (onGrid_r _ _).mono ?_
   rintro e w6 ⟨rfl, hk6⟩
   have HK6 : Hid (Kept w w6) := HK4.out.trans hk6
   clear hk6
   by_cases hg : -1000000000000000000 ≤ z ∧ z ≤ 1000000000000000000
   ·
    rw [decide_eq_true hg]
    have HGG := hid' hg
    clear hg
    go_wp2
    refine bodyPost_ret (v := .tuple #[.int .i64 z, .int .i64 0]) (by simp [results, Tryz.results39, go_sem]) rfl ⟨?_, HK6.out⟩
    rw [near_stay (h := HF.out) (.inl rfl) HZ.out]
    exact ret_grid HGG.out rfl
   ·
    rw [decide_eq_false hg]
    have HGG := hid' hg
    clear hg
    go_wp2
    refine bodyPost_ret (v := .tuple #[.int .i64 0, .int .i64 4]) (by simp [results, Tryz.results39, go_sem]) rfl ⟨?_, HK6.out⟩
    rw [near_stay (h := HF.out) (.inl rfl) HZ.out]
    exact ret_off HGG.out
  ·
   by_cases ho : z % 2 = 0
   ·
    have HO := hid' ho
    have hm : (Int.tmod z 2 != 0) = false := by rw [even_tmod.2 ho]; rfl
    clear ho
    go_wp2_with fail
    refine (onGrid_r _ _).mono ?_
    rintro e w6 ⟨rfl, hk6⟩
    have HK6 : Hid (Kept w w6) := HK4.out.trans hk6
    clear hk6
    by_cases hg : -1000000000000000000 ≤ z ∧ z ≤ 1000000000000000000
    ·
     rw [decide_eq_true hg]
     have HGG := hid' hg
     clear hg
     go_wp2
     refine bodyPost_ret (v := .tuple #[.int .i64 z, .int .i64 0]) (by simp [results, Tryz.results39, go_sem]) rfl ⟨?_, HK6.out⟩
     rw [near_stay (h := HF.out) (.inr ⟨rfl, HO.out⟩) HZ.out]
     exact ret_grid HGG.out rfl
    ·
     rw [decide_eq_false hg]
     have HGG := hid' hg
     clear hg
     go_wp2
     refine bodyPost_ret (v := .tuple #[.int .i64 0, .int .i64 4]) (by simp [results, Tryz.results39, go_sem]) rfl ⟨?_, HK6.out⟩
     rw [near_stay (h := HF.out) (.inr ⟨rfl, HO.out⟩) HZ.out]
     exact ret_off HGG.out
   ·
    have HO := hid' ho
    have hm : (Int.tmod z 2 != 0) = true := by rw [bne_iff_ne]; exact fun h => ho (even_tmod.1 h)
    clear ho
    go_wp2_with fail
    refine (sign_any t ar kr cr r _ (HW.out.2.2.1.kept HK34.out) (R.of_right HQ.out.2.1)).mono ?_
    rw [HQ.out.2.2.2]
    rintro e w5 ⟨rfl, hk5⟩
    have HK5 : Hid (Kept w w5) := HK4.out.trans hk5
    obtain ⟨sg, HSG⟩ : ∃ x, Hid (x = isgn (Int.tmod (M.int m a) (M.val d)) 0) := ⟨_, rfl⟩
    rw [← HSG.out]
    have hsg : -1 ≤ sg ∧ sg ≤ 1 := by rw [HSG.out]; exact sgn_small' _
    have HSB := hid' hsg
    clear hsg hk5
    go_wp2_with fail
    refine (onGrid_r _ _).mono ?_
    rintro e w6 ⟨rfl, hk6⟩
    have HK6 : Hid (Kept w w6) := HK5.out.trans hk6
    clear hk6
    by_cases hg : -1000000000000000000 ≤ (wrap64 (z + sg)) ∧ (wrap64 (z + sg)) ≤ 1000000000000000000
    ·
     rw [decide_eq_true hg]
     have HGG := hid' hg
     clear hg
     go_wp2
     refine bodyPost_ret (v := .tuple #[.int .i64 (wrap64 (z + sg)), .int .i64 0]) (by simp [results, Tryz.results39, go_sem]) rfl ⟨?_, HK6.out⟩
     rw [near_step (h := HF.out) (.inr ⟨rfl, HO.out⟩) HZ.out HSG.out]
     exact ret_grid (wrap_in HI.out HSB.out HGG.out).1 (wrap_in HI.out HSB.out HGG.out).2
    ·
     rw [decide_eq_false hg]
     have HGG := hid' hg
     clear hg
     go_wp2
     refine bodyPost_ret (v := .tuple #[.int .i64 0, .int .i64 4]) (by simp [results, Tryz.results39, go_sem]) rfl ⟨?_, HK6.out⟩
     rw [near_step (h := HF.out) (.inr ⟨rfl, HO.out⟩) HZ.out HSG.out]
     exact ret_off (wrap_out HI.out HSB.out HGG.out)
  ·
   go_wp2_with fail
   refine (sign_any t ar kr cr r _ (HW.out.2.2.1.kept HK34.out) (R.of_right HQ.out.2.1)).mono ?_
   rw [HQ.out.2.2.2]
   rintro e w5 ⟨rfl, hk5⟩
   have HK5 : Hid (Kept w w5) := HK4.out.trans hk5
   obtain ⟨sg, HSG⟩ : ∃ x, Hid (x = isgn (Int.tmod (M.int m a) (M.val d)) 0) := ⟨_, rfl⟩
   rw [← HSG.out]
   have hsg : -1 ≤ sg ∧ sg ≤ 1 := by rw [HSG.out]; exact sgn_small' _
   have HSB := hid' hsg
   clear hsg hk5
   go_wp2_with fail
   refine (onGrid_r _ _).mono ?_
   rintro e w6 ⟨rfl, hk6⟩
   have HK6 : Hid (Kept w w6) := HK5.out.trans hk6
   clear hk6
   by_cases hg : -1000000000000000000 ≤ (wrap64 (z + sg)) ∧ (wrap64 (z + sg)) ≤ 1000000000000000000
   ·
    rw [decide_eq_true hg]
    have HGG := hid' hg
    clear hg
    go_wp2
    refine bodyPost_ret (v := .tuple #[.int .i64 (wrap64 (z + sg)), .int .i64 0]) (by simp [results, Tryz.results39, go_sem]) rfl ⟨?_, HK6.out⟩
    rw [near_step (h := HF.out) (.inl rfl) HZ.out HSG.out]
    exact ret_grid (wrap_in HI.out HSB.out HGG.out).1 (wrap_in HI.out HSB.out HGG.out).2
   ·
    rw [decide_eq_false hg]
    have HGG := hid' hg
    clear hg
    go_wp2
    refine bodyPost_ret (v := .tuple #[.int .i64 0, .int .i64 4]) (by simp [results, Tryz.results39, go_sem]) rfl ⟨?_, HK6.out⟩
    rw [near_step (h := HF.out) (.inl rfl) HZ.out HSG.out]
    exact ret_off (wrap_out HI.out HSB.out HGG.out)
 ·
  obtain rfl : v = 0 := by rw [HV.out]; unfold i64r; rw [if_neg hz]
  obtain rfl : er = 4 := by rw [HE.out]; unfold i64e; rw [if_neg hz]
  clear HV HE
  have HB := hid' hz
  clear hz
  rcases sgn_three HF.out with rfl | rfl | rfl
  ·
   go_wp2_with fail
   go_wp2
   refine bodyPost_ret (v := .tuple #[.int .i64 0, .int .i64 4]) (by simp [results, Tryz.results39, go_sem]) rfl ⟨?_, HK4.out⟩
   rw [near_stay (h := HF.out) (.inl rfl) HZ.out]
   exact ret_off (off_far0 HB.out)
  ·
   by_cases ho : z % 2 = 0
   ·
    have HO := hid' ho
    go_wp2_with fail
    go_wp2
    refine bodyPost_ret (v := .tuple #[.int .i64 0, .int .i64 4]) (by simp [results, Tryz.results39, go_sem]) rfl ⟨?_, HK4.out⟩
    rw [near_stay (h := HF.out) (.inr ⟨rfl, HO.out⟩) HZ.out]
    exact ret_off (off_far0 HB.out)
   ·
    have HO := hid' ho
    go_wp2_with fail
    go_wp2
    refine bodyPost_ret (v := .tuple #[.int .i64 0, .int .i64 4]) (by simp [results, Tryz.results39, go_sem]) rfl ⟨?_, HK4.out⟩
    rw [near_step (h := HF.out) (.inr ⟨rfl, HO.out⟩) HZ.out rfl]
    exact ret_off (off_far HB.out (sgn_small' _))
  ·
   go_wp2_with fail
   refine (sign_any t ar kr cr r _ (HW.out.2.2.1.kept HK34.out) (R.of_right HQ.out.2.1)).mono ?_
   rw [HQ.out.2.2.2]
   rintro e w5 ⟨rfl, hk5⟩
   have HK5 : Hid (Kept w w5) := HK4.out.trans hk5
   obtain ⟨sg, HSG⟩ : ∃ x, Hid (x = isgn (Int.tmod (M.int m a) (M.val d)) 0) := ⟨_, rfl⟩
   rw [← HSG.out]
   have hsg : -1 ≤ sg ∧ sg ≤ 1 := by rw [HSG.out]; exact sgn_small' _
   have HSB := hid' hsg
   clear hsg hk5
   go_wp2
   refine bodyPost_ret (v := .tuple #[.int .i64 0, .int .i64 4]) (by simp [results, Tryz.results39, go_sem]) rfl ⟨?_, HK5.out⟩
   rw [near_step (h := HF.out) (.inl rfl) HZ.out HSG.out]
   exact ret_off (off_far HB.out HSB.out)
end F
end Go.Proofs.YtkomjjpekgmjfaaGreat
