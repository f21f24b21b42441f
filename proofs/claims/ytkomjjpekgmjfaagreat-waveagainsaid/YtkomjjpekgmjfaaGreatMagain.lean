/- shuntlaw04.WaveAgain. -/
import Derived.Test.YtkomjjpekgmjfaaGreatGav
import Derived.Test.YtkomjjpekgmjfaaGreatGao
namespace Go.Proofs.YtkomjjpekgmjfaaGreat
open Go.RowKit
namespace V
open Q (hid' Row3 Row2 okN)
theorem again_pulse {p q : Int × Int} {d r b f P t : Int} (hd : ¬ t < d) (hP : 0 ≤ P) : sayP p q d r b f P (t + P) = sayP p q d r b f P t := by
 unfold sayP
 rw [if_neg (show ¬ t + P < d by omega), if_neg hd]
 have e : (t + P - d) % P = (t - d) % P := by
  rw [show t + P - d = (t - d) + P * 1 by omega, Int.add_mul_emod_self_left]
 rw [e]
theorem again_table {vs : List (Int × Int)} {ss : List Int} {t : Int} {n : Nat} (h : okW 4 vs ss = true) (ht : okS t = true) (hn : n = vs.length) (ht' : okS (t + n) = true) : atW 4 vs ss (t + n) = atW 4 vs ss t := by
 have e : (t + (vs.length : Int)) % (vs.length : Int) = t % (vs.length : Int) := by
  rw [show t + (vs.length : Int) = t + (vs.length : Int) * 1 by omega, Int.add_mul_emod_self_left]
 subst hn
 unfold atW sayW
 rw [if_pos h, if_pos h, if_pos ht, if_pos ht', if_neg (by decide), if_neg (by decide), if_neg (by decide), if_neg (by decide), e]
set_option maxRecDepth 100000 in
set_option maxHeartbeats 4000000 in
theorem again_any (k : Int) (a1 a2 : Option Addr) (n c m c' : Nat) (vs : List (Int × Int)) (ss : List Int) (t : Int) (w : World) (h1 : NSl w (.slice a1 n c) vs) (h2 : ISl w (.slice a2 m c') ss) (hn : n ≤ 9223372036854775807) (hm : m ≤ 9223372036854775807) :
  Calls Tryz.prog 6 #[.agg #[.int .i64 k, .slice a1 n c, .slice a2 m c'], .int .i64 t] w fun e w' => e = .returned (.bool true) ∧ Kept w w' := by
 have HS := hid' (And.intro h1 h2)
 clear h1 h2
 go_enter Tryz.func6, Tryz.ntmps6
 go_upto_region 1 with fail
 have hK := (Kept.refl w).alloc (.cells #[.int .i64 k, .slice a1 n c, .slice a2 m c'] 25)
 have hR := Row3.alloc 25 w (.int .i64 k) (.slice a1 n c) (.slice a2 m c')
 generalize w.alloc (.cells #[.int .i64 k, .slice a1 n c, .slice a2 m c'] 25) = W at hK hR ⊢
 obtain ⟨p1, hp1⟩ : ∃ p, p = w.heap.size := ⟨_, rfl⟩
 rw [← hp1] at hR ⊢
 have HK := hid' hK
 have HR := hid' hR
 clear hp1 hK hR
 go_wp2_with fail
 refine (awake_any _).mono ?_
 rintro e w1 ⟨hk1, rfl⟩
 have HK1 := hid' (HK.out.trans hk1)
 have HR1 := hid' (HR.out.kept hk1)
 clear hk1
 have q0 := HR1.out.c0
 have q1 := HR1.out.c1
 have q2 := HR1.out.c2
 go_wp2_with fail
 refine (rvalid_any k a1 a2 n c m c' vs ss _ (HS.out.1.kept HK1.out) (HS.out.2.kept HK1.out) hn hm).mono ?_
 rintro e w2 ⟨hk2, rfl⟩
 have HK2 := hid' (HK1.out.trans hk2)
 have HR2 := hid' (HR1.out.kept hk2)
 clear hk2 q0 q1 q2
 by_cases ho : okW k vs ss = true
 ·
  have HO := hid' ho
  rw [ho]
  clear ho
  by_cases ht0 : t < 0
  ·
   go_wp2_with fail
   go_ret
   exact ⟨rfl, HK2.out⟩
  by_cases ht1 : 1000000000 < t
  ·
   go_wp2_with fail
   go_ret
   exact ⟨rfl, HK2.out⟩
  have q0 := HR2.out.c0
  have q1 := HR2.out.c1
  have q2 := HR2.out.c2
  have hT : okS t = true := by unfold okS; simp; omega
  have HT := hid' hT
  clear hT
  by_cases k2 : k = 2
  ·
   subst k2
   obtain ⟨lv, ls, hp⟩ := okW_pul HO.out
   obtain ⟨ao1, cap1, hv1, hx1⟩ := HS.out.1.kept HK2.out
   simp only [Value.slice.injEq] at hv1
   obtain ⟨rfl, hl1, rfl⟩ := hv1
   obtain ⟨b1, o1, rfl, hb1, hc1⟩ := hx1 (by omega)
   obtain ⟨ao2, cap2, hv2, hx2⟩ := HS.out.2.kept HK2.out
   simp only [Value.slice.injEq] at hv2
   obtain ⟨rfl, hl2, rfl⟩ := hv2
   obtain ⟨b2, o2, rfl, hb2, hc2⟩ := hx2 (by omega)
   obtain rfl : n = 2 := by omega
   obtain rfl : m = 5 := by omega
   obtain ⟨u0, u1⟩ := hc1 0 (by omega)
   have v0 := hc2 0 (by omega)
   have v4 := hc2 4 (by omega)
   simp only [Nat.zero_mul, Nat.add_zero] at u0 u1 v0
   have HA : Hid (∀ t', okS t' = true → atW 2 vs ss t' = (F.gridV (sayP (vs.getD 0 (0, 0)) (vs.getD 1 (0, 0)) (ss.getD 0 0) (ss.getD 1 0) (ss.getD 2 0) (ss.getD 3 0) (ss.getD 4 0) t'), F.gridE (sayP (vs.getD 0 (0, 0)) (vs.getD 1 (0, 0)) (ss.getD 0 0) (ss.getD 1 0) (ss.getD 2 0) (ss.getD 3 0) (ss.getD 4 0) t'))) := fun t' h' => by
    unfold atW sayW
    rw [if_pos HO.out, if_pos h', if_pos rfl]
   have HN := hid' (okN_at HO.out 0 (by omega))
   have HP := hid' hp
   have HB1 := hid' hb1
   clear hx1 hc1 hx2 hc2 hb1 hb2 hl1 hl2 lv ls hp
   generalize ss.getD 0 0 = y0 at *
   generalize ss.getD 4 0 = y4 at *
   generalize hxx : vs.getD 0 (0, 0) = xx at *
   clear hxx
   obtain ⟨x0, x1⟩ := xx
   dsimp only at u0 u1
   have e0 : 0 ≤ t ∧ t ≤ 1000000000 := by omega
   by_cases htd : t < y0
   ·
    have HL : Hid (sayP (x0, x1) (vs.getD 1 (0, 0)) y0 (ss.getD 1 0) (ss.getD 2 0) (ss.getD 3 0) y4 t = F.near (U x0 x1) 1000000000) := by show _ = _; unfold sayP lev; rw [if_pos htd]
    go_wp2_with fail
    refine (at_any 2 (some ⟨b1, o1, none⟩) (some ⟨b2, o2, none⟩) 2 c 5 c' vs ss t _ (HS.out.1.kept HK2.out) (HS.out.2.kept HK2.out)).mono ?_
    rintro e w3 ⟨hk3, rfl⟩
    rw [HA.out t HT.out, HL.out]
    have HK3 := hid' (HK2.out.trans hk3)
    have HR3 := hid' (HR2.out.kept hk3)
    have HC3 : Hid (w3.cell? ⟨b1, o1, none⟩ = some (.int .i64 x0) ∧ w3.cell? ⟨b1, o1 + 1, none⟩ = some (.int .i64 x1)) := ⟨(Below.cell hk3 (p := ⟨b1, o1, none⟩) HB1.out).trans u0, (Below.cell hk3 (p := ⟨b1, o1 + 1, none⟩) HB1.out).trans u1⟩
    clear hk3 q0 q1 q2 u0 u1 v0 v4
    have q0 := HR3.out.c0
    have q1 := HR3.out.c1
    have q2 := HR3.out.c2
    have u0 := HC3.out.1
    have u1 := HC3.out.2
    generalize hgv : F.gridV (F.near (U x0 x1) 1000000000) = gv
    generalize hge : F.gridE (F.near (U x0 x1) 1000000000) = ge
    have HG := hid' (And.intro hgv hge)
    clear hgv hge
    go_wp2_with fail
    refine (grid_u x0 x1 HN.out _).mono ?_
    rintro e w4 ⟨hk4, rfl⟩
    rw [HG.out.1, HG.out.2]
    have HK4 := hid' (HK3.out.trans hk4)
    clear hk4 q0 q1 q2 u0 u1
    go_wp2_with fail
    all_goals
     go_ret
     exact ⟨rfl, HK4.out⟩
   ·
    have hp0 := HP.out.p0
    have hp1 := HP.out.p1
    have e6 : IntKind.i64.wrap (1000000000 - y4) = 1000000000 - y4 := by rw [IntKind.wrap_i64]; omega
    by_cases hby : 1000000000 - y4 < t
    ·
     go_wp2_with fail
     go_ret
     exact ⟨rfl, HK2.out⟩
    ·
     have hby' : t ≤ 1000000000 - y4 := by omega
     have HE : Hid (atW 2 vs ss (t + y4) = atW 2 vs ss t) := by show _ = _; rw [HA.out t HT.out, HA.out (t + y4) (by unfold okS; simp; omega), again_pulse htd (by omega)]
     have e7 : IntKind.i64.wrap (t + y4) = t + y4 := by rw [IntKind.wrap_i64]; omega
     go_wp2_with fail
     refine (at_any 2 (some ⟨b1, o1, none⟩) (some ⟨b2, o2, none⟩) 2 c 5 c' vs ss t _ (HS.out.1.kept HK2.out) (HS.out.2.kept HK2.out)).mono ?_
     rintro e w3 ⟨hk3, rfl⟩
     have HK3 := hid' (HK2.out.trans hk3)
     have HR3 := hid' (HR2.out.kept hk3)
     clear hk3 q0 q1 q2
     have q0 := HR3.out.c0
     have q1 := HR3.out.c1
     have q2 := HR3.out.c2
     generalize hgg : atW 2 vs ss t = gg at HE ⊢
     obtain ⟨g0, g1⟩ := gg
     clear hgg
     go_wp2_with fail
     refine (at_any 2 (some ⟨b1, o1, none⟩) (some ⟨b2, o2, none⟩) 2 c 5 c' vs ss (t + y4) _ (HS.out.1.kept HK3.out) (HS.out.2.kept HK3.out)).mono ?_
     rintro e w4 ⟨hk4, rfl⟩
     rw [HE.out]
     have HK4 := hid' (HK3.out.trans hk4)
     clear hk4 q0 q1 q2
     go_wp2_with fail
     all_goals
      go_ret
      exact ⟨rfl, HK4.out⟩
  have b2 : (k == 2) = false := by simpa using k2
  have e0 : 0 ≤ t ∧ t ≤ 1000000000 := by omega
  by_cases k4 : k = 4
  ·
   subst k4
   have hl := fits4 (okW_parts HO.out).1
   have hln := HS.out.1.len
   have hn1 : 1 ≤ n ∧ n ≤ 16 := by omega
   have HLn := hid' hln
   clear hl hln
   have e6 : IntKind.i64.wrap (1000000000 - (n : Int)) = 1000000000 - (n : Int) := by rw [IntKind.wrap_i64]; omega
   by_cases hby : 1000000000 - (n : Int) < t
   ·
    go_wp2_with fail
    go_ret
    exact ⟨rfl, HK2.out⟩
   ·
    have hby' : t ≤ 1000000000 - (n : Int) := by omega
    have HE : Hid (atW 4 vs ss (t + (n : Int)) = atW 4 vs ss t) := again_table HO.out HT.out HLn.out (by unfold okS; simp; omega)
    have e7 : IntKind.i64.wrap (t + (n : Int)) = t + (n : Int) := by rw [IntKind.wrap_i64]; omega
    go_wp2_with fail
    refine (at_any 4 a1 a2 n c m c' vs ss t _ (HS.out.1.kept HK2.out) (HS.out.2.kept HK2.out)).mono ?_
    rintro e w3 ⟨hk3, rfl⟩
    have HK3 := hid' (HK2.out.trans hk3)
    have HR3 := hid' (HR2.out.kept hk3)
    clear hk3 q0 q1 q2
    have q0 := HR3.out.c0
    have q1 := HR3.out.c1
    have q2 := HR3.out.c2
    generalize hgg : atW 4 vs ss t = gg at HE ⊢
    obtain ⟨g0, g1⟩ := gg
    clear hgg
    go_wp2_with fail
    refine (at_any 4 a1 a2 n c m c' vs ss (t + (n : Int)) _ (HS.out.1.kept HK3.out) (HS.out.2.kept HK3.out)).mono ?_
    rintro e w4 ⟨hk4, rfl⟩
    rw [HE.out]
    have HK4 := hid' (HK3.out.trans hk4)
    clear hk4 q0 q1 q2
    go_wp2_with fail
    all_goals
     go_ret
     exact ⟨rfl, HK4.out⟩
  ·
   have b4 : (k == 4) = false := by simpa using k4
   have hby' : t ≤ 1000000000 := by omega
   have e7 : IntKind.i64.wrap t = t := by rw [IntKind.wrap_i64]; omega
   go_wp2_with fail
   refine (at_any k a1 a2 n c m c' vs ss t _ (HS.out.1.kept HK2.out) (HS.out.2.kept HK2.out)).mono ?_
   rintro e w3 ⟨hk3, rfl⟩
   have HK3 := hid' (HK2.out.trans hk3)
   have HR3 := hid' (HR2.out.kept hk3)
   clear hk3 q0 q1 q2
   have q0 := HR3.out.c0
   have q1 := HR3.out.c1
   have q2 := HR3.out.c2
   obtain ⟨gg, hgg⟩ : ∃ g, g = atW k vs ss t := ⟨_, rfl⟩
   rw [← hgg]
   have HG := hid' hgg
   clear hgg
   obtain ⟨g0, g1⟩ := gg
   go_wp2_with fail
   refine (at_any k a1 a2 n c m c' vs ss t _ (HS.out.1.kept HK3.out) (HS.out.2.kept HK3.out)).mono ?_
   rintro e w4 ⟨hk4, rfl⟩
   rw [← HG.out]
   have HK4 := hid' (HK3.out.trans hk4)
   clear hk4 q0 q1 q2
   go_wp2_with fail
   all_goals
    go_ret
    exact ⟨rfl, HK4.out⟩
 ·
  have ho : okW k vs ss = false := by simpa using ho
  rw [ho]
  go_wp2_with fail
  go_ret
  exact ⟨rfl, HK2.out⟩
end V
end Go.Proofs.YtkomjjpekgmjfaaGreat
