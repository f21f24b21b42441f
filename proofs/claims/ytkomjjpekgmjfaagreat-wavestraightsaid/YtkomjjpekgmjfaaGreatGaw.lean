/- Plain mathematics of corners. Plain mathematics of a straight piece, rounded. shuntlaw04.WaveStraight. -/
import Derived.Test.YtkomjjpekgmjfaaGreatGav
import Derived.Test.YtkomjjpekgmjfaaGreatGao
namespace Go.Proofs.YtkomjjpekgmjfaaGreat
open Go.RowKit
namespace V
theorem mod_add {a p s : Int} (hp : 0 < p) (hs : 0 ≤ s) (h : a % p + s < p) : (a + s) % p = a % p + s := by
 have e1 := Int.mul_ediv_add_emod a p
 have h0 := Int.emod_nonneg a (show p ≠ 0 by omega)
 have e2 : a + s = (a % p + s) + p * (a / p) := by omega
 rw [e2, Int.add_mul_emod_self_left, Int.emod_eq_of_lt (by omega) h]
theorem cin_le {r b f P u : Int} (h : r + b + f ≤ P) (hb : 0 ≤ b) (hf : 0 ≤ f) : cinP r b f P u ≤ P := by
 unfold cinP; split <;> (try split) <;> (try split) <;> omega
theorem pul_stay {d r b f P t t' : Int} (h : Pul d r b f P) (hd : ¬ t < d) (h1 : t ≤ t') (h2 : t' < corP d r b f P t) : (t' - d) % P = (t - d) % P + (t' - t) ∧ (t' - d) % P < cinP r b f P ((t - d) % P) := by
 rw [corP_eq, if_neg hd] at h2
 have hp := h.p0
 have hle := cin_le (u := (t - d) % P) h.s h.b0 h.f0
 have e : (t' - d) % P = (t - d) % P + (t' - t) := by
  have := mod_add (a := t - d) (p := P) (s := t' - t) (by omega) (by omega) (by omega)
  rw [← this]
  congr 1
  omega
 exact ⟨e, by omega⟩
theorem fa_stay {l : List Int} {t t' : Int} (h1 : t ≤ t') (h2 : t' < l.getD (fa l t) 0) : fa l t' = fa l t :=
 (fa_one (fa_le l t) (fun j hj => by have := fa_below hj; omega) (fun _ => h2)).symm
theorem next_yes {k : Int} {vs : List (Int × Int)} {ss : List Int} {t : Int} (h : (nextW k vs ss t).2 = true) : okW k vs ss = true ∧ (0 ≤ t ∧ t ≤ 1000000000) ∧ corW k ss t = some (nextW k vs ss t).1 ∧ t < (nextW k vs ss t).1 ∧ (nextW k vs ss t).1 ≤ 1000000000 ∧ k ≠ 1 := by
 unfold nextW at h ⊢
 by_cases ho : okW k vs ss = true ∧ okS t = true
 ·
  rw [if_pos ho] at h ⊢
  unfold nxtW at h ⊢
  cases hc : corW k ss t with
  | none => rw [hc] at h; simp at h
  | some c =>
   rw [hc] at h
   dsimp only at h ⊢
   by_cases hl : c ≤ 1000000000
   ·
    rw [if_pos hl]
    refine ⟨ho.1, ?_, rfl, corW_gt ho.1 hc, hl, ?_⟩
    ·
     have := ho.2; unfold okS at this; simpa using this
    ·
     intro hk; subst hk; unfold corW at hc; simp at hc
   ·
    rw [if_neg hl] at h; simp at h
 ·
  rw [if_neg ho] at h; simp at h
end V
end Go.Proofs.YtkomjjpekgmjfaaGreat

namespace Go.Proofs.YtkomjjpekgmjfaaGreat
open Go.RowKit
namespace V
def Lin (z1 z2 z3 : Int) : Prop := ∃ (A D : Int) (B : Nat), 0 < B ∧ z1 = F.near (A - D) B ∧ z2 = F.near A B ∧ z3 = F.near (A + D) B
theorem lin_same (p : Int × Int) : Lin (lev p) (lev p) (lev p) := ⟨U p.1 p.2, 0, 1000000000, by decide, by unfold lev; rw [Int.sub_zero], rfl, by unfold lev; rw [Int.add_zero]⟩
theorem lin_seg (p q : Int × Int) (g L : Int) (h : 0 < L) : Lin (seg p q (g - 1) L) (seg p q g L) (seg p q (g + 1) L) := by
 refine ⟨U p.1 p.2 * (L - g) + U q.1 q.2 * g, U q.1 q.2 - U p.1 p.2, L.toNat * 1000000000, Nat.mul_pos (by omega) (by decide), ?_, rfl, ?_⟩
 ·
  unfold seg
  congr 1
  have e1 : U p.1 p.2 * (L - (g - 1)) = U p.1 p.2 * (L - g) + U p.1 p.2 := by rw [show L - (g - 1) = (L - g) + 1 by omega, Int.mul_add, Int.mul_one]
  have e2 : U q.1 q.2 * (g - 1) = U q.1 q.2 * g - U q.1 q.2 := by rw [Int.mul_sub, Int.mul_one]
  rw [e1, e2]
  omega
 ·
  unfold seg
  congr 1
  have e1 : U p.1 p.2 * (L - (g + 1)) = U p.1 p.2 * (L - g) - U p.1 p.2 := by rw [show L - (g + 1) = (L - g) - 1 by omega, Int.mul_sub, Int.mul_one]
  have e2 : U q.1 q.2 * (g + 1) = U q.1 q.2 * g + U q.1 q.2 := by rw [Int.mul_add, Int.mul_one]
  rw [e1, e2]
  omega
theorem lin_bound {z1 z2 z3 : Int} (h : Lin z1 z2 z3) : -2 ≤ 2 * z2 - z1 - z3 ∧ 2 * z2 - z1 - z3 ≤ 2 := by
 obtain ⟨A, D, B, hB, e1, e2, e3⟩ := h
 obtain ⟨a1, a2, _⟩ := F.near_cut (A - D) hB
 obtain ⟨b1, b2, _⟩ := F.near_cut A hB
 obtain ⟨c1, c2, _⟩ := F.near_cut (A + D) hB
 rw [← e1] at a1 a2
 rw [← e2] at b1 b2
 rw [← e3] at c1 c2
 have hp : (0 : Int) < B := by omega
 have x : (2 * z2 - z1 - z3) * B = 2 * (z2 * B) - z1 * B - z3 * B := by rw [Int.sub_mul, Int.sub_mul, Int.mul_assoc]
 have up : (2 * z2 - z1 - z3) * B ≤ 2 * B := by rw [x]; omega
 have dn : (-2) * B ≤ (2 * z2 - z1 - z3) * B := by rw [x]; omega
 exact ⟨Int.le_of_mul_le_mul_right dn hp, Int.le_of_mul_le_mul_right up hp⟩
theorem lin_pulse {p q : Int × Int} {d r b f P t : Int} (h : Pul d r b f P) (hc : t + 1 < corP d r b f P (t - 1)) : Lin (sayP p q d r b f P (t - 1)) (sayP p q d r b f P t) (sayP p q d r b f P (t + 1)) := by
 by_cases hd : t - 1 < d
 ·
  have hc' := hc
  rw [corP_eq, if_pos hd] at hc'
  unfold sayP
  rw [if_pos hd, if_pos (show t < d by omega), if_pos (show t + 1 < d by omega)]
  exact lin_same p
 ·
  obtain ⟨e1, l1⟩ := pul_stay h hd (show t - 1 ≤ t by omega) (by omega)
  obtain ⟨e2, l2⟩ := pul_stay h hd (show t - 1 ≤ t + 1 by omega) hc
  have h0 := Int.emod_nonneg (t - 1 - d) (show P ≠ 0 by have := h.p0; omega)
  have hr := h.r0
  have hb := h.b0
  unfold sayP
  rw [if_neg hd, if_neg (show ¬ t < d by omega), if_neg (show ¬ t + 1 < d by omega)]
  rw [e2] at l2 ⊢
  rw [e1] at l1 ⊢
  generalize (t - 1 - d) % P = u at *
  rw [show u + (t - (t - 1)) = u + 1 by omega] at *
  rw [show u + (t + 1 - (t - 1)) = u + 2 by omega] at *
  unfold cinP at l2
  by_cases c1 : u < r
  ·
   rw [if_pos c1] at l2
   rw [if_pos c1, if_pos (show u + 1 < r by omega), if_pos (show u + 2 < r by omega)]
   have := lin_seg p q (u + 1) r (by omega)
   rw [show u + 1 - 1 = u by omega, show u + 1 + 1 = u + 2 by omega] at this
   exact this
  rw [if_neg c1] at l2
  rw [if_neg c1, if_neg (show ¬ u + 1 < r by omega), if_neg (show ¬ u + 2 < r by omega)]
  by_cases c2 : u < r + b
  ·
   rw [if_pos c2] at l2
   rw [if_pos c2, if_pos (show u + 1 < r + b by omega), if_pos (show u + 2 < r + b by omega)]
   exact lin_same q
  rw [if_neg c2] at l2
  rw [if_neg c2, if_neg (show ¬ u + 1 < r + b by omega), if_neg (show ¬ u + 2 < r + b by omega)]
  by_cases c3 : u < r + b + f
  ·
   rw [if_pos c3] at l2
   rw [if_pos c3, if_pos (show u + 1 < r + b + f by omega), if_pos (show u + 2 < r + b + f by omega)]
   have := lin_seg q p (u + 1 - (r + b)) f (by omega)
   rw [show u + 1 - (r + b) - 1 = u - (r + b) by omega, show u + 1 - (r + b) + 1 = u + 2 - (r + b) by omega] at this
   exact this
  ·
   rw [if_neg c3, if_neg (show ¬ u + 1 < r + b + f by omega), if_neg (show ¬ u + 2 < r + b + f by omega)]
   exact lin_same p
theorem lin_points {vs : List (Int × Int)} {ss : List Int} {t : Int} (hc : ¬ fa ss (t - 1) = ss.length → t + 1 < ss.getD (fa ss (t - 1)) 0) : Lin (sayQ vs ss (t - 1)) (sayQ vs ss t) (sayQ vs ss (t + 1)) := by
 by_cases hf : fa ss (t - 1) = ss.length
 ·
  have e1 : fa ss t = ss.length := (fa_one (Nat.le_refl _) (fun j hj => by have := fa_below (l := ss) (t := t - 1) (j := j) (by omega); omega) (fun h => by omega)).symm
  have e2 : fa ss (t + 1) = ss.length := (fa_one (Nat.le_refl _) (fun j hj => by have := fa_below (l := ss) (t := t - 1) (j := j) (by omega); omega) (fun h => by omega)).symm
  unfold sayQ
  rw [if_pos hf, if_pos e1, if_pos e2]
  exact lin_same _
 ·
  have hc := hc hf
  have e1 : fa ss t = fa ss (t - 1) := fa_stay (by omega) (by omega)
  have e2 : fa ss (t + 1) = fa ss (t - 1) := fa_stay (by omega) hc
  have hle := fa_le ss (t - 1)
  unfold sayQ
  rw [e1, e2, if_neg hf, if_neg hf, if_neg hf]
  by_cases h0 : fa ss (t - 1) = 0
  ·
   rw [if_pos h0, if_pos h0, if_pos h0]
   exact lin_same _
  ·
   rw [if_neg h0, if_neg h0, if_neg h0]
   have hb := fa_below (l := ss) (t := t - 1) (j := fa ss (t - 1) - 1) (by omega)
   have := lin_seg (vs.getD (fa ss (t - 1) - 1) (0, 0)) (vs.getD (fa ss (t - 1)) (0, 0)) (t - ss.getD (fa ss (t - 1) - 1) 0) (ss.getD (fa ss (t - 1)) 0 - ss.getD (fa ss (t - 1) - 1) 0) (by omega)
   rw [show t - ss.getD (fa ss (t - 1) - 1) 0 - 1 = t - 1 - ss.getD (fa ss (t - 1) - 1) 0 by omega, show t - ss.getD (fa ss (t - 1) - 1) 0 + 1 = t + 1 - ss.getD (fa ss (t - 1) - 1) 0 by omega] at this
   exact this
theorem lin_wave {k : Int} {vs : List (Int × Int)} {ss : List Int} {t : Int} (h : okW k vs ss = true) (k4 : k ≠ 4) (hc : ∀ c, corW k ss (t - 1) = some c → t + 1 < c) : Lin (sayW k vs ss (t - 1)) (sayW k vs ss t) (sayW k vs ss (t + 1)) := by
 unfold corW at hc
 unfold sayW
 by_cases k2 : k = 2
 ·
  subst k2
  rw [if_pos rfl] at hc
  rw [if_pos rfl, if_pos rfl, if_pos rfl]
  exact lin_pulse (okW_pul h).2.2 (hc _ rfl)
 rw [if_neg k2] at hc
 rw [if_neg k2, if_neg k2, if_neg k2]
 by_cases k3 : k = 3
 ·
  rw [if_pos k3] at hc
  rw [if_pos k3, if_pos k3, if_pos k3]
  refine lin_points fun hf => ?_
  rw [if_neg hf] at hc
  exact hc _ rfl
 ·
  rw [if_neg k3, if_neg k3, if_neg k3]
  obtain rfl : k = 1 := by
   have := fits_kind (okW_parts h).1
   omega
  have hl := (fits1 (okW_parts h).1).1
  rw [hl]
  simp only [Int.natCast_one, Int.emod_one]
  exact lin_same _
theorem next_far {k : Int} {vs : List (Int × Int)} {ss : List Int} {t : Int} (h : okW k vs ss = true) (h1 : 1 ≤ t) (h2 : t < 1000000000) (hn : ¬ ((nextW k vs ss (t - 1)).2 = true ∧ (nextW k vs ss (t - 1)).1 ≤ t + 1)) : ∀ c, corW k ss (t - 1) = some c → t + 1 < c := by
 intro c hc
 unfold nextW nxtW at hn
 rw [if_pos ⟨h, by unfold okS; simp; omega⟩, hc] at hn
 dsimp only at hn
 by_cases hl : c ≤ 1000000000
 ·
  rw [if_pos hl] at hn
  dsimp only at hn
  apply Classical.byContradiction
  intro hx
  exact hn ⟨rfl, by omega⟩
 ·
  omega
end V
end Go.Proofs.YtkomjjpekgmjfaaGreat

namespace Go.Proofs.YtkomjjpekgmjfaaGreat
open Go.RowKit
namespace V
open Q (hid' Row3 Row2 okN)
theorem grid_alt {z g e : Int} (hg : g = F.gridV z) (he : e = F.gridE z) : (e = 0 ∧ z = g ∧ -1000000000000000000 ≤ z ∧ z ≤ 1000000000000000000) ∨ (e = 4 ∧ g = 0) := by
 unfold F.gridV at hg
 unfold F.gridE at he
 by_cases h : -1000000000000000000 ≤ z ∧ z ≤ 1000000000000000000
 ·
  rw [if_pos h] at hg he
  exact .inl ⟨he, hg.symm, h.1, h.2⟩
 ·
  rw [if_neg h] at hg he
  exact .inr ⟨he, hg⟩
set_option maxRecDepth 100000 in
set_option maxHeartbeats 4000000 in
theorem straight_any (k : Int) (a1 a2 : Option Addr) (n c m c' : Nat) (vs : List (Int × Int)) (ss : List Int) (t : Int) (w : World) (h1 : NSl w (.slice a1 n c) vs) (h2 : ISl w (.slice a2 m c') ss) (hn : n ≤ 9223372036854775807) (hm : m ≤ 9223372036854775807) :
  Calls Tryz.prog 5 #[.agg #[.int .i64 k, .slice a1 n c, .slice a2 m c'], .int .i64 t] w fun e w' => e = .returned (.bool true) ∧ Kept w w' := by
 have HS := hid' (And.intro h1 h2)
 clear h1 h2
 go_enter Tryz.func5, Tryz.ntmps5
 go_upto_region 1 with fail
 have hK := (Kept.refl w).alloc (.cells #[.int .i64 k, .slice a1 n c, .slice a2 m c'] 25)
 have hR := Row3.alloc 25 w (.int .i64 k) (.slice a1 n c) (.slice a2 m c')
 generalize w.alloc (.cells #[.int .i64 k, .slice a1 n c, .slice a2 m c'] 25) = W at hK hR ⊢
 obtain ⟨p1, hp1⟩ : ∃ p, p = w.heap.size := ⟨_, rfl⟩
 rw [← hp1] at hR ⊢
 have HK := hid' hK
 have HR := hid' hR
 clear hp1 hK hR
 go_wp2_with fail
 refine (awake_any _).mono ?_
 rintro e w1 ⟨hk1, rfl⟩
 have HK1 := hid' (HK.out.trans hk1)
 have HR1 := hid' (HR.out.kept hk1)
 clear hk1
 have q0 := HR1.out.c0
 have q1 := HR1.out.c1
 have q2 := HR1.out.c2
 go_wp2_with fail
 refine (rvalid_any k a1 a2 n c m c' vs ss _ (HS.out.1.kept HK1.out) (HS.out.2.kept HK1.out) hn hm).mono ?_
 rintro e w2 ⟨hk2, rfl⟩
 have HK2 := hid' (HK1.out.trans hk2)
 have HR2 := hid' (HR1.out.kept hk2)
 clear hk2 q0 q1 q2
 by_cases ho : okW k vs ss = true
 ·
  have HO := hid' ho
  rw [ho]
  clear ho
  have q0 := HR2.out.c0
  have q1 := HR2.out.c1
  have q2 := HR2.out.c2
  by_cases k4 : k = 4
  ·
   subst k4
   go_wp2_with fail
   all_goals
    go_ret
    exact ⟨rfl, HK2.out⟩
  have b4 : (k == 4) = false := by simpa using k4
  by_cases ht1 : t < 1
  ·
   have ht1' : ¬ 1 ≤ t := by omega
   go_wp2_with fail
   all_goals
    go_ret
    exact ⟨rfl, HK2.out⟩
  by_cases ht2 : 1000000000 ≤ t
  ·
   have ht1' : 1 ≤ t := by omega
   go_wp2_with fail
   all_goals
    go_ret
    exact ⟨rfl, HK2.out⟩
  have e0 : 1 ≤ t ∧ t < 1000000000 := by omega
  have f0 : 1 ≤ t := by omega
  have f1 : t < 1000000000 := by omega
  have e1 : IntKind.i64.wrap (t - 1) = t - 1 := by rw [IntKind.wrap_i64]; omega
  have e2 : IntKind.i64.wrap (t + 1) = t + 1 := by rw [IntKind.wrap_i64]; omega
  go_wp2_with fail
  refine (next_any k a1 a2 n c m c' vs ss (t - 1) _ (HS.out.1.kept HK2.out) (HS.out.2.kept HK2.out)).mono ?_
  rintro e w3 ⟨hk3, rfl⟩
  have HK3 := hid' (HK2.out.trans hk3)
  have HR3 := hid' (HR2.out.kept hk3)
  clear hk3 q0 q1 q2
  by_cases hx : (nextW k vs ss (t - 1)).2 = true ∧ (nextW k vs ss (t - 1)).1 ≤ t + 1
  ·
   have hy := (next_yes hx.1).2.2.2.1
   rw [hx.1]
   have hx2 := hx.2
   clear hx
   generalize (nextW k vs ss (t - 1)).1 = y at *
   have hy' : t ≤ y := by omega
   go_wp2_with fail
   all_goals
    go_ret
    exact ⟨rfl, HK3.out⟩
  have HB : Hid (Lin (sayW k vs ss (t - 1)) (sayW k vs ss t) (sayW k vs ss (t + 1))) := lin_wave HO.out k4 (next_far HO.out f0 f1 hx)
  have HA : Hid (∀ t', okS t' = true → atW k vs ss t' = (F.gridV (sayW k vs ss t'), F.gridE (sayW k vs ss t'))) := fun t' h' => by
   unfold atW
   rw [if_pos HO.out, if_pos h']
  have q0 := HR3.out.c0
  have q1 := HR3.out.c1
  have q2 := HR3.out.c2
  obtain ⟨nb, hnb⟩ : ∃ b, b = (nextW k vs ss (t - 1)).2 := ⟨_, rfl⟩
  obtain ⟨y, hy⟩ : ∃ y, y = (nextW k vs ss (t - 1)).1 := ⟨_, rfl⟩
  rw [← hnb, ← hy] at hx ⊢
  clear hnb hy
  cases nb
  ·
   clear hx
   go_wp2_with fail
   refine (at_any k a1 a2 n c m c' vs ss (t - 1) _ (HS.out.1.kept HK3.out) (HS.out.2.kept HK3.out)).mono ?_
   rintro e w4 ⟨hk, rfl⟩
   rw [HA.out (t - 1) (by unfold okS; simp; omega)]
   have HK4 := hid' (HK3.out.trans hk)
   have HR4 := hid' (HR3.out.kept hk)
   clear hk q0 q1 q2
   have q0 := HR4.out.c0
   have q1 := HR4.out.c1
   have q2 := HR4.out.c2
   obtain ⟨z1, hz1⟩ : ∃ z, z = sayW k vs ss (t - 1) := ⟨_, rfl⟩
   rw [← hz1] at HB ⊢
   obtain ⟨g1, hg1⟩ : ∃ g, g = F.gridV z1 := ⟨_, rfl⟩
   obtain ⟨e1, he1⟩ : ∃ g, g = F.gridE z1 := ⟨_, rfl⟩
   rw [← hg1, ← he1]
   have HG1 := hid' (grid_alt hg1 he1)
   clear hz1 hg1 he1
   go_wp2_with fail
   refine (at_any k a1 a2 n c m c' vs ss (t) _ (HS.out.1.kept HK4.out) (HS.out.2.kept HK4.out)).mono ?_
   rintro e w5 ⟨hk, rfl⟩
   rw [HA.out (t) (by unfold okS; simp; omega)]
   have HK5 := hid' (HK4.out.trans hk)
   have HR5 := hid' (HR4.out.kept hk)
   clear hk q0 q1 q2
   have q0 := HR5.out.c0
   have q1 := HR5.out.c1
   have q2 := HR5.out.c2
   obtain ⟨z2, hz2⟩ : ∃ z, z = sayW k vs ss (t) := ⟨_, rfl⟩
   rw [← hz2] at HB ⊢
   obtain ⟨g2, hg2⟩ : ∃ g, g = F.gridV z2 := ⟨_, rfl⟩
   obtain ⟨e2, he2⟩ : ∃ g, g = F.gridE z2 := ⟨_, rfl⟩
   rw [← hg2, ← he2]
   have HG2 := hid' (grid_alt hg2 he2)
   clear hz2 hg2 he2
   go_wp2_with fail
   refine (at_any k a1 a2 n c m c' vs ss (t + 1) _ (HS.out.1.kept HK5.out) (HS.out.2.kept HK5.out)).mono ?_
   rintro e w6 ⟨hk, rfl⟩
   rw [HA.out (t + 1) (by unfold okS; simp; omega)]
   have HK6 := hid' (HK5.out.trans hk)
   have HR6 := hid' (HR5.out.kept hk)
   clear hk q0 q1 q2
   have q0 := HR6.out.c0
   have q1 := HR6.out.c1
   have q2 := HR6.out.c2
   obtain ⟨z3, hz3⟩ : ∃ z, z = sayW k vs ss (t + 1) := ⟨_, rfl⟩
   rw [← hz3] at HB ⊢
   obtain ⟨g3, hg3⟩ : ∃ g, g = F.gridV z3 := ⟨_, rfl⟩
   obtain ⟨e3, he3⟩ : ∃ g, g = F.gridE z3 := ⟨_, rfl⟩
   rw [← hg3, ← he3]
   have HG3 := hid' (grid_alt hg3 he3)
   clear hz3 hg3 he3
   clear q0 q1 q2
   rcases HG1.out with ⟨rfl, rfl, m1, n1⟩ | ⟨rfl, rfl⟩
   ·
    rcases HG2.out with ⟨rfl, rfl, m2, n2⟩ | ⟨rfl, rfl⟩
    ·
     rcases HG3.out with ⟨rfl, rfl, m3, n3⟩ | ⟨rfl, rfl⟩
     ·
      have hb := lin_bound HB.out
      have x1 : IntKind.i64.wrap (2 * z2) = 2 * z2 := by rw [IntKind.wrap_i64]; omega
      have x2 : IntKind.i64.wrap (2 * z2 - z1) = 2 * z2 - z1 := by rw [IntKind.wrap_i64]; omega
      have x3 : IntKind.i64.wrap (2 * z2 - z1 - z3) = 2 * z2 - z1 - z3 := by rw [IntKind.wrap_i64]; omega
      obtain ⟨y1, y2⟩ := hb
      have y3 : -2 ≤ 2 * z2 - z1 - z3 ∧ 2 * z2 - z1 - z3 ≤ 2 := ⟨y1, y2⟩
      go_wp2_with fail
      all_goals
       go_ret
       exact ⟨rfl, HK6.out⟩
     ·
      go_wp2_with fail
      all_goals
       go_ret
       exact ⟨rfl, HK6.out⟩
    ·
     rcases HG3.out with ⟨rfl, rfl, m3, n3⟩ | ⟨rfl, rfl⟩
     ·
      go_wp2_with fail
      all_goals
       go_ret
       exact ⟨rfl, HK6.out⟩
     ·
      go_wp2_with fail
      all_goals
       go_ret
       exact ⟨rfl, HK6.out⟩
   ·
    go_wp2_with fail
    all_goals
     go_ret
     exact ⟨rfl, HK6.out⟩
  ·
   have hx' : ¬ y ≤ t + 1 := fun h => hx ⟨rfl, h⟩
   clear hx
   go_wp2_with fail
   refine (at_any k a1 a2 n c m c' vs ss (t - 1) _ (HS.out.1.kept HK3.out) (HS.out.2.kept HK3.out)).mono ?_
   rintro e w4 ⟨hk, rfl⟩
   rw [HA.out (t - 1) (by unfold okS; simp; omega)]
   have HK4 := hid' (HK3.out.trans hk)
   have HR4 := hid' (HR3.out.kept hk)
   clear hk q0 q1 q2
   have q0 := HR4.out.c0
   have q1 := HR4.out.c1
   have q2 := HR4.out.c2
   obtain ⟨z1, hz1⟩ : ∃ z, z = sayW k vs ss (t - 1) := ⟨_, rfl⟩
   rw [← hz1] at HB ⊢
   obtain ⟨g1, hg1⟩ : ∃ g, g = F.gridV z1 := ⟨_, rfl⟩
   obtain ⟨e1, he1⟩ : ∃ g, g = F.gridE z1 := ⟨_, rfl⟩
   rw [← hg1, ← he1]
   have HG1 := hid' (grid_alt hg1 he1)
   clear hz1 hg1 he1
   go_wp2_with fail
   refine (at_any k a1 a2 n c m c' vs ss (t) _ (HS.out.1.kept HK4.out) (HS.out.2.kept HK4.out)).mono ?_
   rintro e w5 ⟨hk, rfl⟩
   rw [HA.out (t) (by unfold okS; simp; omega)]
   have HK5 := hid' (HK4.out.trans hk)
   have HR5 := hid' (HR4.out.kept hk)
   clear hk q0 q1 q2
   have q0 := HR5.out.c0
   have q1 := HR5.out.c1
   have q2 := HR5.out.c2
   obtain ⟨z2, hz2⟩ : ∃ z, z = sayW k vs ss (t) := ⟨_, rfl⟩
   rw [← hz2] at HB ⊢
   obtain ⟨g2, hg2⟩ : ∃ g, g = F.gridV z2 := ⟨_, rfl⟩
   obtain ⟨e2, he2⟩ : ∃ g, g = F.gridE z2 := ⟨_, rfl⟩
   rw [← hg2, ← he2]
   have HG2 := hid' (grid_alt hg2 he2)
   clear hz2 hg2 he2
   go_wp2_with fail
   refine (at_any k a1 a2 n c m c' vs ss (t + 1) _ (HS.out.1.kept HK5.out) (HS.out.2.kept HK5.out)).mono ?_
   rintro e w6 ⟨hk, rfl⟩
   rw [HA.out (t + 1) (by unfold okS; simp; omega)]
   have HK6 := hid' (HK5.out.trans hk)
   have HR6 := hid' (HR5.out.kept hk)
   clear hk q0 q1 q2
   have q0 := HR6.out.c0
   have q1 := HR6.out.c1
   have q2 := HR6.out.c2
   obtain ⟨z3, hz3⟩ : ∃ z, z = sayW k vs ss (t + 1) := ⟨_, rfl⟩
   rw [← hz3] at HB ⊢
   obtain ⟨g3, hg3⟩ : ∃ g, g = F.gridV z3 := ⟨_, rfl⟩
   obtain ⟨e3, he3⟩ : ∃ g, g = F.gridE z3 := ⟨_, rfl⟩
   rw [← hg3, ← he3]
   have HG3 := hid' (grid_alt hg3 he3)
   clear hz3 hg3 he3
   clear q0 q1 q2
   rcases HG1.out with ⟨rfl, rfl, m1, n1⟩ | ⟨rfl, rfl⟩
   ·
    rcases HG2.out with ⟨rfl, rfl, m2, n2⟩ | ⟨rfl, rfl⟩
    ·
     rcases HG3.out with ⟨rfl, rfl, m3, n3⟩ | ⟨rfl, rfl⟩
     ·
      have hb := lin_bound HB.out
      have x1 : IntKind.i64.wrap (2 * z2) = 2 * z2 := by rw [IntKind.wrap_i64]; omega
      have x2 : IntKind.i64.wrap (2 * z2 - z1) = 2 * z2 - z1 := by rw [IntKind.wrap_i64]; omega
      have x3 : IntKind.i64.wrap (2 * z2 - z1 - z3) = 2 * z2 - z1 - z3 := by rw [IntKind.wrap_i64]; omega
      obtain ⟨y1, y2⟩ := hb
      have y3 : -2 ≤ 2 * z2 - z1 - z3 ∧ 2 * z2 - z1 - z3 ≤ 2 := ⟨y1, y2⟩
      go_wp2_with fail
      all_goals
       go_ret
       exact ⟨rfl, HK6.out⟩
     ·
      go_wp2_with fail
      all_goals
       go_ret
       exact ⟨rfl, HK6.out⟩
    ·
     rcases HG3.out with ⟨rfl, rfl, m3, n3⟩ | ⟨rfl, rfl⟩
     ·
      go_wp2_with fail
      all_goals
       go_ret
       exact ⟨rfl, HK6.out⟩
     ·
      go_wp2_with fail
      all_goals
       go_ret
       exact ⟨rfl, HK6.out⟩
   ·
    go_wp2_with fail
    all_goals
     go_ret
     exact ⟨rfl, HK6.out⟩
 ·
  have ho : okW k vs ss = false := by simpa using ho
  rw [ho]
  go_wp2_with fail
  go_ret
  exact ⟨rfl, HK2.out⟩
end V
end Go.Proofs.YtkomjjpekgmjfaaGreat
