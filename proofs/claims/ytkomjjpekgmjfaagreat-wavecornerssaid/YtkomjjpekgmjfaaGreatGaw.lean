/- Plain mathematics of corners. shuntlaw04.WaveCorners. -/
import Derived.Test.YtkomjjpekgmjfaaGreatGav
import Derived.Test.YtkomjjpekgmjfaaGreatGao
namespace Go.Proofs.YtkomjjpekgmjfaaGreat
open Go.RowKit
namespace V
theorem mod_add {a p s : Int} (hp : 0 < p) (hs : 0 ≤ s) (h : a % p + s < p) : (a + s) % p = a % p + s := by
 have e1 := Int.mul_ediv_add_emod a p
 have h0 := Int.emod_nonneg a (show p ≠ 0 by omega)
 have e2 : a + s = (a % p + s) + p * (a / p) := by omega
 rw [e2, Int.add_mul_emod_self_left, Int.emod_eq_of_lt (by omega) h]
theorem cin_le {r b f P u : Int} (h : r + b + f ≤ P) (hb : 0 ≤ b) (hf : 0 ≤ f) : cinP r b f P u ≤ P := by
 unfold cinP; split <;> (try split) <;> (try split) <;> omega
theorem cin_stay {r b f P u u' : Int} (h1 : u ≤ u') (h2 : u' < cinP r b f P u) : cinP r b f P u' = cinP r b f P u := by
 unfold cinP at *
 by_cases c1 : u < r
 ·
  rw [if_pos c1] at h2 ⊢; rw [if_pos h2]
 rw [if_neg c1] at h2 ⊢
 rw [if_neg (by omega)]
 by_cases c2 : u < r + b
 ·
  rw [if_pos c2] at h2 ⊢; rw [if_pos h2]
 rw [if_neg c2] at h2 ⊢
 rw [if_neg (by omega)]
 by_cases c3 : u < r + b + f
 ·
  rw [if_pos c3] at h2 ⊢; rw [if_pos h2]
 rw [if_neg c3] at h2 ⊢
 rw [if_neg (by omega)]
theorem pul_stay {d r b f P t t' : Int} (h : Pul d r b f P) (hd : ¬ t < d) (h1 : t ≤ t') (h2 : t' < corP d r b f P t) : (t' - d) % P = (t - d) % P + (t' - t) ∧ (t' - d) % P < cinP r b f P ((t - d) % P) := by
 rw [corP_eq, if_neg hd] at h2
 have hp := h.p0
 have hle := cin_le (u := (t - d) % P) h.s h.b0 h.f0
 have e : (t' - d) % P = (t - d) % P + (t' - t) := by
  have := mod_add (a := t - d) (p := P) (s := t' - t) (by omega) (by omega) (by omega)
  rw [← this]
  congr 1
  omega
 exact ⟨e, by omega⟩
theorem corP_stay {d r b f P t t' : Int} (h : Pul d r b f P) (h1 : t ≤ t') (h2 : t' < corP d r b f P t) : corP d r b f P t' = corP d r b f P t := by
 by_cases hd : t < d
 ·
  have h3 := h2
  rw [corP_eq, if_pos hd] at h3
  rw [corP_eq, corP_eq, if_pos hd, if_pos h3]
 ·
  obtain ⟨e1, e2⟩ := pul_stay h hd h1 h2
  have h0 := Int.emod_nonneg (t - d) (show P ≠ 0 by have := h.p0; omega)
  rw [corP_eq, corP_eq, if_neg hd, if_neg (by omega), cin_stay (u := (t - d) % P) (by omega) e2, e1]
  omega
theorem fa_stay {l : List Int} {t t' : Int} (h1 : t ≤ t') (h2 : t' < l.getD (fa l t) 0) : fa l t' = fa l t :=
 (fa_one (fa_le l t) (fun j hj => by have := fa_below hj; omega) (fun _ => h2)).symm
theorem corW_stay {k : Int} {vs : List (Int × Int)} {ss : List Int} {t t' c : Int} (h : okW k vs ss = true) (hc : corW k ss t = some c) (h1 : t ≤ t') (h2 : t' < c) : corW k ss t' = some c := by
 unfold corW at hc ⊢
 by_cases k2 : k = 2
 ·
  subst k2
  rw [if_pos rfl] at hc ⊢
  simp only [Option.some.injEq] at hc ⊢
  rw [← hc] at h2 ⊢
  exact corP_stay (okW_pul h).2.2 h1 h2
 rw [if_neg k2] at hc ⊢
 by_cases k3 : k = 3
 ·
  rw [if_pos k3] at hc ⊢
  by_cases hf : fa ss t = ss.length
  ·
   rw [if_pos hf] at hc; simp at hc
  ·
   rw [if_neg hf] at hc
   simp only [Option.some.injEq] at hc
   rw [← hc] at h2
   rw [fa_stay h1 h2, if_neg hf, hc]
 rw [if_neg k3] at hc ⊢
 by_cases k4 : k = 4
 ·
  rw [if_pos k4] at hc ⊢
  simp only [Option.some.injEq] at hc ⊢
  omega
 ·
  rw [if_neg k4] at hc; simp at hc
theorem next_yes {k : Int} {vs : List (Int × Int)} {ss : List Int} {t : Int} (h : (nextW k vs ss t).2 = true) : okW k vs ss = true ∧ (0 ≤ t ∧ t ≤ 1000000000) ∧ corW k ss t = some (nextW k vs ss t).1 ∧ t < (nextW k vs ss t).1 ∧ (nextW k vs ss t).1 ≤ 1000000000 ∧ k ≠ 1 := by
 unfold nextW at h ⊢
 by_cases ho : okW k vs ss = true ∧ okS t = true
 ·
  rw [if_pos ho] at h ⊢
  unfold nxtW at h ⊢
  cases hc : corW k ss t with
  | none => rw [hc] at h; simp at h
  | some c =>
   rw [hc] at h
   dsimp only at h ⊢
   by_cases hl : c ≤ 1000000000
   ·
    rw [if_pos hl]
    refine ⟨ho.1, ?_, rfl, corW_gt ho.1 hc, hl, ?_⟩
    ·
     have := ho.2; unfold okS at this; simpa using this
    ·
     intro hk; subst hk; unfold corW at hc; simp at hc
   ·
    rw [if_neg hl] at h; simp at h
 ·
  rw [if_neg ho] at h; simp at h
theorem next_no {k : Int} {vs : List (Int × Int)} {ss : List Int} {t : Int} (h : (nextW k vs ss t).2 = false) : (nextW k vs ss t).1 = 0 := by
 unfold nextW at h ⊢
 by_cases ho : okW k vs ss = true ∧ okS t = true
 ·
  rw [if_pos ho] at h ⊢
  unfold nxtW at h ⊢
  cases hc : corW k ss t with
  | none => rfl
  | some c =>
   rw [hc] at h
   dsimp only at h ⊢
   by_cases hl : c ≤ 1000000000
   ·
    rw [if_pos hl] at h; simp at h
   ·
    rw [if_neg hl]
 ·
  rw [if_neg ho]
theorem next_same {k : Int} {vs : List (Int × Int)} {ss : List Int} {t t' : Int} (h : (nextW k vs ss t).2 = true) (h1 : t ≤ t') (h2 : t' < (nextW k vs ss t).1) : nextW k vs ss t' = ((nextW k vs ss t).1, true) := by
 obtain ⟨ho, ht, hc, h3, h4, _⟩ := next_yes h
 have hc' := corW_stay ho hc h1 h2
 generalize (nextW k vs ss t).1 = c at *
 unfold nextW nxtW
 rw [if_pos ⟨ho, by unfold okS; simp; omega⟩, hc']
 dsimp only
 rw [if_pos h4]
end V
end Go.Proofs.YtkomjjpekgmjfaaGreat

namespace Go.Proofs.YtkomjjpekgmjfaaGreat
open Go.RowKit
namespace V
open Q (hid' Row3 Row2 okN)
set_option maxRecDepth 100000 in
set_option maxHeartbeats 4000000 in
theorem corners_any (k : Int) (a1 a2 : Option Addr) (n c m c' : Nat) (vs : List (Int × Int)) (ss : List Int) (t : Int) (w : World) (h1 : NSl w (.slice a1 n c) vs) (h2 : ISl w (.slice a2 m c') ss) (hn : n ≤ 9223372036854775807) (hm : m ≤ 9223372036854775807) :
  Calls Tryz.prog 7 #[.agg #[.int .i64 k, .slice a1 n c, .slice a2 m c'], .int .i64 t] w fun e w' => e = .returned (.bool true) ∧ Kept w w' := by
 have HS := hid' (And.intro h1 h2)
 clear h1 h2
 go_enter Tryz.func7, Tryz.ntmps7
 go_upto_region 1 with fail
 have hK := (Kept.refl w).alloc (.cells #[.int .i64 k, .slice a1 n c, .slice a2 m c'] 25)
 have hR := Row3.alloc 25 w (.int .i64 k) (.slice a1 n c) (.slice a2 m c')
 generalize w.alloc (.cells #[.int .i64 k, .slice a1 n c, .slice a2 m c'] 25) = W at hK hR ⊢
 obtain ⟨p1, hp1⟩ : ∃ p, p = w.heap.size := ⟨_, rfl⟩
 rw [← hp1] at hR ⊢
 have HK := hid' hK
 have HR := hid' hR
 clear hp1 hK hR
 go_wp2_with fail
 refine (awake_any _).mono ?_
 rintro e w1 ⟨hk1, rfl⟩
 have HK1 := hid' (HK.out.trans hk1)
 have HR1 := hid' (HR.out.kept hk1)
 clear hk1
 have q0 := HR1.out.c0
 have q1 := HR1.out.c1
 have q2 := HR1.out.c2
 go_wp2_with fail
 refine (next_any k a1 a2 n c m c' vs ss t _ (HS.out.1.kept HK1.out) (HS.out.2.kept HK1.out)).mono ?_
 rintro e w2 ⟨hk2, rfl⟩
 have HK2 := hid' (HK1.out.trans hk2)
 have HR2 := hid' (HR1.out.kept hk2)
 clear hk2 q0 q1 q2
 by_cases hb : (nextW k vs ss t).2 = true
 ·
  have HY := hid' (next_yes hb)
  have HSa : Hid (∀ t', t ≤ t' → t' < (nextW k vs ss t).1 → nextW k vs ss t' = ((nextW k vs ss t).1, true)) := fun t' h1 h2 => next_same hb h1 h2
  rw [hb]
  have hy := HY.out
  generalize (nextW k vs ss t).1 = y at *
  clear hb
  have q0 := HR2.out.c0
  have q1 := HR2.out.c1
  have q2 := HR2.out.c2
  obtain ⟨ho, ⟨ht0, ht1⟩, -, hty, hy1, hk1⟩ := hy
  have HO := hid' ho
  clear ho
  have e1 : ¬ t < 0 := by omega
  have e2 : ¬ y ≤ t := by omega
  have e3 : ¬ 1000000000 < y := by omega
  have e4 : (k == 1) = false := by simpa using hk1
  go_wp2_with fail
  refine (rvalid_any k a1 a2 n c m c' vs ss _ (HS.out.1.kept HK2.out) (HS.out.2.kept HK2.out) hn hm).mono ?_
  rintro e w3 ⟨hk3, rfl⟩
  rw [HO.out]
  have HK3 := hid' (HK2.out.trans hk3)
  have HR3 := hid' (HR2.out.kept hk3)
  clear hk3 q0 q1 q2
  have q0 := HR3.out.c0
  have q1 := HR3.out.c1
  have q2 := HR3.out.c2
  have e5 : IntKind.i64.wrap (y - t) = y - t := by rw [IntKind.wrap_i64]; omega
  have e6 : Int.tdiv (y - t) 2 = (y - t) / 2 := by rw [Int.tdiv_eq_ediv_of_nonneg (by omega)]
  have e7 : IntKind.i64.wrap ((y - t) / 2) = (y - t) / 2 := by rw [IntKind.wrap_i64]; omega
  have e8 : IntKind.i64.wrap (t + (y - t) / 2) = t + (y - t) / 2 := by rw [IntKind.wrap_i64]; omega
  have e9 : 0 ≤ y - t := by omega
  have e10 : (0 ≤ t ∧ t < y) ∧ y ≤ 1000000000 := ⟨⟨ht0, hty⟩, hy1⟩
  go_wp2_with fail
  refine (next_any k a1 a2 n c m c' vs ss (t + (y - t) / 2) _ (HS.out.1.kept HK3.out) (HS.out.2.kept HK3.out)).mono ?_
  rintro e w4 ⟨hk4, rfl⟩
  rw [HSa.out (t + (y - t) / 2) (by omega) (by omega)]
  have HK4 := hid' (HK3.out.trans hk4)
  clear hk4 q0 q1 q2
  by_cases hy2 : y - t = 1
  ·
   go_wp2_with fail
   all_goals
    go_ret
    exact ⟨rfl, HK4.out⟩
  ·
   go_wp2_with fail
   all_goals
    go_ret
    exact ⟨rfl, HK4.out⟩
 ·
  have hb : (nextW k vs ss t).2 = false := by simpa using hb
  rw [hb, next_no hb]
  go_wp2_with fail
  go_ret
  exact ⟨rfl, HK2.out⟩
end V
end Go.Proofs.YtkomjjpekgmjfaaGreat
