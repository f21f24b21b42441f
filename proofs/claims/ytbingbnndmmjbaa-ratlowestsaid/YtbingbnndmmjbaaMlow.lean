/- The walk of RatLowest. -/
import Derived.Test.YtbingbnndmmjbaaFawk
import Derived.Test.YtbingbnndmmjbaaFfault
import Derived.Test.YtbingbnndmmjbaaGae
namespace Go.Proofs.Ytbingbnndmmjbaa
open Go.RowKit
namespace F

theorem fits_mul' {a b : List Nat} {m n : Bool} (ha : M.Bd a) (hb : M.Bd b) (h : a.length + b.length ≤ 60) : (M.int m a * M.int n b).natAbs < M.W72 := by
  rw [Int.natAbs_mul, M.natAbs_int, M.natAbs_int]
  have h1 := Nat.mul_le_mul (Nat.le_of_lt (M.val_lt ha)) (Nat.le_of_lt (M.val_lt hb))
  rw [← Nat.pow_add] at h1
  have h2 : 4294967296 ^ (a.length + b.length) ≤ 4294967296 ^ 60 := Nat.pow_le_pow_right (by decide) h
  have h3 : 4294967296 ^ 60 < M.W72 := by unfold M.W72; decide
  omega

/-- Made of its own parts. -/
theorem made_same {m n s t : Bool} {a d l l' : List Nat} {g X Y : Int} (hR : RatR m n a d) (ba : M.Bd a) (bd : M.Bd d) (r1 : M.Right s l) (i1 : M.int s l = X) (r2 : M.Right t l') (i2 : M.int t l' = Y) (hg : g.natAbs = Nat.gcd (M.val a) (M.val d)) (hx : X * g = M.int m a) (hy : Y * g = M.int n d) (hs : g < 0 ↔ M.int n d < 0) : (s = m ∧ l = a) ∧ (t = n ∧ l' = d) := by
  have hp := hR.pos
  have g1 : g = 1 := by rw [hR.low] at hg; omega
  subst g1
  exact ⟨M.int_inj r1 (hR.ra.right ba) (by omega), M.int_inj r2 (hR.rd.right bd) (by omega)⟩

theorem int_ne {s : Bool} {l : List Nat} (h : R s l) (h0 : 0 < l.length) : M.int s l ≠ 0 := by
  have hp := M.val_pos h.tr (fun e => by rw [e] at h0; simp at h0)
  intro e
  rw [← M.natAbs_int s l, e] at hp
  simp at hp

/-- Made of its parts, both times the same. -/
theorem made_times {m n s t q : Bool} {a d b l l' : List Nat} {g X Y : Int} (hR : RatR m n a d) (ba : M.Bd a) (bd : M.Bd d) (hb : R q b) (hb0 : 0 < b.length) (r1 : M.Right s l) (i1 : M.int s l = X) (r2 : M.Right t l') (i2 : M.int t l' = Y) (hg : g.natAbs = Nat.gcd (M.int m a * M.int q b).natAbs (M.int q b * M.int n d).natAbs) (hx : X * g = M.int m a * M.int q b) (hy : Y * g = M.int q b * M.int n d) (hs : g < 0 ↔ M.int q b * M.int n d < 0) : (s = m ∧ l = a) ∧ (t = n ∧ l' = d) := by
  have hp := hR.pos
  have hq := int_ne hb hb0
  have g1 : g = M.int q b := by
    rw [Int.natAbs_mul, Int.natAbs_mul, Nat.mul_comm (M.int m a).natAbs, Nat.gcd_mul_left, M.natAbs_int m a, M.natAbs_int n d, hR.low, Nat.mul_one] at hg
    generalize M.int q b = B at *
    rcases Int.lt_trichotomy B 0 with h | h | h
    · have := hs.2 (Int.mul_neg_of_neg_of_pos h hp); omega
    · exact absurd h hq
    · have h9 := Int.mul_pos h hp
      have : ¬ g < 0 := fun h8 => by have := hs.1 h8; omega
      omega
  subst g1
  have e1 : X = M.int m a := Int.eq_of_mul_eq_mul_right hq hx
  have e2 : Y = M.int n d := Int.eq_of_mul_eq_mul_right hq (by rw [hy, Int.mul_comm])
  exact ⟨M.int_inj r1 (hR.ra.right ba) (by omega), M.int_inj r2 (hR.rd.right bd) (by omega)⟩

theorem prod_pos {s q n m : Bool} {l b d a : List Nat} (_h : M.Right s l) (hv : M.int s l = M.int q b * M.int n d) (hb : R q b) (hb0 : 0 < b.length) (hR : RatR m n a d) : 0 < l.length := by
  apply Classical.byContradiction
  intro h
  have : l = [] := List.length_eq_zero_iff.1 (by omega)
  subst this
  have h1 := Int.mul_ne_zero (int_ne hb hb0) (Int.ne_of_gt hR.pos)
  rw [← hv] at h1
  apply h1
  cases s <;> simp [M.int, M.val]

set_option maxHeartbeats 4000000 in
theorem rlow_any (m n mb : Bool) (aoa aob ab : Option Addr) (ka ca kb cb lb cc : Nat) (a d b : List Nat) (w : World) (ha : Sl w (.slice aoa ka ca) a) (hd : Sl w (.slice aob kb cb) d) (hb : Sl w (.slice ab lb cc) b) (hla : a.length ≤ 9223372036854775807) (hld : d.length ≤ 9223372036854775807) (hlb : b.length ≤ 9223372036854775807) :
    Calls Try.prog 4 #[.agg #[.bool m, .slice aoa ka ca, .bool n, .slice aob kb cb], .agg #[.bool mb, .slice ab lb cc]] w fun e w' => e = .returned (.bool true) ∧ Kept w w' := by
  have HA : Hid (Sl w (.slice aoa ka ca) a ∧ Sl w (.slice aob kb cb) d ∧ Sl w (.slice ab lb cc) b ∧ a.length ≤ 9223372036854775807 ∧ d.length ≤ 9223372036854775807 ∧ b.length ≤ 9223372036854775807) := ⟨ha, hd, hb, hla, hld, hlb⟩
  have ea := ha.len
  have ed := hd.len
  have eb := hb.len
  have HE : Hid (ka = a.length ∧ kb = d.length ∧ lb = b.length) := ⟨ea, ed, eb⟩
  clear ha hd hb hla hld hlb ea ed eb
  go_enter Try.func4, Try.ntmps4
  go_wp2_with fail
  refine (awake_yes _).mono ?_
  rintro e w1 ⟨rfl, hk⟩
  have Hr := hid' ((RRow.alloc w (.bool m) (.slice aoa ka ca) (.bool n) (.slice aob kb cb)).kept (((Kept.refl _).alloc _).trans hk))
  have Hb0 := (IRow.alloc (w.alloc (.cells #[.bool m, .slice aoa ka ca, .bool n, .slice aob kb cb] 26)) (.bool mb) (.slice ab lb cc)).kept hk
  simp only [World.size_alloc] at Hb0
  have Hb := hid' Hb0
  have HK := hid' ((((Kept.refl w).alloc _).alloc _).trans hk)
  clear hk Hb0
  have f0 := Hr.out.c0
  have f1 := Hr.out.c1
  have f2 := Hr.out.c2
  have f3 := Hr.out.c3
  go_wp2_with fail
  refine (Fault_any m n aoa aob ka ca kb cb a d _ (HA.out.1.kept (HK.out.trans (Kept.refl w1))) (HA.out.2.1.kept (HK.out.trans (Kept.refl w1))) HA.out.2.2.2.1 HA.out.2.2.2.2.1).mono ?_
  rintro e w2 ⟨hk, c, rfl, hc⟩
  clear f0 f1 f2 f3
  have Hr := hid' (Hr.out.kept ((Kept.refl w1).trans hk))
  have Hb := hid' (Hb.out.kept ((Kept.refl w1).trans hk))
  have HK := hid' (HK.out.trans ((Kept.refl w1).trans hk))
  clear hk
  rcases hc with ⟨rfl, hc⟩ | ⟨rfl, hc⟩ | ⟨rfl, hc⟩
  · clear hc
    go_wp2
    go_ret
    exact ⟨rfl, HK.out⟩
  · clear hc
    go_wp2
    go_ret
    exact ⟨rfl, HK.out⟩
  have HR := hid' hc
  clear hc
  by_cases hrb : R mb b
  · have HN := hid' hrb
    clear hrb
    have f0 := Hb.out.c0
    have f1 := Hb.out.c1
    go_wp2_with fail
    refine (right_yes mb _ b _ (HA.out.2.2.1.kept (HK.out.trans (Kept.refl w2))) HN.out).mono ?_
    rintro e w3 ⟨rfl, hk⟩
    clear f0 f1
    have Hr := hid' (Hr.out.kept ((Kept.refl w2).trans hk))
    have Hb := hid' (Hb.out.kept ((Kept.refl w2).trans hk))
    have HK := hid' (HK.out.trans ((Kept.refl w2).trans hk))
    clear hk
    have l1 : ka ≤ 72 := by rw [HE.out.1]; exact HR.out.ra.1
    have l2 : kb ≤ 72 := by rw [HE.out.2.1]; exact HR.out.rd.1
    have l3 : lb ≤ 72 := by rw [HE.out.2.2]; exact HN.out.1
    have f2 := Hr.out.c0
    have f3 := Hr.out.c1
    have f4 := Hr.out.c2
    have f5 := Hr.out.c3
    have f6 := Hb.out.c0
    have f7 := Hb.out.c1
    by_cases h0 : lb = 0
    · subst h0
      go_wp2
      go_ret
      exact ⟨rfl, HK.out⟩
    have h1 : ((lb : Int) == 0) = false := by simp; omega
    by_cases hs : 60 < ka + kb + lb
    · go_wp2
      go_ret
      exact ⟨rfl, HK.out⟩
    have h2 : ka + kb + lb ≤ 60 := by omega
    have HS : Hid (a.length + b.length ≤ 60 ∧ b.length + d.length ≤ 60 ∧ 0 < b.length) := by have h := HE.out; show _ ∧ _; omega
    clear hs
    clear h0
    clear f2 f3 f4 f5 f6 f7
    have HM1 : Hid ((M.int m a * M.int mb b).natAbs < M.W72) := fits_mul' HA.out.1.bd HA.out.2.2.1.bd HS.out.1
    have HM2 : Hid ((M.int mb b * M.int n d).natAbs < M.W72) := fits_mul' HA.out.2.2.1.bd HA.out.2.1.bd HS.out.2.1
    have HD0 : Hid (0 < d.length) := len_pos HR.out.pos
    have f8 := Hr.out.c0
    have f9 := Hr.out.c1
    have f10 := Hr.out.c2
    have f11 := Hr.out.c3
    have f12 := Hb.out.c0
    have f13 := Hb.out.c1
    go_wp2_with fail
    refine (Make_ok m n aoa aob ka ca kb cb a d _ (HA.out.1.kept (HK.out.trans (Kept.refl w3))) (HA.out.2.1.kept (HK.out.trans (Kept.refl w3))) HR.out.ra HR.out.rd HD0.out).mono ?_
    rintro e w4 ⟨hk, v4, X4, Y4, rfl, ⟨s4, ao4, k4, c4, x4, t4, ap4, k4', c4', y4, rfl, n4, r4, i4, n4', r4', i4', R4⟩, g4, hg4, hx4, hy4, hs4⟩
    have Hr := hid' (Hr.out.kept ((Kept.refl w3).trans hk))
    have Hb := hid' (Hb.out.kept ((Kept.refl w3).trans hk))
    have HK := hid' (HK.out.trans ((Kept.refl w3).trans hk))
    obtain ⟨⟨rfl, rfl⟩, rfl, rfl⟩ := made_same HR.out HA.out.1.bd HA.out.2.1.bd r4 i4 r4' i4' hg4 hx4 hy4 hs4
    have HN4 : Hid (Sl w4 (.slice ao4 k4 c4) x4 ∧ Sl w4 (.slice ap4 k4' c4') y4) := ⟨n4.sl, n4'.sl⟩
    clear n4 r4 i4 n4' r4' i4' R4 hg4 hx4 hy4 hs4
    clear hk
    have f14 := fun x => (Hr.out.kept ((Kept.refl w4).alloc x)).c0
    have f15 := fun x => (Hr.out.kept ((Kept.refl w4).alloc x)).c1
    have f16 := fun x => (Hr.out.kept ((Kept.refl w4).alloc x)).c2
    have f17 := fun x => (Hr.out.kept ((Kept.refl w4).alloc x)).c3
    have f18 := fun x => (Hb.out.kept ((Kept.refl w4).alloc x)).c0
    have f19 := fun x => (Hb.out.kept ((Kept.refl w4).alloc x)).c1
    go_wp2_with fail
    refine (mul_any s4 mb (.slice aoa ka ca) (.slice ab lb cc) x4 b _ (HA.out.1.kept (HK.out.trans ((Kept.refl w4).alloc _))) (HA.out.2.2.1.kept (HK.out.trans ((Kept.refl w4).alloc _))) HR.out.ra HN.out).mono ?_
    rintro e w5 ⟨hk, s5, ao5, k5, c5, e5, rfl, hf5⟩
    clear f14 f15 f16 f17 f18 f19
    have Hv := hid' ((RRow.alloc w4 (.bool s4) (.slice ao4 k4 c4) (.bool t4) (.slice ap4 k4' c4')).kept hk)
    have Hr := hid' (Hr.out.kept (((Kept.refl w4).alloc _).trans hk))
    have Hb := hid' (Hb.out.kept (((Kept.refl w4).alloc _).trans hk))
    have HK := hid' (HK.out.trans (((Kept.refl w4).alloc _).trans hk))
    have HN4 := hid' (And.intro (HN4.out.1.kept (((Kept.refl w4).alloc _).trans hk)) (HN4.out.2.kept (((Kept.refl w4).alloc _).trans hk)))
    obtain ⟨rfl, l5, n5, r5, i5⟩ := fin_fits hf5 HM1.out
    have HN5 : Hid (Sl w5 (.slice ao5 k5 c5) l5 ∧ M.Right s5 l5 ∧ M.int s5 l5 = M.int s4 x4 * M.int mb b) := ⟨n5.sl, r5, i5⟩
    clear hf5 n5 r5 i5
    clear hk
    have f20 := fun x => (Hr.out.kept ((Kept.refl w5).alloc x)).c0
    have f21 := fun x => (Hr.out.kept ((Kept.refl w5).alloc x)).c1
    have f22 := fun x => (Hr.out.kept ((Kept.refl w5).alloc x)).c2
    have f23 := fun x => (Hr.out.kept ((Kept.refl w5).alloc x)).c3
    have f24 := fun x => (Hb.out.kept ((Kept.refl w5).alloc x)).c0
    have f25 := fun x => (Hb.out.kept ((Kept.refl w5).alloc x)).c1
    have f26 := fun x => (Hv.out.kept ((Kept.refl w5).alloc x)).c0
    have f27 := fun x => (Hv.out.kept ((Kept.refl w5).alloc x)).c1
    have f28 := fun x => (Hv.out.kept ((Kept.refl w5).alloc x)).c2
    have f29 := fun x => (Hv.out.kept ((Kept.refl w5).alloc x)).c3
    go_wp2_with fail
    refine (mul_any mb t4 (.slice ab lb cc) (.slice aob kb cb) b y4 _ (HA.out.2.2.1.kept (HK.out.trans ((Kept.refl w5).alloc _))) (HA.out.2.1.kept (HK.out.trans ((Kept.refl w5).alloc _))) HN.out HR.out.rd).mono ?_
    rintro e w6 ⟨hk, s6, ao6, k6, c6, e6, rfl, hf6⟩
    clear f20 f21 f22 f23 f24 f25 f26 f27 f28 f29
    have Hx := hid' ((IRow.alloc w5 (.bool s5) (.slice ao5 k5 c5)).kept hk)
    have Hr := hid' (Hr.out.kept (((Kept.refl w5).alloc _).trans hk))
    have Hb := hid' (Hb.out.kept (((Kept.refl w5).alloc _).trans hk))
    have Hv := hid' (Hv.out.kept (((Kept.refl w5).alloc _).trans hk))
    have HK := hid' (HK.out.trans (((Kept.refl w5).alloc _).trans hk))
    have HN4 := hid' (And.intro (HN4.out.1.kept (((Kept.refl w5).alloc _).trans hk)) (HN4.out.2.kept (((Kept.refl w5).alloc _).trans hk)))
    have HN5 := hid' (And.intro (HN5.out.1.kept (((Kept.refl w5).alloc _).trans hk)) HN5.out.2)
    obtain ⟨rfl, l6, n6, r6, i6⟩ := fin_fits hf6 HM2.out
    have HN6 : Hid (Sl w6 (.slice ao6 k6 c6) l6 ∧ M.Right s6 l6 ∧ M.int s6 l6 = M.int mb b * M.int t4 y4) := ⟨n6.sl, r6, i6⟩
    clear hf6 n6 r6 i6
    clear hk
    have HLL : Hid (x4.length ≤ 1000 ∧ y4.length ≤ 1000) := ⟨by have := HR.out.ra.1; omega, by have := HR.out.rd.1; omega⟩
    have HL6 : Hid (0 < l6.length) := prod_pos HN6.out.2.1 HN6.out.2.2 HN.out HS.out.2.2 HR.out
    have f30 := fun x => (Hr.out.kept ((Kept.refl w6).alloc x)).c0
    have f31 := fun x => (Hr.out.kept ((Kept.refl w6).alloc x)).c1
    have f32 := fun x => (Hr.out.kept ((Kept.refl w6).alloc x)).c2
    have f33 := fun x => (Hr.out.kept ((Kept.refl w6).alloc x)).c3
    have f34 := fun x => (Hb.out.kept ((Kept.refl w6).alloc x)).c0
    have f35 := fun x => (Hb.out.kept ((Kept.refl w6).alloc x)).c1
    have f36 := fun x => (Hv.out.kept ((Kept.refl w6).alloc x)).c0
    have f37 := fun x => (Hv.out.kept ((Kept.refl w6).alloc x)).c1
    have f38 := fun x => (Hv.out.kept ((Kept.refl w6).alloc x)).c2
    have f39 := fun x => (Hv.out.kept ((Kept.refl w6).alloc x)).c3
    have f40 := fun x => (Hx.out.kept ((Kept.refl w6).alloc x)).c0
    have f41 := fun x => (Hx.out.kept ((Kept.refl w6).alloc x)).c1
    go_wp2_with fail
    refine (Make_ok s5 s6 ao5 ao6 k5 c5 k6 c6 l5 l6 _ (HN5.out.1.kept ((Kept.refl w6).alloc _)) (HN6.out.1.kept ((Kept.refl w6).alloc _)) (R.of_right HN5.out.2.1) (R.of_right HN6.out.2.1) HL6.out).mono ?_
    rintro e w7 ⟨hk, v7, X7, Y7, rfl, ⟨s7, ao7, k7, c7, x7, t7, ap7, k7', c7', y7, rfl, n7, r7, i7, n7', r7', i7', R7⟩, g7, hg7, hx7, hy7, hs7⟩
    clear f30 f31 f32 f33 f34 f35 f36 f37 f38 f39 f40 f41
    have Hy := hid' ((IRow.alloc w6 (.bool s6) (.slice ao6 k6 c6)).kept hk)
    have Hr := hid' (Hr.out.kept (((Kept.refl w6).alloc _).trans hk))
    have Hb := hid' (Hb.out.kept (((Kept.refl w6).alloc _).trans hk))
    have Hv := hid' (Hv.out.kept (((Kept.refl w6).alloc _).trans hk))
    have Hx := hid' (Hx.out.kept (((Kept.refl w6).alloc _).trans hk))
    have HK := hid' (HK.out.trans (((Kept.refl w6).alloc _).trans hk))
    have HN4 := hid' (And.intro (HN4.out.1.kept (((Kept.refl w6).alloc _).trans hk)) (HN4.out.2.kept (((Kept.refl w6).alloc _).trans hk)))
    have HN5 := hid' (And.intro (HN5.out.1.kept (((Kept.refl w6).alloc _).trans hk)) HN5.out.2)
    have HN6 := hid' (And.intro (HN6.out.1.kept (((Kept.refl w6).alloc _).trans hk)) HN6.out.2)
    rw [HN5.out.2.2] at hx7
    rw [HN6.out.2.2] at hy7 hs7
    rw [← M.natAbs_int s5 l5, ← M.natAbs_int s6 l6, HN5.out.2.2, HN6.out.2.2] at hg7
    obtain ⟨⟨rfl, rfl⟩, rfl, rfl⟩ := made_times HR.out HA.out.1.bd HA.out.2.1.bd HN.out HS.out.2.2 r7 i7 r7' i7' hg7 hx7 hy7 hs7
    have HN7 : Hid (Sl w7 (.slice ao7 k7 c7) x7 ∧ Sl w7 (.slice ap7 k7' c7') y7) := ⟨n7.sl, n7'.sl⟩
    clear n7 r7 i7 n7' r7' i7' R7 hg7 hx7 hy7 hs7
    clear hk
    have f42 := fun x => (Hr.out.kept ((Kept.refl w7).alloc x)).c0
    have f43 := fun x => (Hr.out.kept ((Kept.refl w7).alloc x)).c1
    have f44 := fun x => (Hr.out.kept ((Kept.refl w7).alloc x)).c2
    have f45 := fun x => (Hr.out.kept ((Kept.refl w7).alloc x)).c3
    have f46 := fun x => (Hv.out.kept ((Kept.refl w7).alloc x)).c0
    have f47 := fun x => (Hv.out.kept ((Kept.refl w7).alloc x)).c1
    have f48 := fun x => (Hv.out.kept ((Kept.refl w7).alloc x)).c2
    have f49 := fun x => (Hv.out.kept ((Kept.refl w7).alloc x)).c3
    go_wp2_with fail
    refine (lsame_r s7 t7 _ _ _ _ x7 y7 _ (HN4.out.1.kept ((Kept.refl w7).alloc _)) (HN4.out.2.kept ((Kept.refl w7).alloc _)) (HA.out.1.kept (HK.out.trans ((Kept.refl w7).alloc _))) (HA.out.2.1.kept (HK.out.trans ((Kept.refl w7).alloc _))) HLL.out.1 HLL.out.2).mono ?_
    rintro e w8 ⟨rfl, hk⟩
    clear f42 f43 f44 f45 f46 f47 f48 f49
    have Hu := hid' ((RRow.alloc w7 (.bool s7) (.slice ao7 k7 c7) (.bool t7) (.slice ap7 k7' c7')).kept hk)
    have Hr := hid' (Hr.out.kept (((Kept.refl w7).alloc _).trans hk))
    have Hb := hid' (Hb.out.kept (((Kept.refl w7).alloc _).trans hk))
    have Hv := hid' (Hv.out.kept (((Kept.refl w7).alloc _).trans hk))
    have Hx := hid' (Hx.out.kept (((Kept.refl w7).alloc _).trans hk))
    have Hy := hid' (Hy.out.kept (((Kept.refl w7).alloc _).trans hk))
    have HK := hid' (HK.out.trans (((Kept.refl w7).alloc _).trans hk))
    have HN4 := hid' (And.intro (HN4.out.1.kept (((Kept.refl w7).alloc _).trans hk)) (HN4.out.2.kept (((Kept.refl w7).alloc _).trans hk)))
    have HN5 := hid' (And.intro (HN5.out.1.kept (((Kept.refl w7).alloc _).trans hk)) HN5.out.2)
    have HN6 := hid' (And.intro (HN6.out.1.kept (((Kept.refl w7).alloc _).trans hk)) HN6.out.2)
    have HN7 := hid' (And.intro (HN7.out.1.kept (((Kept.refl w7).alloc _).trans hk)) (HN7.out.2.kept (((Kept.refl w7).alloc _).trans hk)))
    clear hk
    have f50 := Hr.out.c0
    have f51 := Hr.out.c1
    have f52 := Hr.out.c2
    have f53 := Hr.out.c3
    have f54 := Hv.out.c0
    have f55 := Hv.out.c1
    have f56 := Hv.out.c2
    have f57 := Hv.out.c3
    have f58 := Hu.out.c0
    have f59 := Hu.out.c1
    have f60 := Hu.out.c2
    have f61 := Hu.out.c3
    go_wp2_with fail
    refine (lsame_r s7 t7 _ _ _ _ x7 y7 _ (HN7.out.1.kept (Kept.refl w8)) (HN7.out.2.kept (Kept.refl w8)) (HA.out.1.kept (HK.out.trans (Kept.refl w8))) (HA.out.2.1.kept (HK.out.trans (Kept.refl w8))) HLL.out.1 HLL.out.2).mono ?_
    rintro e w9 ⟨rfl, hk⟩
    clear f50 f51 f52 f53 f54 f55 f56 f57 f58 f59 f60 f61
    have Hr := hid' (Hr.out.kept ((Kept.refl w8).trans hk))
    have Hb := hid' (Hb.out.kept ((Kept.refl w8).trans hk))
    have Hv := hid' (Hv.out.kept ((Kept.refl w8).trans hk))
    have Hx := hid' (Hx.out.kept ((Kept.refl w8).trans hk))
    have Hy := hid' (Hy.out.kept ((Kept.refl w8).trans hk))
    have Hu := hid' (Hu.out.kept ((Kept.refl w8).trans hk))
    have HK := hid' (HK.out.trans ((Kept.refl w8).trans hk))
    have HN4 := hid' (And.intro (HN4.out.1.kept ((Kept.refl w8).trans hk)) (HN4.out.2.kept ((Kept.refl w8).trans hk)))
    have HN5 := hid' (And.intro (HN5.out.1.kept ((Kept.refl w8).trans hk)) HN5.out.2)
    have HN6 := hid' (And.intro (HN6.out.1.kept ((Kept.refl w8).trans hk)) HN6.out.2)
    have HN7 := hid' (And.intro (HN7.out.1.kept ((Kept.refl w8).trans hk)) (HN7.out.2.kept ((Kept.refl w8).trans hk)))
    clear hk
    have f62 := Hv.out.c0
    have f63 := Hv.out.c1
    have f64 := Hv.out.c2
    have f65 := Hv.out.c3
    go_wp2_with fail
    refine (Check_ok s7 t7 ao4 ap4 k4 c4 k4' c4' x7 y7 _ (HN4.out.1.kept (Kept.refl w9)) (HN4.out.2.kept (Kept.refl w9)) HR.out).mono ?_
    rintro e w10 ⟨rfl, hk⟩
    clear f62 f63 f64 f65
    have Hr := hid' (Hr.out.kept ((Kept.refl w9).trans hk))
    have Hb := hid' (Hb.out.kept ((Kept.refl w9).trans hk))
    have Hv := hid' (Hv.out.kept ((Kept.refl w9).trans hk))
    have Hx := hid' (Hx.out.kept ((Kept.refl w9).trans hk))
    have Hy := hid' (Hy.out.kept ((Kept.refl w9).trans hk))
    have Hu := hid' (Hu.out.kept ((Kept.refl w9).trans hk))
    have HK := hid' (HK.out.trans ((Kept.refl w9).trans hk))
    have HN4 := hid' (And.intro (HN4.out.1.kept ((Kept.refl w9).trans hk)) (HN4.out.2.kept ((Kept.refl w9).trans hk)))
    have HN5 := hid' (And.intro (HN5.out.1.kept ((Kept.refl w9).trans hk)) HN5.out.2)
    have HN6 := hid' (And.intro (HN6.out.1.kept ((Kept.refl w9).trans hk)) HN6.out.2)
    have HN7 := hid' (And.intro (HN7.out.1.kept ((Kept.refl w9).trans hk)) (HN7.out.2.kept ((Kept.refl w9).trans hk)))
    clear hk
    go_wp2
    go_ret
    exact ⟨rfl, HK.out⟩
  · have HN := hid' hrb
    clear hrb
    have f0 := Hb.out.c0
    have f1 := Hb.out.c1
    go_wp2_with fail
    refine (right_no mb _ b _ (HA.out.2.2.1.kept (HK.out.trans (Kept.refl w2))) HA.out.2.2.2.2.2 HN.out).mono ?_
    rintro e w3 ⟨rfl, hk⟩
    clear f0 f1
    have Hr := hid' (Hr.out.kept ((Kept.refl w2).trans hk))
    have Hb := hid' (Hb.out.kept ((Kept.refl w2).trans hk))
    have HK := hid' (HK.out.trans ((Kept.refl w2).trans hk))
    clear hk
    go_wp2
    go_ret
    exact ⟨rfl, HK.out⟩

end F
end Go.Proofs.Ytbingbnndmmjbaa
