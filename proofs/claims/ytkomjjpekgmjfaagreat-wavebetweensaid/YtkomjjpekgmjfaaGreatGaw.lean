/- Plain mathematics of corners. Plain mathematics: what a wave says lies between the least and the greatest of its values; num.Cmp by U. shuntlaw04.WaveBetween. -/
import Derived.Test.YtkomjjpekgmjfaaGreatGav
import Derived.Test.YtkomjjpekgmjfaaGreatGao
namespace Go.Proofs.YtkomjjpekgmjfaaGreat
open Go.RowKit
namespace V
end V
end Go.Proofs.YtkomjjpekgmjfaaGreat

namespace Go.Proofs.YtkomjjpekgmjfaaGreat
open Go.RowKit
namespace V
open Q (okN okN_bd Scl)
theorem bet_lev {lo hi : Int} {p : Int × Int} (h1 : lo ≤ U p.1 p.2) (h2 : U p.1 p.2 ≤ hi) : F.near lo 1000000000 ≤ lev p ∧ lev p ≤ F.near hi 1000000000 :=
 ⟨near_up (by decide) (by decide) (Int.mul_le_mul_of_nonneg_right h1 (by omega)), near_up (by decide) (by decide) (Int.mul_le_mul_of_nonneg_right h2 (by omega))⟩
theorem bet_seg {lo hi g L : Int} {p q : Int × Int} (h1 : lo ≤ U p.1 p.2) (h2 : U p.1 p.2 ≤ hi) (h3 : lo ≤ U q.1 q.2) (h4 : U q.1 q.2 ≤ hi) (hg : 0 ≤ g) (hL : g < L) : F.near lo 1000000000 ≤ seg p q g L ∧ seg p q g L ≤ F.near hi 1000000000 := by
 have hl : (L.toNat : Int) = L := Int.toNat_of_nonneg (by omega)
 have pos : 0 < L.toNat * 1000000000 := Nat.mul_pos (by omega) (by decide)
 have a1 := Int.mul_le_mul_of_nonneg_right h1 (show 0 ≤ L - g by omega)
 have a2 := Int.mul_le_mul_of_nonneg_right h2 (show 0 ≤ L - g by omega)
 have b1 := Int.mul_le_mul_of_nonneg_right h3 hg
 have b2 := Int.mul_le_mul_of_nonneg_right h4 hg
 have el : lo * L = lo * (L - g) + lo * g := by rw [← Int.mul_add]; congr 1; omega
 have eh : hi * L = hi * (L - g) + hi * g := by rw [← Int.mul_add]; congr 1; omega
 unfold seg
 constructor
 ·
  refine near_up (by decide) pos ?_
  rw [Int.natCast_mul, hl, ← Int.mul_assoc]
  exact Int.mul_le_mul_of_nonneg_right (by rw [el]; omega) (by omega)
 ·
  refine near_up pos (by decide) ?_
  rw [Int.natCast_mul, hl, ← Int.mul_assoc]
  exact Int.mul_le_mul_of_nonneg_right (by rw [eh]; omega) (by omega)
theorem bet_wave {k : Int} {vs : List (Int × Int)} {ss : List Int} {t lo hi : Int} (h : okW k vs ss = true) (hv : ∀ i, i < vs.length → lo ≤ U (vs.getD i (0, 0)).1 (vs.getD i (0, 0)).2 ∧ U (vs.getD i (0, 0)).1 (vs.getD i (0, 0)).2 ≤ hi) : F.near lo 1000000000 ≤ sayW k vs ss t ∧ sayW k vs ss t ≤ F.near hi 1000000000 := by
 unfold sayW
 by_cases k2 : k = 2
 ·
  subst k2
  obtain ⟨lv, _, hp⟩ := okW_pul h
  have p0 := hv 0 (by omega)
  have p1 := hv 1 (by omega)
  have u0 := Int.emod_nonneg (t - ss.getD 0 0) (show ss.getD 4 0 ≠ 0 by have := hp.p0; omega)
  rw [if_pos rfl]
  unfold sayP
  split
  ·
   exact bet_lev p0.1 p0.2
  ·
   split
   ·
    exact bet_seg p0.1 p0.2 p1.1 p1.2 u0 (by assumption)
   ·
    split
    ·
     exact bet_lev p1.1 p1.2
    ·
     split
     ·
      exact bet_seg p1.1 p1.2 p0.1 p0.2 (by omega) (by omega)
     ·
      exact bet_lev p0.1 p0.2
 rw [if_neg k2]
 by_cases k3 : k = 3
 ·
  subst k3
  have hf := fits3 (okW_parts h).1
  rw [if_pos rfl]
  unfold sayQ
  have hle := fa_le ss t
  split
  ·
   have p := hv (vs.length - 1) (by omega)
   exact bet_lev p.1 p.2
  ·
   split
   ·
    have p := hv 0 (by omega)
    exact bet_lev p.1 p.2
   ·
    have p := hv (fa ss t - 1) (by omega)
    have q := hv (fa ss t) (by omega)
    have b := fa_below (l := ss) (t := t) (j := fa ss t - 1) (by omega)
    have a := fa_at (l := ss) (t := t) (by omega)
    exact bet_seg p.1 p.2 q.1 q.2 (by omega) (by omega)
 ·
  rw [if_neg k3]
  have hl := fits_len (okW_parts h).1
  have m0 := Int.emod_nonneg t (show (vs.length : Int) ≠ 0 by omega)
  have m1 := Int.emod_lt_of_pos t (show (0 : Int) < vs.length by omega)
  have p := hv (t % vs.length).toNat (by omega)
  exact bet_lev p.1 p.2
theorem isgn_scale {a b a' b' c d : Int} (hc : 0 < c) (hd : 0 < d) (h1 : a * c = a' * d) (h2 : b * c = b' * d) : isgn a b = isgn a' b' := by
 have e1 : a < b ↔ a' < b' := by
  constructor
  ·
   intro h
   have := Int.mul_lt_mul_of_pos_right h hc
   rw [h1, h2] at this
   exact Int.lt_of_mul_lt_mul_right this (by omega)
  ·
   intro h
   have := Int.mul_lt_mul_of_pos_right h hd
   rw [← h1, ← h2] at this
   exact Int.lt_of_mul_lt_mul_right this (by omega)
 have e2 : a = b ↔ a' = b' := by
  constructor
  ·
   intro h
   subst h
   exact Int.eq_of_mul_eq_mul_right (show d ≠ 0 by omega) (h1.symm.trans h2)
  ·
   intro h
   subst h
   exact Int.eq_of_mul_eq_mul_right (show c ≠ 0 by omega) (h1.trans h2.symm)
 unfold isgn
 simp only [e1, e2]
theorem cmp_u (m x m' x' : Int) (h : okN m x = true) (h' : okN m' x' = true) (w : World) :
  Calls Tryz.prog 18 #[.agg #[.int .i64 m, .int .i64 x], .agg #[.int .i64 m', .int .i64 x']] w fun e w' => Kept w w' ∧ e = .returned (.tuple #[.int .i64 (isgn (U m x) (U m' x')), .int .i64 0]) := by
 refine (Q.cmp_any m x m' x' w).mono ?_
 rintro e w' ⟨hk, ⟨h0, _⟩ | ⟨_, N, D, N', D', s, s', rfl⟩⟩
 ·
  exact absurd ⟨h, h'⟩ h0
 ·
  refine ⟨hk, ?_⟩
  have e1 := scl_u (okN_bd h).2.2.1 s
  have e2 := scl_u (okN_bd h').2.2.1 s'
  have p1 := s.1
  have p2 := s'.1
  rw [isgn_scale (a := N * D') (b := N' * D) (a' := U m x) (b' := U m' x') (c := ((10 ^ 18 : Nat) : Int)) (d := (D : Int) * D') (by decide) (Int.mul_pos (by omega) (by omega)) (by rw [Int.mul_right_comm, e1, Int.mul_assoc]) (by rw [Int.mul_right_comm, e2, Int.mul_assoc, Int.mul_comm (D' : Int)])]
end V
end Go.Proofs.YtkomjjpekgmjfaaGreat

namespace Go.Proofs.YtkomjjpekgmjfaaGreat
open Go.RowKit
namespace V
open Q (hid' Row3 Row2 okN)
theorem grid_alt {z g e : Int} (hg : g = F.gridV z) (he : e = F.gridE z) : (e = 0 ∧ z = g ∧ -1000000000000000000 ≤ z ∧ z ≤ 1000000000000000000) ∨ (e = 4 ∧ g = 0) := by
 unfold F.gridV at hg
 unfold F.gridE at he
 by_cases h : -1000000000000000000 ≤ z ∧ z ≤ 1000000000000000000
 ·
  rw [if_pos h] at hg he
  exact .inl ⟨he, hg.symm, h.1, h.2⟩
 ·
  rw [if_neg h] at hg he
  exact .inr ⟨he, hg⟩
theorem isgn_neg {a b s : Int} (h : s = isgn a b) : (s < 0 → a < b) ∧ (¬ s < 0 → b ≤ a) := by
 unfold isgn at h
 split at h
 ·
  exact ⟨fun _ => by assumption, fun h' => absurd (by omega) h'⟩
 ·
  exact ⟨fun h' => by split at h <;> omega, fun _ => by omega⟩
theorem isgn_pos {a b s : Int} (h : s = isgn a b) : (0 < s → b < a) ∧ (¬ 0 < s → a ≤ b) := by
 unfold isgn at h
 split at h
 ·
  exact ⟨fun h' => by omega, fun _ => by omega⟩
 ·
  split at h
  ·
   exact ⟨fun h' => by omega, fun _ => by omega⟩
  ·
   exact ⟨fun _ => by omega, fun h' => absurd (by omega) h'⟩
structure BInv (w wr : World) (p1 pl ph : Nat) (k : Int) (a1 a2 : Option Addr) (n c m c' : Nat) (vs : List (Int × Int)) (l0 l1 g0 g1 : Int) (j : Nat) : Prop where
 kp : Kept w wr
 row : Row3 25 wr p1 (.int .i64 k) (.slice a1 n c) (.slice a2 m c')
 rl : Row2 39 wr pl (.int .i64 l0) (.int .i64 l1)
 rh : Row2 39 wr ph (.int .i64 g0) (.int .i64 g1)
 gl : w.heap.size ≤ pl
 gh : w.heap.size ≤ ph
 ne : ¬ pl = ph
 n1 : ¬ p1 = pl
 n2 : ¬ p1 = ph
 ol : okN l0 l1 = true
 oh : okN g0 g1 = true
 bd : ∀ i, i < j → U l0 l1 ≤ U (vs.getD i (0, 0)).1 (vs.getD i (0, 0)).2 ∧ U (vs.getD i (0, 0)).1 (vs.getD i (0, 0)).2 ≤ U g0 g1
section
variable {w wr wr' : World} {p1 pl ph : Nat} {k : Int} {a1 a2 : Option Addr} {n c m c' : Nat} {vs : List (Int × Int)} {l0 l1 g0 g1 v0 v1 : Int} {j : Nat}
theorem BInv.kept (h : BInv w wr p1 pl ph k a1 a2 n c m c' vs l0 l1 g0 g1 j) (q : Kept wr wr') : BInv w wr' p1 pl ph k a1 a2 n c m c' vs l0 l1 g0 g1 j :=
 ⟨h.kp.trans q, h.row.kept q, h.rl.kept q, h.rh.kept q, h.gl, h.gh, h.ne, h.n1, h.n2, h.ol, h.oh, h.bd⟩
theorem row3_far {p q : Nat} {x0 x1 x2 : Value} (h : Row3 25 wr p x0 x1 x2) (hne : ¬ p = q) (x y : Value) : Row3 25 ((wr.setCell ⟨q, 0, none⟩ x).setCell ⟨q, 1, none⟩ y) p x0 x1 x2 :=
 World.rowIs.setOther (World.rowIs.setOther h hne x) hne y
theorem BInv.low (h : BInv w wr p1 pl ph k a1 a2 n c m c' vs l0 l1 g0 g1 j) (ov : okN v0 v1 = true) (hl : U v0 v1 ≤ U l0 l1) : BInv w ((wr.setCell ⟨pl, 0, none⟩ (.int .i64 v0)).setCell ⟨pl, 1, none⟩ (.int .i64 v1)) p1 pl ph k a1 a2 n c m c' vs v0 v1 g0 g1 j :=
 ⟨Q.Kept.put2 h.kp h.gl _ _, row3_far h.row h.n1 _ _, h.rl.set2 _ _, h.rh.far (fun e => h.ne e.symm) _ _, h.gl, h.gh, h.ne, h.n1, h.n2, ov, h.oh, fun i hi => ⟨Int.le_trans hl (h.bd i hi).1, (h.bd i hi).2⟩⟩
theorem BInv.high (h : BInv w wr p1 pl ph k a1 a2 n c m c' vs l0 l1 g0 g1 j) (ov : okN v0 v1 = true) (hl : U g0 g1 ≤ U v0 v1) : BInv w ((wr.setCell ⟨ph, 0, none⟩ (.int .i64 v0)).setCell ⟨ph, 1, none⟩ (.int .i64 v1)) p1 pl ph k a1 a2 n c m c' vs l0 l1 v0 v1 j :=
 ⟨Q.Kept.put2 h.kp h.gh _ _, row3_far h.row h.n2 _ _, h.rl.far h.ne _ _, h.rh.set2 _ _, h.gl, h.gh, h.ne, h.n1, h.n2, h.ol, ov, fun i hi => ⟨(h.bd i hi).1, Int.le_trans (h.bd i hi).2 hl⟩⟩
theorem BInv.next (h : BInv w wr p1 pl ph k a1 a2 n c m c' vs l0 l1 g0 g1 j) (hv : (v0, v1) = vs.getD j (0, 0)) (h1 : U l0 l1 ≤ U v0 v1) (h2 : U v0 v1 ≤ U g0 g1) : BInv w wr p1 pl ph k a1 a2 n c m c' vs l0 l1 g0 g1 (j + 1) :=
 ⟨h.kp, h.row, h.rl, h.rh, h.gl, h.gh, h.ne, h.n1, h.n2, h.ol, h.oh, fun i hi => by
  by_cases e : i = j
  ·
   subst e; rw [← hv]; exact ⟨h1, h2⟩
  ·
   exact h.bd i (by omega)⟩
theorem BInv.stepYY (h : BInv w wr p1 pl ph k a1 a2 n c m c' vs l0 l1 g0 g1 j) (hv : (v0, v1) = vs.getD j (0, 0)) (ov : okN v0 v1 = true) (hc : U v0 v1 < U l0 l1) (hd : U g0 g1 < U v0 v1) : BInv w ((((wr.setCell ⟨pl, 0, none⟩ (.int .i64 v0)).setCell ⟨pl, 1, none⟩ (.int .i64 v1)).setCell ⟨ph, 0, none⟩ (.int .i64 v0)).setCell ⟨ph, 1, none⟩ (.int .i64 v1)) p1 pl ph k a1 a2 n c m c' vs v0 v1 v0 v1 (j + 1) :=
 ((h.low ov (by omega)).high ov (by omega)).next hv (Int.le_refl _) (Int.le_refl _)
theorem BInv.stepYN (h : BInv w wr p1 pl ph k a1 a2 n c m c' vs l0 l1 g0 g1 j) (hv : (v0, v1) = vs.getD j (0, 0)) (ov : okN v0 v1 = true) (hc : U v0 v1 < U l0 l1) (hd : U v0 v1 ≤ U g0 g1) : BInv w ((wr.setCell ⟨pl, 0, none⟩ (.int .i64 v0)).setCell ⟨pl, 1, none⟩ (.int .i64 v1)) p1 pl ph k a1 a2 n c m c' vs v0 v1 g0 g1 (j + 1) :=
 (h.low ov (by omega)).next hv (Int.le_refl _) hd
theorem BInv.stepNY (h : BInv w wr p1 pl ph k a1 a2 n c m c' vs l0 l1 g0 g1 j) (hv : (v0, v1) = vs.getD j (0, 0)) (ov : okN v0 v1 = true) (hc : U l0 l1 ≤ U v0 v1) (hd : U g0 g1 < U v0 v1) : BInv w ((wr.setCell ⟨ph, 0, none⟩ (.int .i64 v0)).setCell ⟨ph, 1, none⟩ (.int .i64 v1)) p1 pl ph k a1 a2 n c m c' vs l0 l1 v0 v1 (j + 1) :=
 (h.high ov (by omega)).next hv hc (Int.le_refl _)
theorem BInv.stepNN (h : BInv w wr p1 pl ph k a1 a2 n c m c' vs l0 l1 g0 g1 j) (hv : (v0, v1) = vs.getD j (0, 0)) (hc : U l0 l1 ≤ U v0 v1) (hd : U v0 v1 ≤ U g0 g1) : BInv w wr p1 pl ph k a1 a2 n c m c' vs l0 l1 g0 g1 (j + 1) := h.next hv hc hd
end
set_option maxRecDepth 100000 in
set_option maxHeartbeats 4000000 in
theorem between_any (k : Int) (a1 a2 : Option Addr) (n c m c' : Nat) (vs : List (Int × Int)) (ss : List Int) (t : Int) (w : World) (h1 : NSl w (.slice a1 n c) vs) (h2 : ISl w (.slice a2 m c') ss) (hn : n ≤ 9223372036854775807) (hm : m ≤ 9223372036854775807) :
  Calls Tryz.prog 4 #[.agg #[.int .i64 k, .slice a1 n c, .slice a2 m c'], .int .i64 t] w fun e w' => e = .returned (.bool true) ∧ Kept w w' := by
 have HS := hid' (And.intro h1 h2)
 clear h1 h2
 go_enter Tryz.func4, Tryz.ntmps4
 go_upto_region 1 with fail
 have hK := (Kept.refl w).alloc (.cells #[.int .i64 k, .slice a1 n c, .slice a2 m c'] 25)
 have hR := Row3.alloc 25 w (.int .i64 k) (.slice a1 n c) (.slice a2 m c')
 generalize w.alloc (.cells #[.int .i64 k, .slice a1 n c, .slice a2 m c'] 25) = W at hK hR ⊢
 obtain ⟨p1, hp1⟩ : ∃ p, p = w.heap.size := ⟨_, rfl⟩
 rw [← hp1] at hR ⊢
 have HK := hid' hK
 have HR := hid' hR
 clear hp1 hK hR
 go_wp2_with fail
 refine (awake_any _).mono ?_
 rintro e w1 ⟨hk1, rfl⟩
 have HK1 := hid' (HK.out.trans hk1)
 have HR1 := hid' (HR.out.kept hk1)
 clear hk1
 have q0 := HR1.out.c0
 have q1 := HR1.out.c1
 have q2 := HR1.out.c2
 go_wp2_with fail
 refine (rvalid_any k a1 a2 n c m c' vs ss _ (HS.out.1.kept HK1.out) (HS.out.2.kept HK1.out) hn hm).mono ?_
 rintro e w2 ⟨hk2, rfl⟩
 have HK2 := hid' (HK1.out.trans hk2)
 have HR2 := hid' (HR1.out.kept hk2)
 clear hk2 q0 q1 q2
 by_cases ho : okW k vs ss = true
 ·
  have HO := hid' ho
  rw [ho]
  clear ho
  have q0 := HR2.out.c0
  have q1 := HR2.out.c1
  have q2 := HR2.out.c2
  by_cases ht0 : t < 0
  ·
   have ht0' : ¬ 0 ≤ t := by omega
   go_wp2_with fail
   all_goals
    go_ret
    exact ⟨rfl, HK2.out⟩
  by_cases ht1 : 1000000000 < t
  ·
   have ht0' : 0 ≤ t := by omega
   go_wp2_with fail
   all_goals
    go_ret
    exact ⟨rfl, HK2.out⟩
  have e0 : 0 ≤ t ∧ t ≤ 1000000000 := by omega
  have f0 : 0 ≤ t := by omega
  have f1 : t ≤ 1000000000 := by omega
  have hl := fits_len (okW_parts HO.out).1
  have hln := HS.out.1.len
  obtain ⟨ao1, cap1, hv1, hx1⟩ := HS.out.1
  simp only [Value.slice.injEq] at hv1
  obtain ⟨rfl, hl1, rfl⟩ := hv1
  obtain ⟨b1, o1, rfl, hb1, hc1⟩ := hx1 (by omega)
  have hn1 : 1 ≤ n ∧ n ≤ 16 := by omega
  have HLn := hid' hln
  have HC : Hid (b1 < w.heap.size ∧ ∀ V, Kept w V → ∀ j, j < n → V.cell? ⟨b1, o1 + j * 2, none⟩ = some (.int .i64 (vs.getD j (0, 0)).1) ∧ V.cell? ⟨b1, o1 + j * 2 + 1, none⟩ = some (.int .i64 (vs.getD j (0, 0)).2)) := ⟨hb1, fun V hV j hj => ⟨(Below.cell hV (p := ⟨b1, o1 + j * 2, none⟩) hb1).trans (hc1 j (by omega)).1, (Below.cell hV (p := ⟨b1, o1 + j * 2 + 1, none⟩) hb1).trans (hc1 j (by omega)).2⟩⟩
  obtain ⟨u0, u1⟩ := HC.out.2 w2 HK2.out 0 (by omega)
  simp only [Nat.zero_mul, Nat.add_zero] at u0 u1
  have n1 : (0 : Int) < (n : Int) := by omega
  have n1' : 0 < n := by omega
  clear hl hln hx1 hc1 hb1 hl1
  have HO0 := hid' (okN_at HO.out 0 (by have := HLn.out; omega))
  obtain ⟨y, hy⟩ : ∃ y, y = vs.getD 0 (0, 0) := ⟨_, rfl⟩
  rw [← hy] at u0 u1 HO0
  have HY := hid' hy
  clear hy
  obtain ⟨y0, y1⟩ := y
  dsimp only at u0 u1
  have g0 := HR2.out.lt
  have g0' := Nat.lt_of_lt_of_le HC.out.1 HK2.out.size
  have g1 : ¬ p1 = w2.heap.size := by omega
  have g2 : ¬ p1 = w2.heap.size + 1 := by omega
  have g3 : ¬ b1 = w2.heap.size := by omega
  have g4 : ¬ b1 = w2.heap.size + 1 := by omega
  clear g0 g0'
  go_upto_region 5 with fail
  go_cut [5, 6] (fun s5 s6 wc => ∃ pl ph : Nat, s5 = .pointer (some ⟨pl, 0, none⟩) ∧ s6 = .pointer (some ⟨ph, 0, none⟩) ∧ Hid (Kept w2 wc ∧ w2.heap.size ≤ pl ∧ w2.heap.size ≤ ph ∧ ¬ pl = ph ∧ Row2 39 wc pl (.int .i64 y0) (.int .i64 y1) ∧ Row2 39 wc ph (.int .i64 y0) (.int .i64 y1)))
  case first =>
   have HVV : Hid (∀ V, Kept w2 V → V.cell? ⟨p1, 1, none⟩ = some (.slice (some ⟨b1, o1, none⟩) n c) ∧ V.cell? ⟨b1, o1, none⟩ = some (.int .i64 y0) ∧ V.cell? ⟨b1, o1 + 1, none⟩ = some (.int .i64 y1)) := fun V hV => ⟨(HR2.out.kept hV).c1, (Below.cell hV (p := ⟨b1, o1, none⟩) (Nat.lt_of_lt_of_le HC.out.1 HK2.out.size)).trans u0, (Below.cell hV (p := ⟨b1, o1 + 1, none⟩) (Nat.lt_of_lt_of_le HC.out.1 HK2.out.size)).trans u1⟩
   have KT : Kept w2 w2.drew := (Kept.refl _).drew
   have sS := hid' (fun (V : World) (K : Kept w2 V) => And.intro ((HVV.out _ K).1) (And.intro ((HVV.out _ K).2.1) ((HVV.out _ K).2.2)))
   refine wp_region_held_drew (S := fun w' => w'.cell? ⟨p1, 1, none⟩ = some (.slice (some ⟨b1, o1, none⟩) n c) ∧ w'.cell? ⟨b1, o1, none⟩ = some (.int .i64 y0) ∧ w'.cell? ⟨b1, o1 + 1, none⟩ = some (.int .i64 y1)) (by kernel_rfl) (sS.out _ KT) (fun hHeld => ?_)
   generalize w2.drew = Wd at KT hHeld ⊢
   refine wpAnyH_take (i := 0) (v := ?vbx0x1) rfl (by kernel_rfl) (by kernel_rfl) (by kernel_rfl) (fun _ _ _ h => h) (Or.inl ⟨by rfl, ?ybx0x1⟩) hHeld ?rbx0x1
   case ybx0x1 =>
    intro w' hSw
    obtain ⟨hSw0, hSw1, hSw2⟩ := hSw
    go_simp
    with_reducible rfl
   case rbx0x1 =>
   refine wpAnyH_take (i := 1) (v := ?vbx1x2) rfl (by kernel_rfl) (by kernel_rfl) (by kernel_rfl) (fun _ _ _ h => h) (Or.inl ⟨by rfl, ?ybx1x2⟩) hHeld ?rbx1x2
   case ybx1x2 =>
    intro w' hSw
    obtain ⟨hSw0, hSw1, hSw2⟩ := hSw
    go_simp
    with_reducible rfl
   case rbx1x2 =>
   refine wpAnyH_take (i := 2) (v := ?vbx2x3) rfl (by kernel_rfl) (by kernel_rfl) (by kernel_rfl) (fun _ _ _ h => h) (Or.inl ⟨by rfl, ?ybx2x3⟩) hHeld ?rbx2x3
   case ybx2x3 =>
    intro w' hSw
    obtain ⟨hSw0, hSw1, hSw2⟩ := hSw
    go_simp
    with_reducible rfl
   case rbx2x3 =>
   refine wpAnyH_take (i := 3) (v := ?vbx3x4) rfl (by kernel_rfl) (by kernel_rfl) (by kernel_rfl) (fun _ _ _ h => h) (Or.inl ⟨by rfl, ?ybx3x4⟩) hHeld ?rbx3x4
   case ybx3x4 =>
    intro w' hSw
    obtain ⟨hSw0, hSw1, hSw2⟩ := hSw
    go_simp
    with_reducible rfl
   case rbx3x4 =>
   refine wpAnyH_take (i := 4) (v := ?vbx4x5) rfl (by kernel_rfl) (by kernel_rfl) (by kernel_rfl) (fun _ _ _ h => h) (Or.inl ⟨by rfl, ?ybx4x5⟩) hHeld ?rbx4x5
   case ybx4x5 =>
    intro w' hSw
    obtain ⟨hSw0, hSw1, hSw2⟩ := hSw
    go_simp
    with_reducible rfl
   case rbx4x5 =>
   refine wpAnyH_take (i := 5) (v := ?vbx5x6) rfl (by kernel_rfl) (by kernel_rfl) (by kernel_rfl) (fun _ _ _ h => h) (Or.inl ⟨by rfl, ?ybx5x6⟩) hHeld ?rbx5x6
   case ybx5x6 =>
    intro w' hSw
    obtain ⟨hSw0, hSw1, hSw2⟩ := hSw
    go_simp
    with_reducible rfl
   case rbx5x6 =>
   refine wpAnyH_take (i := 6) (v := ?vbx6x7) rfl (by kernel_rfl) (by kernel_rfl) (by kernel_rfl) (fun _ _ _ h => h) (Or.inl ⟨by rfl, ?ybx6x7⟩) hHeld ?rbx6x7
   case ybx6x7 =>
    intro w' hSw
    obtain ⟨hSw0, hSw1, hSw2⟩ := hSw
    go_simp
    with_reducible rfl
   case rbx6x7 =>
   refine wpAnyH_take (i := 7) (v := ?vbx7x8) rfl (by kernel_rfl) (by kernel_rfl) (by kernel_rfl) (fun _ _ _ h => h) (Or.inl ⟨by rfl, ?ybx7x8⟩) hHeld ?rbx7x8
   case ybx7x8 =>
    intro w' hSw
    obtain ⟨hSw0, hSw1, hSw2⟩ := hSw
    go_simp
    with_reducible rfl
   case rbx7x8 =>
   refine wpAnyH_ready (rs := [8, 9]) (by kernel_rfl) (by simp) ?_
   refine AllReadyH.cons rfl (fun K hK => ?_) ?_
   ·
    go_simp
    refine hK.out _ _ (sS.out _ (KT.alloc _)) (fun hHeld => ?_)
    clear hK K
    have zpl := Row2.alloc 39 Wd (.int .i64 0) (.int .i64 0)
    have hgpl : w2.heap.size ≤ Wd.heap.size := KT.size
    have KT := KT.alloc (.cells #[.int .i64 0, .int .i64 0] 39)
    obtain ⟨pl, hppl⟩ : ∃ p, p = Wd.heap.size := ⟨_, rfl⟩
    rw [← hppl] at zpl hgpl  ⊢
    generalize Wd.alloc (.cells #[.int .i64 0, .int .i64 0] 39) = Wa8 at zpl  KT hHeld ⊢
    clear hppl
    refine wpAnyH_ready (rs := [9]) (by kernel_rfl) (by simp) ?_
    refine AllReadyH.cons rfl (fun K hK => ?_) AllReadyH.nil
    go_simp
    refine hK.out _ _ (sS.out _ (KT.alloc _)) (fun hHeld => ?_)
    clear hK K
    have zph := Row2.alloc 39 Wa8 (.int .i64 0) (.int .i64 0)
    have hgph : w2.heap.size ≤ Wa8.heap.size := KT.size
    have dphpl : ¬ (Wa8.heap.size = pl) := by have := zpl.lt; omega
    have dplph : ¬ (pl = Wa8.heap.size) := by have := zpl.lt; omega
    have zpl := zpl.kept ((Kept.refl Wa8).alloc (.cells #[.int .i64 0, .int .i64 0] 39))
    have KT := KT.alloc (.cells #[.int .i64 0, .int .i64 0] 39)
    obtain ⟨ph, hpph⟩ : ∃ p, p = Wa8.heap.size := ⟨_, rfl⟩
    rw [← hpph] at zph hgph dphpl dplph ⊢
    generalize Wa8.alloc (.cells #[.int .i64 0, .int .i64 0] 39) = Wa9 at zph zpl KT hHeld ⊢
    clear hpph
    have c0 := zpl.c0
    have c1 := zpl.c1
    have f0 := zpl.fz 0
    have f1 := zpl.fz 1
    refine wpAnyH_ready (rs := [10]) (by kernel_rfl) (by simp) ?_
    refine AllReadyH.cons rfl (fun K hK => ?_) AllReadyH.nil
    go_simp
    refine hK.out _ _ (sS.out _ (Q.Kept.put2 KT hgpl _ _)) (fun hHeld => ?_)
    clear hK K c0 c1 f0 f1
    have zph := zph.far (q := pl) dphpl (.int .i64 y0) (.int .i64 y1)
    have zpl := zpl.set2 (.int .i64 y0) (.int .i64 y1)
    have KT := Q.Kept.put2 KT hgpl (.int .i64 y0) (.int .i64 y1)
    generalize (Wa9.setCell ⟨pl, 0, none⟩ (.int .i64 y0)).setCell ⟨pl, 1, none⟩ (.int .i64 y1) = Ws0 at zpl zph KT hHeld ⊢
    have c0 := zph.c0
    have c1 := zph.c1
    have f0 := zph.fz 0
    have f1 := zph.fz 1
    refine wpAnyH_ready (rs := [11]) (by kernel_rfl) (by simp) ?_
    refine AllReadyH.cons rfl (fun K hK => ?_) AllReadyH.nil
    go_simp
    refine hK.out _ _ (sS.out _ (Q.Kept.put2 KT hgph _ _)) (fun hHeld => ?_)
    clear hK K c0 c1 f0 f1
    have zpl := zpl.far (q := ph) dplph (.int .i64 y0) (.int .i64 y1)
    have zph := zph.set2 (.int .i64 y0) (.int .i64 y1)
    have KT := Q.Kept.put2 KT hgph (.int .i64 y0) (.int .i64 y1)
    generalize (Ws0.setCell ⟨ph, 0, none⟩ (.int .i64 y0)).setCell ⟨ph, 1, none⟩ (.int .i64 y1) = Ws1 at zpl zph KT hHeld ⊢
    refine wpAnyH_done (by kernel_rfl) ?_ _
    go_wp2_with fail
    go_meet
    case rel => exact ⟨pl, ph, rfl, rfl, KT, hgpl, hgph, dplph, zpl, zph⟩
   refine AllReadyH.cons rfl (fun K hK => ?_) AllReadyH.nil
   go_simp
   refine hK.out _ _ (sS.out _ (KT.alloc _)) (fun hHeld => ?_)
   clear hK K
   have zph := Row2.alloc 39 Wd (.int .i64 0) (.int .i64 0)
   have hgph : w2.heap.size ≤ Wd.heap.size := KT.size
   have KT := KT.alloc (.cells #[.int .i64 0, .int .i64 0] 39)
   obtain ⟨ph, hpph⟩ : ∃ p, p = Wd.heap.size := ⟨_, rfl⟩
   rw [← hpph] at zph hgph  ⊢
   generalize Wd.alloc (.cells #[.int .i64 0, .int .i64 0] 39) = Wa9 at zph  KT hHeld ⊢
   clear hpph
   refine wpAnyH_ready (rs := [8]) (by kernel_rfl) (by simp) ?_
   refine AllReadyH.cons rfl (fun K hK => ?_) AllReadyH.nil
   go_simp
   refine hK.out _ _ (sS.out _ (KT.alloc _)) (fun hHeld => ?_)
   clear hK K
   have zpl := Row2.alloc 39 Wa9 (.int .i64 0) (.int .i64 0)
   have hgpl : w2.heap.size ≤ Wa9.heap.size := KT.size
   have dplph : ¬ (Wa9.heap.size = ph) := by have := zph.lt; omega
   have dphpl : ¬ (ph = Wa9.heap.size) := by have := zph.lt; omega
   have zph := zph.kept ((Kept.refl Wa9).alloc (.cells #[.int .i64 0, .int .i64 0] 39))
   have KT := KT.alloc (.cells #[.int .i64 0, .int .i64 0] 39)
   obtain ⟨pl, hppl⟩ : ∃ p, p = Wa9.heap.size := ⟨_, rfl⟩
   rw [← hppl] at zpl hgpl dplph dphpl ⊢
   generalize Wa9.alloc (.cells #[.int .i64 0, .int .i64 0] 39) = Wa8 at zpl zph KT hHeld ⊢
   clear hppl
   have c0 := zpl.c0
   have c1 := zpl.c1
   have f0 := zpl.fz 0
   have f1 := zpl.fz 1
   refine wpAnyH_ready (rs := [10]) (by kernel_rfl) (by simp) ?_
   refine AllReadyH.cons rfl (fun K hK => ?_) AllReadyH.nil
   go_simp
   refine hK.out _ _ (sS.out _ (Q.Kept.put2 KT hgpl _ _)) (fun hHeld => ?_)
   clear hK K c0 c1 f0 f1
   have zph := zph.far (q := pl) dphpl (.int .i64 y0) (.int .i64 y1)
   have zpl := zpl.set2 (.int .i64 y0) (.int .i64 y1)
   have KT := Q.Kept.put2 KT hgpl (.int .i64 y0) (.int .i64 y1)
   generalize (Wa8.setCell ⟨pl, 0, none⟩ (.int .i64 y0)).setCell ⟨pl, 1, none⟩ (.int .i64 y1) = Ws0 at zpl zph KT hHeld ⊢
   have c0 := zph.c0
   have c1 := zph.c1
   have f0 := zph.fz 0
   have f1 := zph.fz 1
   refine wpAnyH_ready (rs := [11]) (by kernel_rfl) (by simp) ?_
   refine AllReadyH.cons rfl (fun K hK => ?_) AllReadyH.nil
   go_simp
   refine hK.out _ _ (sS.out _ (Q.Kept.put2 KT hgph _ _)) (fun hHeld => ?_)
   clear hK K c0 c1 f0 f1
   have zpl := zpl.far (q := ph) dplph (.int .i64 y0) (.int .i64 y1)
   have zph := zph.set2 (.int .i64 y0) (.int .i64 y1)
   have KT := Q.Kept.put2 KT hgph (.int .i64 y0) (.int .i64 y1)
   generalize (Ws0.setCell ⟨ph, 0, none⟩ (.int .i64 y0)).setCell ⟨ph, 1, none⟩ (.int .i64 y1) = Ws1 at zpl zph KT hHeld ⊢
   refine wpAnyH_done (by kernel_rfl) ?_ _
   go_wp2_with fail
   go_meet
   case rel => exact ⟨pl, ph, rfl, rfl, KT, hgpl, hgph, dplph, zpl, zph⟩
  case rest =>
   obtain ⟨pl, ph, rfl, rfl, HB⟩ := hcut
   have HI : Hid (BInv w wc p1 pl ph k (some ⟨b1, o1, none⟩) a2 n c m c' vs y0 y1 y0 y1 0) := ⟨HK2.out.trans HB.out.1, HR2.out.kept HB.out.1, HB.out.2.2.2.2.1, HB.out.2.2.2.2.2, Nat.le_trans HK2.out.size HB.out.2.1, Nat.le_trans HK2.out.size HB.out.2.2.1, HB.out.2.2.2.1, fun h => by have := HR2.out.lt; have := HB.out.2.1; omega, fun h => by have := HR2.out.lt; have := HB.out.2.2.1; omega, HO0.out, HO0.out, fun i hi => absurd hi (Nat.not_lt_zero _)⟩
   clear HB HR HR1 HR2 HK HK1 q0 q1 q2 u0 u1 g1 g2 g3 g4
   have q1 := HI.out.row.c1
   go_wp2_with fail
   go_loopw [43] (fun vi wr => ∃ (j : Nat) (l0 l1 g0 g1 : Int), j ≤ n ∧ vi = .int .i64 (j : Int) ∧ Hid (BInv w wr p1 pl ph k (some ⟨b1, o1, none⟩) a2 n c m c' vs l0 l1 g0 g1 j)) (fun vi _ => n - (intOf vi).toNat)
   case atStart => exact ⟨0, y0, y1, y0, y1, Nat.zero_le _, rfl, HI.out⟩
   case round =>
    obtain ⟨j, l0, l1, g0, g1, hj, rfl, I⟩ := hrel
    clear q1
    by_cases hlt : j < n
    ·
     have hltz : (j : Int) < (n : Int) := by omega
     obtain ⟨c0, c1⟩ := HC.out.2 wr I.out.kp j hlt
     have HV0 : Hid (okN (vs.getD j (0, 0)).1 (vs.getD j (0, 0)).2 = true) := okN_at HO.out j (by have := HLn.out; omega)
     obtain ⟨v, hv⟩ : ∃ v, v = vs.getD j (0, 0) := ⟨_, rfl⟩
     rw [← hv] at c0 c1 HV0
     obtain ⟨v0, v1⟩ := v
     dsimp only at c0 c1 HV0
     have HV := hid' hv
     clear hv
     go_upto_region 9 with fail
     have kv := (Kept.refl wr).alloc (.cells #[.int .i64 v0, .int .i64 v1] 39)
     have rv := Row2.alloc 39 wr (.int .i64 v0) (.int .i64 v1)
     have nv1 : ¬ pl = wr.heap.size := by have := I.out.rl.lt; omega
     have nv2 : ¬ ph = wr.heap.size := by have := I.out.rh.lt; omega
     generalize wr.alloc (.cells #[.int .i64 v0, .int .i64 v1] 39) = W3 at kv rv ⊢
     obtain ⟨pv, hpv⟩ : ∃ p, p = wr.heap.size := ⟨_, rfl⟩
     rw [← hpv] at rv nv1 nv2 ⊢
     have I3 := hid' (I.out.kept kv)
     have RV := hid' rv
     clear hpv kv rv I c0 c1
     have a0 := RV.out.c0
     have a1 := RV.out.c1
     have b0 := I3.out.rl.c0
     have b1' := I3.out.rl.c1
     go_wp2_with fail
     refine (cmp_u v0 v1 l0 l1 HV0.out I3.out.ol _).mono ?_
     rintro e w4 ⟨hk4, rfl⟩
     have I4 := hid' (I3.out.kept hk4)
     have RV4 := hid' (RV.out.kept hk4)
     clear hk4 a0 a1 b0 b1'
     have a0 := RV4.out.c0
     have a1 := RV4.out.c1
     have b0 := I4.out.rh.c0
     have b1' := I4.out.rh.c1
     obtain ⟨sc, hsc⟩ : ∃ s, s = isgn (U v0 v1) (U l0 l1) := ⟨_, rfl⟩
     rw [← hsc]
     have HSC := hid' (isgn_neg hsc)
     clear hsc
     go_wp2_with fail
     refine (cmp_u v0 v1 g0 g1 HV0.out I4.out.oh _).mono ?_
     rintro e w5 ⟨hk5, rfl⟩
     have HI5 := hid' (I4.out.kept hk5)
     have RV5 := hid' (RV4.out.kept hk5)
     clear hk5 a0 a1 b0 b1'
     have a0 := RV5.out.c0
     have a1 := RV5.out.c1
     have b0 := HI5.out.rl.c0
     have b1' := HI5.out.rl.c1
     have b2 := HI5.out.rl.fz 0
     have b3 := HI5.out.rl.fz 1
     have d0 := HI5.out.rh.c0
     have d1 := HI5.out.rh.c1
     have d2 := HI5.out.rh.fz 0
     have d3 := HI5.out.rh.fz 1
     have nlh := HI5.out.ne
     have nhl : ¬ ph = pl := fun h => nlh h.symm
     have nv3 : ¬ pv = pl := fun h => nv1 h.symm
     have nv4 : ¬ pv = ph := fun h => nv2 h.symm
     obtain ⟨sd, hsd⟩ : ∃ s, s = isgn (U v0 v1) (U g0 g1) := ⟨_, rfl⟩
     rw [← hsd]
     have HCD := hid' (And.intro HSC.out (And.intro (isgn_pos hsd) HV0.out))
     clear hsd HSC
     by_cases sc0 : sc < 0
     ·
      by_cases sd0 : 0 < sd
      ·
       go_wp2_with fail
       go_roundw
       case rel => exact ⟨j + 1, v0, v1, v0, v1, by omega, by go_num, BInv.stepYY HI5.out HV.out HCD.out.2.2 (HCD.out.1.1 sc0) (HCD.out.2.1.1 sd0)⟩
       case measure => show n - ((j : Int) + 1).toNat < n - (j : Int).toNat; omega
      ·
       go_wp2_with fail
       go_roundw
       case rel => exact ⟨j + 1, v0, v1, g0, g1, by omega, by go_num, BInv.stepYN HI5.out HV.out HCD.out.2.2 (HCD.out.1.1 sc0) (HCD.out.2.1.2 sd0)⟩
       case measure => show n - ((j : Int) + 1).toNat < n - (j : Int).toNat; omega
     ·
      by_cases sd0 : 0 < sd
      ·
       go_wp2_with fail
       go_roundw
       case rel => exact ⟨j + 1, l0, l1, v0, v1, by omega, by go_num, BInv.stepNY HI5.out HV.out HCD.out.2.2 (HCD.out.1.2 sc0) (HCD.out.2.1.1 sd0)⟩
       case measure => show n - ((j : Int) + 1).toNat < n - (j : Int).toNat; omega
      ·
       go_wp2_with fail
       go_roundw
       case rel => exact ⟨j + 1, l0, l1, g0, g1, by omega, by go_num, BInv.stepNN HI5.out HV.out (HCD.out.1.2 sc0) (HCD.out.2.1.2 sd0)⟩
       case measure => show n - ((j : Int) + 1).toNat < n - (j : Int).toNat; omega
    ·
     obtain rfl : j = n := by omega
     have hltz : ¬ (j : Int) < (j : Int) := by omega
     have b0 := I.out.rl.c0
     have b1' := I.out.rl.c1
     go_wp2_with fail
     refine (grid_u l0 l1 I.out.ol _).mono ?_
     rintro e w3 ⟨hk3, rfl⟩
     have I3 := hid' (I.out.kept hk3)
     clear hk3 b0 b1'
     have b0 := I3.out.rh.c0
     have b1' := I3.out.rh.c1
     have HBW : Hid (F.near (U l0 l1) 1000000000 ≤ sayW k vs ss t ∧ sayW k vs ss t ≤ F.near (U g0 g1) 1000000000) := bet_wave HO.out (fun i hi => I3.out.bd i (by have := HLn.out; omega))
     obtain ⟨zl, hzl⟩ : ∃ z, z = F.near (U l0 l1) 1000000000 := ⟨_, rfl⟩
     rw [← hzl] at HBW ⊢
     obtain ⟨zh, hzh⟩ : ∃ z, z = F.near (U g0 g1) 1000000000 := ⟨_, rfl⟩
     rw [← hzh] at HBW
     have HZH := hid' hzh
     obtain ⟨gl, hgl⟩ : ∃ g, g = F.gridV zl := ⟨_, rfl⟩
     obtain ⟨el, hel⟩ : ∃ g, g = F.gridE zl := ⟨_, rfl⟩
     rw [← hgl, ← hel]
     have HGL := hid' (grid_alt hgl hel)
     clear hzl hzh hgl hel
     go_wp2_with fail
     refine (grid_u g0 g1 I3.out.oh _).mono ?_
     rintro e w4 ⟨hk4, rfl⟩
     rw [← HZH.out]
     have I4 := hid' (I3.out.kept hk4)
     clear hk4 b0 b1'
     obtain ⟨gh, hgh⟩ : ∃ g, g = F.gridV zh := ⟨_, rfl⟩
     obtain ⟨eh, heh⟩ : ∃ g, g = F.gridE zh := ⟨_, rfl⟩
     rw [← hgh, ← heh]
     have HGH := hid' (grid_alt hgh heh)
     clear hgh heh
     have q0 := I4.out.row.c0
     have q1 := I4.out.row.c1
     have q2 := I4.out.row.c2
     go_wp2_with fail
     refine (at_any k (some ⟨b1, o1, none⟩) a2 j c m c' vs ss t _ (HS.out.1.kept I4.out.kp) (HS.out.2.kept I4.out.kp)).mono ?_
     rintro e w5 ⟨hk5, rfl⟩
     have HA : atW k vs ss t = (F.gridV (sayW k vs ss t), F.gridE (sayW k vs ss t)) := by
      unfold atW
      rw [if_pos HO.out, if_pos (by unfold okS; simp; omega)]
     rw [HA]
     have HK5 := hid' (I4.out.kp.trans hk5)
     clear hk5 q0 q1 q2 HA
     obtain ⟨z, hz⟩ : ∃ z, z = sayW k vs ss t := ⟨_, rfl⟩
     rw [← hz] at HBW ⊢
     obtain ⟨gv, hgv⟩ : ∃ g, g = F.gridV z := ⟨_, rfl⟩
     obtain ⟨ev, hev⟩ : ∃ g, g = F.gridE z := ⟨_, rfl⟩
     rw [← hgv, ← hev]
     have HGV := hid' (grid_alt hgv hev)
     have HOn : Hid (-1000000000000000000 ≤ z ∧ z ≤ 1000000000000000000 → ev = 0 ∧ gv = z) := fun h => by
      unfold F.gridV at hgv
      unfold F.gridE at hev
      rw [if_pos h] at hgv hev
      exact ⟨hev, hgv⟩
     clear hz hgv hev
     rcases HGL.out with ⟨rfl, rfl, m1, n1⟩ | ⟨rfl, rfl⟩
     ·
      rcases HGH.out with ⟨rfl, rfl, m2, n2⟩ | ⟨rfl, rfl⟩
      ·
       obtain ⟨z1, z2⟩ := HBW.out
       obtain ⟨rfl, rfl⟩ := HOn.out ⟨by omega, by omega⟩
       go_wp2_with fail
       all_goals
        go_ret
        exact ⟨rfl, HK5.out⟩
      ·
       rcases HGV.out with ⟨rfl, rfl, m3, n3⟩ | ⟨rfl, rfl⟩
       ·
        go_wp2_with fail
        all_goals
         go_ret
         exact ⟨rfl, HK5.out⟩
       ·
        go_wp2_with fail
        all_goals
         go_ret
         exact ⟨rfl, HK5.out⟩
     ·
      rcases HGV.out with ⟨rfl, rfl, m3, n3⟩ | ⟨rfl, rfl⟩
      ·
       go_wp2_with fail
       all_goals
        go_ret
        exact ⟨rfl, HK5.out⟩
      ·
       go_wp2_with fail
       all_goals
        go_ret
        exact ⟨rfl, HK5.out⟩
 ·
  have ho : okW k vs ss = false := by simpa using ho
  rw [ho]
  go_wp2_with fail
  go_ret
  exact ⟨rfl, HK2.out⟩
end V
end Go.Proofs.YtkomjjpekgmjfaaGreat
