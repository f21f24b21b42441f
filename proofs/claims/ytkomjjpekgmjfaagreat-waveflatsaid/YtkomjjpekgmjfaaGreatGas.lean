/- num.Grid. num.Value, num.Cmp. -/
import Derived.Test.YtkomjjpekgmjfaaGreatNscal
import Derived.Test.YtkomjjpekgmjfaaGreatNval
import Derived.Test.YtkomjjpekgmjfaaGreatFround
import Derived.Test.YtkomjjpekgmjfaaGreatGaq
namespace Go.Proofs.YtkomjjpekgmjfaaGreat
open Go.RowKit
namespace Q
theorem okN_bd {m x : Int} (h : okN m x = true) : -999999999 ≤ m ∧ m ≤ 999999999 ∧ -18 ≤ x ∧ x ≤ 9 := by
 rcases okN_iff.1 h with ⟨rfl, rfl⟩ | ⟨_, h1, h2, _, h4, h5⟩
 ·
  decide
 ·
  exact ⟨h1, h2, h4, h5⟩
def Scl (m x N : Int) (D : Nat) : Prop := 0 < D ∧ Nat.Coprime N.natAbs D ∧ N * (10 ^ (-x).toNat : Nat) = m * (10 ^ x.toNat : Nat) * D
def GridIs (e : Ending) (m x : Int) : Prop :=
 (okN m x = false ∧ e = .returned (.tuple #[.int .i64 0, .int .i64 30])) ∨ (okN m x = true ∧ ∃ N D, Scl m (x + 9) N D ∧ e = .returned (.tuple #[.int .i64 (F.gridV (F.near N D)), .int .i64 (F.gridE (F.near N D))]))
set_option maxRecDepth 100000 in
set_option maxHeartbeats 4000000 in
theorem grid_any (m x : Int) (w : World) : Calls Tryz.prog 19 #[.agg #[.int .i64 m, .int .i64 x]] w fun e w' => Kept w w' ∧ GridIs e m x := by
 go_enter Tryz.func19, Tryz.ntmps19
 go_upto_region 1 with fail
 have hK := (Kept.refl w).alloc (.cells #[.int .i64 m, .int .i64 x] 39)
 have hR := Row2.alloc 39 w (.int .i64 m) (.int .i64 x)
 generalize w.alloc (.cells #[.int .i64 m, .int .i64 x] 39) = W at hK hR ⊢
 obtain ⟨p1, hp1⟩ : ∃ p, p = w.heap.size := ⟨_, rfl⟩
 rw [← hp1] at hR ⊢
 have HK := hid' hK
 have HR := hid' hR
 obtain ⟨q0, q1, q2, q3⟩ := hR.all
 clear hp1 hK hR
 go_wp2_with fail
 refine (Valid_any m x _).mono ?_
 rintro e w1 ⟨hk1, rfl⟩
 have HK1 := hid' (HK.out.trans hk1)
 have hR1 := HR.out.kept hk1
 clear hk1 q0 q1 q2 q3
 by_cases ho : okN m x = true
 ·
  have hb := okN_bd ho
  rw [ho]
  have HO := hid' ho
  clear ho
  obtain ⟨q0, q1, q2, q3⟩ := hR1.all
  have hwr : IntKind.i64.wrap (x + 9) = x + 9 := wrap_i64' (by omega) (by omega)
  clear hR1
  go_wp2_with fail
  refine (scaled_any m (x + 9) (by omega) (by omega) (by omega) (by omega) _).mono ?_
  rintro e w2 ⟨hk2, v, N, D, rfl, hq, he⟩
  have HS : Hid (Scl m (x + 9) N D) := ⟨hq.low.1, hq.low.2, he⟩
  obtain ⟨s, ao, ap, k, c, k', c', l, l', rfl, n1, n2, r, rfl, rfl⟩ := hq
  have H2 := hid' (And.intro n1.sl (And.intro n2.sl r))
  have HK2 := hid' (HK1.out.trans hk2)
  clear n1 n2 r he hk2 q0 q1 q2 q3
  go_wp2_with fail
  refine (F.Round_ok s false ao ap k c k' c' l l' _ H2.out.1 H2.out.2.1 H2.out.2.2).mono ?_
  rintro e w3 ⟨rfl, hk3⟩
  have HK3 := hid' (HK2.out.trans hk3)
  clear hk3
  generalize hgv : F.gridV (F.near (M.int s l) (M.val l')) = gv
  generalize hge : F.gridE (F.near (M.int s l) (M.val l')) = ge
  have HG := hid' (And.intro hgv hge)
  clear hgv hge
  go_wp2
  go_ret2
  exact ⟨HK3.out, .inr ⟨HO.out, _, _, HS.out, by rw [HG.out.1, HG.out.2]; rfl⟩⟩
 ·
  have ho : okN m x = false := by simpa using ho
  rw [ho]
  have HO := hid' ho
  clear ho hR1
  go_wp2
  go_ret2
  exact ⟨HK1.out, .inl ⟨HO.out, rfl⟩⟩
end Q
end Go.Proofs.YtkomjjpekgmjfaaGreat

namespace Go.Proofs.YtkomjjpekgmjfaaGreat
open Go.RowKit
namespace Q
def ValIs (B : Nat) (w' : World) (e : Ending) (m x : Int) : Prop :=
 (okN m x = false ∧ e = .returned (.tuple #[.agg #[.bool false, .slice none 0 0, .bool false, .slice none 0 0], .int .i64 30])) ∨ (okN m x = true ∧ ∃ v N D, e = .returned (.tuple #[v, .int .i64 0]) ∧ RQ B w' v N D ∧ Scl m x N D)
set_option maxRecDepth 100000 in
set_option maxHeartbeats 4000000 in
theorem value_any (m x : Int) (w : World) : Calls Tryz.prog 49 #[.agg #[.int .i64 m, .int .i64 x]] w fun e w' => Kept w w' ∧ ValIs w.heap.size w' e m x := by
 go_enter Tryz.func49, Tryz.ntmps49
 go_upto_region 1 with fail
 have hK := ((Kept.refl w).alloc (.cells #[.int .i64 m, .int .i64 x] 39)).alloc (.cells #[.bool false, .slice none 0 0, .bool false, .slice none 0 0] 66)
 have hR1 := (Row2.alloc 39 w (.int .i64 m) (.int .i64 x)).kept ((Kept.refl _).alloc (.cells #[.bool false, .slice none 0 0, .bool false, .slice none 0 0] 66))
 have hR2 := F.RRow.alloc (w.alloc (.cells #[.int .i64 m, .int .i64 x] 39)) (.bool false) (.slice none 0 0) (.bool false) (.slice none 0 0)
 rw [World.size_alloc] at hR2
 generalize (w.alloc (.cells #[.int .i64 m, .int .i64 x] 39)).alloc (.cells #[.bool false, .slice none 0 0, .bool false, .slice none 0 0] 66) = W at hK hR1 hR2 ⊢
 obtain ⟨p2, hp2⟩ : ∃ p, p = w.heap.size + 1 := ⟨_, rfl⟩
 rw [← hp2] at hR2 ⊢
 obtain ⟨p1, hp1⟩ : ∃ p, p = w.heap.size := ⟨_, rfl⟩
 rw [← hp1] at hR1 ⊢
 have HP : Hid (w.heap.size ≤ p2) := by show _ ≤ _; omega
 have HK := hid' hK
 have HR1 := hid' hR1
 have HR2 := hid' hR2
 obtain ⟨q0, q1, q2, q3⟩ := hR1.all
 clear hp1 hp2 hK hR1 hR2
 go_wp2_with fail
 refine (Valid_any m x _).mono ?_
 rintro e w1 ⟨hk1, rfl⟩
 have HK1 := hid' (HK.out.trans hk1)
 have HR1 := hid' (HR1.out.kept hk1)
 have HR2 := hid' (HR2.out.kept hk1)
 clear hk1 q0 q1 q2 q3
 by_cases ho : okN m x = true
 ·
  have hb := okN_bd ho
  rw [ho]
  have HO := hid' ho
  clear ho
  obtain ⟨q0, q1, q2, q3⟩ := HR1.out.all
  go_wp2_with fail
  refine (scaled_any m x (by omega) (by omega) (by omega) (by omega) _).mono ?_
  rintro e w2 ⟨hk2, v, N, D, rfl, hq, he⟩
  have HS : Hid (Scl m x N D) := ⟨hq.low.1, hq.low.2, he⟩
  have HQ := hid' (hq.mono HK1.out.size)
  obtain ⟨s, ao, ap, k, c, k', c', l, l', rfl, _⟩ := hq
  have HK2 := hid' (HK1.out.trans hk2)
  have hR4 := HR2.out.kept hk2
  have z0 := hR4.c0
  have z1 := hR4.c1
  have z2 := hR4.c2
  have z3 := hR4.c3
  have f0 := hR4.fz 0
  have f1 := hR4.fz 1
  have f2 := hR4.fz 2
  have f3 := hR4.fz 3
  have H4 := hid' hR4
  clear he hk2 q0 q1 q2 q3 hR4
  go_wp2_with fail
  exact bodyPost_ret (v := .tuple #[.agg #[.bool s, .slice ao k c, .bool false, .slice ap k' c'], .int .i64 0]) (by simp [results, Tryz.results49, go_sem, z0, z1, z2, z3]) rfl ⟨Kept.put4 HK2.out HP.out _ _ _ _, .inr ⟨HO.out, _, N, D, rfl, RQ.put4 HQ.out H4.out _ _ _ _, HS.out⟩⟩
 ·
  have ho : okN m x = false := by simpa using ho
  rw [ho]
  have HO := hid' ho
  have z0 := HR2.out.c0
  have z1 := HR2.out.c1
  have z2 := HR2.out.c2
  have z3 := HR2.out.c3
  have f0 := HR2.out.fz 0
  have f1 := HR2.out.fz 1
  have f2 := HR2.out.fz 2
  have f3 := HR2.out.fz 3
  clear ho
  go_wp2_with fail
  exact bodyPost_ret (v := .tuple #[.agg #[.bool false, .slice none 0 0, .bool false, .slice none 0 0], .int .i64 30]) (by simp [results, Tryz.results49, go_sem, z0, z1, z2, z3]) rfl ⟨Kept.put4 HK1.out HP.out _ _ _ _, .inl ⟨HO.out, rfl⟩⟩
def CmpIs (e : Ending) (m x m' x' : Int) : Prop :=
 (¬ (okN m x = true ∧ okN m' x' = true) ∧ e = .returned (.tuple #[.int .i64 0, .int .i64 30])) ∨ ((okN m x = true ∧ okN m' x' = true) ∧ ∃ (N : Int) (D : Nat) (N' : Int) (D' : Nat), Scl m x N D ∧ Scl m' x' N' D' ∧ e = .returned (.tuple #[.int .i64 (isgn (N * D') (N' * D)), .int .i64 0]))
end Q
end Go.Proofs.YtkomjjpekgmjfaaGreat
