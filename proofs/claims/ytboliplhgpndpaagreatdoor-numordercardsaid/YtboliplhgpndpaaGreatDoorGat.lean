/- num.Grid; law03's awake. num.Value, num.Cmp. The order of right numbers. NumOrder's walk. -/
import Derived.Test.YtboliplhgpndpaaGreatDoorNscal
import Derived.Test.YtboliplhgpndpaaGreatDoorGak
import Derived.Test.YtboliplhgpndpaaGreatDoorFround
import Derived.Test.YtboliplhgpndpaaGreatDoorGar
import Derived.Test.YtboliplhgpndpaaGreatDoorNtext
import Derived.Test.YtboliplhgpndpaaGreatDoorGap
namespace Go.Proofs.YtboliplhgpndpaaGreatDoor
open Go.RowKit
namespace Q
theorem okN_bd {m x : Int} (h : okN m x = true) : -999999999 ≤ m ∧ m ≤ 999999999 ∧ -18 ≤ x ∧ x ≤ 9 := by
 rcases okN_iff.1 h with ⟨rfl, rfl⟩ | ⟨_, h1, h2, _, h4, h5⟩
 ·
  decide
 ·
  exact ⟨h1, h2, h4, h5⟩
def Scl (m x N : Int) (D : Nat) : Prop := 0 < D ∧ Nat.Coprime N.natAbs D ∧ N * (10 ^ (-x).toNat : Nat) = m * (10 ^ x.toNat : Nat) * D
def GridIs (e : Ending) (m x : Int) : Prop :=
 (okN m x = false ∧ e = .returned (.tuple #[.int .i64 0, .int .i64 30])) ∨ (okN m x = true ∧ ∃ N D, Scl m (x + 9) N D ∧ e = .returned (.tuple #[.int .i64 (F.gridV (F.near N D)), .int .i64 (F.gridE (F.near N D))]))
set_option maxRecDepth 100000 in
set_option maxHeartbeats 4000000 in
theorem grid_any (m x : Int) (w : World) : Calls Tryz.prog 15 #[.agg #[.int .i64 m, .int .i64 x]] w fun e w' => Kept w w' ∧ GridIs e m x := by
 go_enter Tryz.func15, Tryz.ntmps15
 go_upto_region 1 with fail
 have hK := (Kept.refl w).alloc (.cells #[.int .i64 m, .int .i64 x] 24)
 have hR := Row2.alloc 24 w (.int .i64 m) (.int .i64 x)
 generalize w.alloc (.cells #[.int .i64 m, .int .i64 x] 24) = W at hK hR ⊢
 obtain ⟨p1, hp1⟩ : ∃ p, p = w.heap.size := ⟨_, rfl⟩
 rw [← hp1] at hR ⊢
 have HK := hid' hK
 have HR := hid' hR
 obtain ⟨q0, q1, q2, q3⟩ := hR.all
 clear hp1 hK hR
 go_wp2_with fail
 refine (Valid_any m x _).mono ?_
 rintro e w1 ⟨hk1, rfl⟩
 have HK1 := hid' (HK.out.trans hk1)
 have hR1 := HR.out.kept hk1
 clear hk1 q0 q1 q2 q3
 by_cases ho : okN m x = true
 ·
  have hb := okN_bd ho
  rw [ho]
  have HO := hid' ho
  clear ho
  obtain ⟨q0, q1, q2, q3⟩ := hR1.all
  have hwr : IntKind.i64.wrap (x + 9) = x + 9 := wrap_i64' (by omega) (by omega)
  clear hR1
  go_wp2_with fail
  refine (scaled_any m (x + 9) (by omega) (by omega) (by omega) (by omega) _).mono ?_
  rintro e w2 ⟨hk2, v, N, D, rfl, hq, he⟩
  have HS : Hid (Scl m (x + 9) N D) := ⟨hq.low.1, hq.low.2, he⟩
  obtain ⟨s, ao, ap, k, c, k', c', l, l', rfl, n1, n2, r, rfl, rfl⟩ := hq
  have H2 := hid' (And.intro n1.sl (And.intro n2.sl r))
  have HK2 := hid' (HK1.out.trans hk2)
  clear n1 n2 r he hk2 q0 q1 q2 q3
  go_wp2_with fail
  refine (F.Round_ok s false ao ap k c k' c' l l' _ H2.out.1 H2.out.2.1 H2.out.2.2).mono ?_
  rintro e w3 ⟨rfl, hk3⟩
  have HK3 := hid' (HK2.out.trans hk3)
  clear hk3
  generalize hgv : F.gridV (F.near (M.int s l) (M.val l')) = gv
  generalize hge : F.gridE (F.near (M.int s l) (M.val l')) = ge
  have HG := hid' (And.intro hgv hge)
  clear hgv hge
  go_wp2
  go_ret2
  exact ⟨HK3.out, .inr ⟨HO.out, _, _, HS.out, by rw [HG.out.1, HG.out.2]; rfl⟩⟩
 ·
  have ho : okN m x = false := by simpa using ho
  rw [ho]
  have HO := hid' ho
  clear ho hR1
  go_wp2
  go_ret2
  exact ⟨HK1.out, .inl ⟨HO.out, rfl⟩⟩
theorem scl_one {N N' m x : Int} {D D' : Nat} (h : Scl m x N D) (h' : Scl m x N' D') : N = N' ∧ D = D' := by
 obtain ⟨p, c, e⟩ := h
 obtain ⟨p', c', e'⟩ := h'
 have e3 : N * D' = N' * D := by
  have hz : (0 : Int) < ((10 ^ (-x).toNat : Nat) : Int) := by have := Nat.pow_pos (n := (-x).toNat) (show 0 < 10 by decide); omega
  have hz' : ((10 ^ (-x).toNat : Nat) : Int) ≠ 0 := by omega
  apply Int.eq_of_mul_eq_mul_right hz'
  rw [Int.mul_right_comm, e, Int.mul_right_comm N', e', Int.mul_right_comm]
 have e4 := congrArg Int.natAbs e3
 rw [Int.natAbs_mul, Int.natAbs_mul, Int.natAbs_natCast, Int.natAbs_natCast] at e4
 have d1 : D ∣ D' := (c.symm.dvd_of_dvd_mul_left (by rw [e4]; exact Nat.dvd_mul_left _ _))
 have d2 : D' ∣ D := (c'.symm.dvd_of_dvd_mul_left (by rw [← e4]; exact Nat.dvd_mul_left _ _))
 have ed := Nat.dvd_antisymm d1 d2
 subst ed
 refine ⟨?_, rfl⟩
 have : (D : Int) ≠ 0 := by omega
 exact Int.eq_of_mul_eq_mul_right this e3
structure Lay (w : World) : Prop where
 lett : Lett w
 err : ErrV w
 tab : Tab w
theorem Lay.kept {w w' : World} (h : Lay w) (k : Kept w w') : Lay w' := ⟨h.lett.kept k, h.err.kept k, h.tab.kept k⟩
set_option maxRecDepth 100000 in
set_option maxHeartbeats 8000000 in
theorem awake_any (w : World) (hl : Lay w) : Calls Tryz.prog 8 #[] w fun e w' => Kept w w' ∧ e = .returned (.bool true) := by
 have HL := hid' hl
 clear hl
 go_enter Tryz.func8, Tryz.ntmps8
 go_wp2_with fail
 refine (parse_any ⟨#[52, 46, 55, 107]⟩ _ HL.out.lett HL.out.err (by decide)).mono ?_
 rintro e w1 ⟨hk1, he⟩
 rw [show parseOf (⟨#[52, 46, 55, 107]⟩ : ByteArray).data.toList = (47, 2, 0) by decide] at he
 obtain rfl : e = .returned (.tuple #[.agg #[.int .i64 47, .int .i64 2], .int .i64 0]) := he
 have HK1 := hid' hk1
 clear hk1
 go_upto_region 2 with fail
 have hR := Row2.alloc 24 w1 (.int .i64 47) (.int .i64 2)
 have hK2 := HK1.out.alloc (.cells #[.int .i64 47, .int .i64 2] 24)
 generalize w1.alloc (.cells #[.int .i64 47, .int .i64 2] 24) = W2 at hR hK2 ⊢
 obtain ⟨p1, hp1⟩ : ∃ p, p = w1.heap.size := ⟨_, rfl⟩
 rw [← hp1] at hR ⊢
 have HR := hid' hR
 have HK2 := hid' hK2
 obtain ⟨q0, q1, q2, q3⟩ := hR.all
 clear hR hK2 hp1
 go_wp2_with fail
 refine (text_any 47 2 _ (HL.out.lett.kept HK2.out) (HL.out.tab.kept HK2.out)).mono ?_
 rintro e w3 ⟨hk3, ht⟩
 rcases ht with ⟨h, _⟩ | ⟨_, t, ht, rfl⟩
 ·
  exact absurd h (by decide)
 have e1 : textOf 47 2 = [52, 55, 48, 48] := by simp [textOf, below, names, Lib.itoa, Lib.decDigits]
 rw [e1] at ht
 obtain rfl := bytes_eq ht.symm
 have HK3 := hid' hk3
 clear ht e1 hk3 q0 q1 q2 q3
 go_wp2_with fail
 refine (grid_any 25 (-10) _).mono ?_
 rintro e w4 ⟨hk4, hg⟩
 rcases hg with ⟨h, _⟩ | ⟨_, N, D, hs, rfl⟩
 ·
  exact absurd h (by decide)
 obtain ⟨rfl, rfl⟩ := scl_one hs (N' := 5) (D' := 2) ⟨by decide, by decide, by decide⟩
 rw [show F.gridV (F.near 5 2) = 2 by decide, show F.gridE (F.near 5 2) = 0 by decide]
 have HR := hid' (HR.out.kept (HK3.out.trans hk4))
 have HK4 := hid' (HK2.out.trans (HK3.out.trans hk4))
 clear hs hk4
 obtain ⟨q0, q1, q2, q3⟩ := HR.out.all
 go_wp2_with fail
 refine (Valid_any 47 2 _).mono ?_
 rintro e w5 ⟨hk5, rfl⟩
 rw [show okN 47 2 = true by decide]
 have HK5 := hid' (HK4.out.trans hk5)
 clear hk5 q0 q1 q2 q3
 go_wp2_with fail
 refine (Valid_any 10 0 _).mono ?_
 rintro e w6 ⟨hk6, rfl⟩
 rw [show okN 10 0 = false by decide]
 have HK6 := hid' (HK5.out.trans hk6)
 clear hk6
 go_wp2
 go_ret
 exact ⟨HK6.out, rfl⟩
end Q
end Go.Proofs.YtboliplhgpndpaaGreatDoor

namespace Go.Proofs.YtboliplhgpndpaaGreatDoor
open Go.RowKit
namespace Q
def ValIs (B : Nat) (w' : World) (e : Ending) (m x : Int) : Prop :=
 (okN m x = false ∧ e = .returned (.tuple #[.agg #[.bool false, .slice none 0 0, .bool false, .slice none 0 0], .int .i64 30])) ∨ (okN m x = true ∧ ∃ v N D, e = .returned (.tuple #[v, .int .i64 0]) ∧ RQ B w' v N D ∧ Scl m x N D)
set_option maxRecDepth 100000 in
set_option maxHeartbeats 4000000 in
theorem value_any (m x : Int) (w : World) : Calls Tryz.prog 13 #[.agg #[.int .i64 m, .int .i64 x]] w fun e w' => Kept w w' ∧ ValIs w.heap.size w' e m x := by
 go_enter Tryz.func13, Tryz.ntmps13
 go_upto_region 1 with fail
 have hK := ((Kept.refl w).alloc (.cells #[.int .i64 m, .int .i64 x] 24)).alloc (.cells #[.bool false, .slice none 0 0, .bool false, .slice none 0 0] 39)
 have hR1 := (Row2.alloc 24 w (.int .i64 m) (.int .i64 x)).kept ((Kept.refl _).alloc (.cells #[.bool false, .slice none 0 0, .bool false, .slice none 0 0] 39))
 have hR2 := F.RRow.alloc (w.alloc (.cells #[.int .i64 m, .int .i64 x] 24)) (.bool false) (.slice none 0 0) (.bool false) (.slice none 0 0)
 rw [World.size_alloc] at hR2
 generalize (w.alloc (.cells #[.int .i64 m, .int .i64 x] 24)).alloc (.cells #[.bool false, .slice none 0 0, .bool false, .slice none 0 0] 39) = W at hK hR1 hR2 ⊢
 obtain ⟨p2, hp2⟩ : ∃ p, p = w.heap.size + 1 := ⟨_, rfl⟩
 rw [← hp2] at hR2 ⊢
 obtain ⟨p1, hp1⟩ : ∃ p, p = w.heap.size := ⟨_, rfl⟩
 rw [← hp1] at hR1 ⊢
 have HP : Hid (w.heap.size ≤ p2) := by show _ ≤ _; omega
 have HK := hid' hK
 have HR1 := hid' hR1
 have HR2 := hid' hR2
 obtain ⟨q0, q1, q2, q3⟩ := hR1.all
 clear hp1 hp2 hK hR1 hR2
 go_wp2_with fail
 refine (Valid_any m x _).mono ?_
 rintro e w1 ⟨hk1, rfl⟩
 have HK1 := hid' (HK.out.trans hk1)
 have HR1 := hid' (HR1.out.kept hk1)
 have HR2 := hid' (HR2.out.kept hk1)
 clear hk1 q0 q1 q2 q3
 by_cases ho : okN m x = true
 ·
  have hb := okN_bd ho
  rw [ho]
  have HO := hid' ho
  clear ho
  obtain ⟨q0, q1, q2, q3⟩ := HR1.out.all
  go_wp2_with fail
  refine (scaled_any m x (by omega) (by omega) (by omega) (by omega) _).mono ?_
  rintro e w2 ⟨hk2, v, N, D, rfl, hq, he⟩
  have HS : Hid (Scl m x N D) := ⟨hq.low.1, hq.low.2, he⟩
  have HQ := hid' (hq.mono HK1.out.size)
  obtain ⟨s, ao, ap, k, c, k', c', l, l', rfl, _⟩ := hq
  have HK2 := hid' (HK1.out.trans hk2)
  have hR4 := HR2.out.kept hk2
  have z0 := hR4.c0
  have z1 := hR4.c1
  have z2 := hR4.c2
  have z3 := hR4.c3
  have f0 := hR4.fz 0
  have f1 := hR4.fz 1
  have f2 := hR4.fz 2
  have f3 := hR4.fz 3
  have H4 := hid' hR4
  clear he hk2 q0 q1 q2 q3 hR4
  go_wp2_with fail
  exact bodyPost_ret (v := .tuple #[.agg #[.bool s, .slice ao k c, .bool false, .slice ap k' c'], .int .i64 0]) (by simp [results, Tryz.results13, go_sem, z0, z1, z2, z3]) rfl ⟨Kept.put4 HK2.out HP.out _ _ _ _, .inr ⟨HO.out, _, N, D, rfl, RQ.put4 HQ.out H4.out _ _ _ _, HS.out⟩⟩
 ·
  have ho : okN m x = false := by simpa using ho
  rw [ho]
  have HO := hid' ho
  have z0 := HR2.out.c0
  have z1 := HR2.out.c1
  have z2 := HR2.out.c2
  have z3 := HR2.out.c3
  have f0 := HR2.out.fz 0
  have f1 := HR2.out.fz 1
  have f2 := HR2.out.fz 2
  have f3 := HR2.out.fz 3
  clear ho
  go_wp2_with fail
  exact bodyPost_ret (v := .tuple #[.agg #[.bool false, .slice none 0 0, .bool false, .slice none 0 0], .int .i64 30]) (by simp [results, Tryz.results13, go_sem, z0, z1, z2, z3]) rfl ⟨Kept.put4 HK1.out HP.out _ _ _ _, .inl ⟨HO.out, rfl⟩⟩
def CmpIs (e : Ending) (m x m' x' : Int) : Prop :=
 (¬ (okN m x = true ∧ okN m' x' = true) ∧ e = .returned (.tuple #[.int .i64 0, .int .i64 30])) ∨ ((okN m x = true ∧ okN m' x' = true) ∧ ∃ (N : Int) (D : Nat) (N' : Int) (D' : Nat), Scl m x N D ∧ Scl m' x' N' D' ∧ e = .returned (.tuple #[.int .i64 (isgn (N * D') (N' * D)), .int .i64 0]))
set_option maxRecDepth 100000 in
set_option maxHeartbeats 8000000 in
theorem cmp_any (m x m' x' : Int) (w : World) : Calls Tryz.prog 17 #[.agg #[.int .i64 m, .int .i64 x], .agg #[.int .i64 m', .int .i64 x']] w fun e w' => Kept w w' ∧ CmpIs e m x m' x' := by
 go_enter Tryz.func17, Tryz.ntmps17
 go_upto_region 1 with fail
 have hK := ((Kept.refl w).alloc (.cells #[.int .i64 m, .int .i64 x] 24)).alloc (.cells #[.int .i64 m', .int .i64 x'] 24)
 have hR2 := (Row2.alloc 24 w (.int .i64 m) (.int .i64 x)).kept ((Kept.refl _).alloc (.cells #[.int .i64 m', .int .i64 x'] 24))
 have hR3 := Row2.alloc 24 (w.alloc (.cells #[.int .i64 m, .int .i64 x] 24)) (.int .i64 m') (.int .i64 x')
 rw [World.size_alloc] at hR3
 generalize (w.alloc (.cells #[.int .i64 m, .int .i64 x] 24)).alloc (.cells #[.int .i64 m', .int .i64 x'] 24) = W at hK hR2 hR3 ⊢
 obtain ⟨p3, hp3⟩ : ∃ p, p = w.heap.size + 1 := ⟨_, rfl⟩
 rw [← hp3] at hR3 ⊢
 obtain ⟨p2, hp2⟩ : ∃ p, p = w.heap.size := ⟨_, rfl⟩
 rw [← hp2] at hR2 ⊢
 have HK := hid' hK
 have HR2 := hid' hR2
 have HR3 := hid' hR3
 obtain ⟨q0, q1, q2, q3⟩ := hR2.all
 clear hp2 hp3 hK hR2 hR3
 go_wp2_with fail
 refine (Valid_any m x _).mono ?_
 rintro e w1 ⟨hk1, rfl⟩
 have HK1 := hid' hk1
 clear hk1 q0 q1 q2 q3
 by_cases ho : okN m x = true
 ·
  have hb := okN_bd ho
  rw [ho]
  have HO := hid' ho
  clear ho
  obtain ⟨q0, q1, q2, q3⟩ := (HR3.out.kept HK1.out).all
  go_wp2_with fail
  refine (Valid_any m' x' _).mono ?_
  rintro e w2 ⟨hk2, rfl⟩
  have HK2 := hid' (HK1.out.trans hk2)
  clear hk2 q0 q1 q2 q3
  by_cases ho' : okN m' x' = true
  ·
   have hb' := okN_bd ho'
   rw [ho']
   have HO' := hid' ho'
   clear ho'
   go_upto_region 3 with fail
   obtain ⟨q0, q1, q2, q3⟩ := (HR2.out.kept HK2.out).all
   obtain ⟨r0, r1, r2, r3⟩ := (HR3.out.kept HK2.out).all
   go_region_held3 (fun w' => w'.cell? ⟨p2, 0, none⟩ = some (.int .i64 m) ∧ w'.cell? ⟨p2, 1, none⟩ = some (.int .i64 x) ∧ w'.cell? ⟨p3, 0, none⟩ = some (.int .i64 m') ∧ w'.cell? ⟨p3, 1, none⟩ = some (.int .i64 x')) (go_keep) (first
    | (go_at_call_of 40 (Value.int .i64 m); refine (scaled_any m x (by omega) (by omega) (by omega) (by omega) _).mono ?_; rintro e w3 ⟨hk3, v3, N3, D3, rfl, hq3, he3⟩; have HS3 : Hid (Scl m x N3 D3) := ⟨hq3.low.1, hq3.low.2, he3⟩; obtain ⟨s, ao, ap, k, c, k', c', l, l', rfl, n1, n2, r, rfl, rfl⟩ := hq3; have H3 := hid' (And.intro n1.sl (And.intro n2.sl r)); have K3 := HK2.out.trans ((Kept.refl w2).drew.trans hk3); have a0 := (HR2.out.kept K3).c0; have a1 := (HR2.out.kept K3).c1; have a2 := (HR3.out.kept K3).c0; have a3 := (HR3.out.kept K3).c1; clear n1 n2 r he3)
    | (go_at_call_of 40 (Value.int .i64 m'); refine (scaled_any m' x' (by omega) (by omega) (by omega) (by omega) _).mono ?_; rintro e w4 ⟨hk4, v4, N4, D4, rfl, hq4, he4⟩; have HS4 : Hid (Scl m' x' N4 D4) := ⟨hq4.low.1, hq4.low.2, he4⟩; obtain ⟨s4, ao4, ap4, k4, c4, k4', c4', l4, l4', rfl, n1, n2, r, rfl, rfl⟩ := hq4; have H4 := hid' (And.intro n1.sl (And.intro n2.sl (And.intro r hk4))); have K4 := K3.trans hk4; have b0 := (HR2.out.kept K4).c0; have b1 := (HR2.out.kept K4).c1; have b2 := (HR3.out.kept K4).c0; have b3 := (HR3.out.kept K4).c1; clear n1 n2 r he4)
    | (go_at_call 22; refine (F.Cmp_ok s false s4 false ao ap ao4 ap4 k c k' c' k4 c4 k4' c4' l l' l4 l4' _ (H3.out.1.kept H4.out.2.2.2) (H3.out.2.1.kept H4.out.2.2.2) H4.out.1 H4.out.2.1 H3.out.2.2 H4.out.2.2.1).mono ?_; rintro e w5 ⟨rfl, hk5⟩; have K5 := K4.trans hk5; have d0 := (HR2.out.kept K5).c0; have d1 := (HR2.out.kept K5).c1; have d2 := (HR3.out.kept K5).c0; have d3 := (HR3.out.kept K5).c1))
   have HK5 := hid' (HK.out.trans K5)
   clear K3 K4 K5 hk3 hk4 hk5 q0 q1 q2 q3 r0 r1 r2 r3 a0 a1 a2 a3 b0 b1 b2 b3 d0 d1 d2 d3
   generalize hgi : isgn (M.int s l * M.val l4') (M.int s4 l4 * M.val l') = gi
   have HGI := hid' hgi
   clear hgi
   go_wp2
   go_ret2
   exact ⟨HK5.out, .inr ⟨⟨HO.out, HO'.out⟩, _, _, _, _, HS3.out, HS4.out, by rw [HGI.out]; rfl⟩⟩
  ·
   have ho' : okN m' x' = false := by simpa using ho'
   rw [ho']
   have HO' := hid' ho'
   clear ho'
   go_wp2
   go_ret2
   exact ⟨HK.out.trans HK2.out, .inl ⟨fun hh => absurd (HO'.out.symm.trans hh.2) (by decide), rfl⟩⟩
 ·
  have ho : okN m x = false := by simpa using ho
  rw [ho]
  have HO := hid' ho
  clear ho
  go_wp2
  go_ret2
  exact ⟨HK.out.trans HK1.out, .inl ⟨fun hh => absurd (HO.out.symm.trans hh.1) (by decide), rfl⟩⟩
end Q
end Go.Proofs.YtboliplhgpndpaaGreatDoor

namespace Go.Proofs.YtboliplhgpndpaaGreatDoor
open Go.RowKit
namespace Q
theorem isgn_turn (x y : Int) : isgn y x = -isgn x y := by
 unfold isgn
 rcases (show x < y ∨ x = y ∨ y < x by omega) with h | h | h
 ·
  rw [if_neg (by omega), if_neg (by omega), if_pos h]; rfl
 ·
  subst h; simp
 ·
  rw [if_pos h, if_neg (by omega), if_neg (by omega)]
theorem isgn_three (x y : Int) : isgn x y = -1 ∨ isgn x y = 0 ∨ isgn x y = 1 := by unfold isgn; split <;> (try split) <;> simp
theorem isgn_le {x y : Int} : isgn x y ≤ 0 ↔ x ≤ y := by unfold isgn; split <;> (try split) <;> omega
theorem isgn_zero {x y : Int} : isgn x y = 0 ↔ x = y := by unfold isgn; split <;> (try split) <;> omega
theorem frac_trans {N N' N'' : Int} {D D' D'' : Nat} (p : 0 < D) (p' : 0 < D') (p'' : 0 < D'') (h1 : N * D' ≤ N' * D) (h2 : N' * D'' ≤ N'' * D') : N * D'' ≤ N'' * D ∧ (N * D'' = N'' * D → N * D' = N' * D ∧ N' * D'' = N'' * D') := by
 have a1 := Int.mul_le_mul_of_nonneg_right h1 (show (0 : Int) ≤ (D'' : Int) by omega)
 have a2 := Int.mul_le_mul_of_nonneg_right h2 (show (0 : Int) ≤ (D : Int) by omega)
 have e1 : N' * D * D'' = N' * D'' * D := Int.mul_right_comm ..
 have e2 : N * D' * D'' = N * D'' * D' := Int.mul_right_comm ..
 have e3 : N'' * D' * D = N'' * D * D' := Int.mul_right_comm ..
 rw [e1, e2] at a1
 rw [e3] at a2
 have hp' : (0 : Int) < (D' : Int) := by omega
 refine ⟨Int.le_of_mul_le_mul_right (Int.le_trans a1 a2) hp', fun h => ?_⟩
 rw [h] at a1
 have b1 : N' * D'' * D = N'' * D * D' := Int.le_antisymm a2 a1
 constructor
 ·
  have : N * D' * D'' = N' * D * D'' := by rw [e2, h, e1, b1]
  exact Int.eq_of_mul_eq_mul_right (show (D'' : Int) ≠ 0 by omega) this
 ·
  have : N' * D'' * D = N'' * D' * D := by rw [b1, e3]
  exact Int.eq_of_mul_eq_mul_right (show (D : Int) ≠ 0 by omega) this
theorem pow_ten_ne (k : Nat) : ((10 ^ k : Nat) : Int) ≠ 0 := by have := Nat.pow_pos (n := k) (show 0 < 10 by decide); omega
theorem ok_same {m m' x x' : Int} {d : Nat} (h : okN m x = true) (h' : okN m' x' = true) (hd : x = x' + d) (e : m * (10 ^ d : Nat) = m') : m = m' ∧ x = x' := by
 cases d with
 | zero => simp at e; exact ⟨e, by omega⟩
 | succ d =>
  exfalso
  have hz : m' = 0 := by
   rcases okN_iff.1 h' with ⟨rfl, _⟩ | ⟨_, _, _, ht, _⟩
   ·
    rfl
   ·
    exfalso
    apply ht
    rw [← e, Nat.pow_succ]
    apply Int.tmod_eq_zero_of_dvd
    exact ⟨m * (10 ^ d : Nat), by rw [Int.natCast_mul, ← Int.mul_assoc, Int.mul_comm]; rfl⟩
  have hm : m = 0 := by
   rw [hz] at e
   rcases Int.mul_eq_zero.1 e with h0 | h0
   ·
    exact h0
   ·
    exact absurd h0 (pow_ten_ne _)
  have a1 : x = 0 := by
   rcases okN_iff.1 h with ⟨_, h0⟩ | ⟨h0, _⟩
   ·
    exact h0
   ·
    exact absurd hm h0
  have a2 : x' = 0 := by
   rcases okN_iff.1 h' with ⟨_, h0⟩ | ⟨h0, _⟩
   ·
    exact h0
   ·
    exact absurd hz h0
  omega
theorem scl_cross {m x N m' x' N' : Int} {D D' : Nat} (h : Scl m x N D) (h' : Scl m' x' N' D') (e : N * D' = N' * D) : m * (10 ^ (x.toNat + (-x').toNat) : Nat) = m' * (10 ^ (x'.toNat + (-x).toNat) : Nat) := by
 obtain ⟨p, _, e1⟩ := h
 obtain ⟨p', _, e2⟩ := h'
 have hD : (D : Int) ≠ 0 := by omega
 have hD' : (D' : Int) ≠ 0 := by omega
 apply Int.eq_of_mul_eq_mul_right hD
 apply Int.eq_of_mul_eq_mul_right hD'
 rw [Nat.pow_add, Nat.pow_add, Int.natCast_mul, Int.natCast_mul]
 generalize ((10 ^ x.toNat : Nat) : Int) = a at *
 generalize ((10 ^ (-x).toNat : Nat) : Int) = b at *
 generalize ((10 ^ x'.toNat : Nat) : Int) = c at *
 generalize ((10 ^ (-x').toNat : Nat) : Int) = d at *
 calc m * (a * d) * D * D' = (m * a * D) * (D' * d) := by simp only [Int.mul_assoc, Int.mul_comm, Int.mul_left_comm]
  _ = (N * b) * (D' * d) := by rw [e1]
  _ = (N * D') * (b * d) := by simp only [Int.mul_assoc, Int.mul_comm, Int.mul_left_comm]
  _ = (N' * D) * (b * d) := by rw [e]
  _ = (N' * d) * (b * D) := by simp only [Int.mul_assoc, Int.mul_comm, Int.mul_left_comm]
  _ = (m' * c * D') * (b * D) := by rw [e2]
  _ = m' * (c * b) * D * D' := by simp only [Int.mul_assoc, Int.mul_comm, Int.mul_left_comm]
theorem scl_same {m x N m' x' N' : Int} {D D' : Nat} (ho : okN m x = true) (ho' : okN m' x' = true) (h : Scl m x N D) (h' : Scl m' x' N' D') : N * D' = N' * D ↔ (m = m' ∧ x = x') := by
 constructor
 ·
  intro e
  have c := scl_cross h h' e
  rcases (show x' ≤ x ∨ x ≤ x' by omega) with hx | hx
  ·
   obtain ⟨d, hd⟩ : ∃ d : Nat, x = x' + d := ⟨(x - x').toNat, by omega⟩
   have e3 : x.toNat + (-x').toNat = d + (x'.toNat + (-x).toNat) := by omega
   rw [e3, Nat.pow_add, Int.natCast_mul, ← Int.mul_assoc] at c
   exact ok_same ho ho' hd (Int.eq_of_mul_eq_mul_right (pow_ten_ne _) c)
  ·
   obtain ⟨d, hd⟩ : ∃ d : Nat, x' = x + d := ⟨(x' - x).toNat, by omega⟩
   have e3 : x'.toNat + (-x).toNat = d + (x.toNat + (-x').toNat) := by omega
   have c := c.symm
   rw [e3, Nat.pow_add, Int.natCast_mul, ← Int.mul_assoc] at c
   have := ok_same ho' ho hd (Int.eq_of_mul_eq_mul_right (pow_ten_ne _) c)
   exact ⟨this.1.symm, this.2.symm⟩
 ·
  rintro ⟨rfl, rfl⟩
  obtain ⟨rfl, rfl⟩ := scl_one h h'
  rfl
theorem scl_of (m x : Int) (b : Nat) (a : Int) (hb : 0 < b) (h : a = m * (10 ^ x.toNat : Nat)) (hx : b = 10 ^ (-x).toNat := by rfl) : Scl m x (a / (Nat.gcd a.natAbs b : Nat)) (b / Nat.gcd a.natAbs b) := by
 have hg : 0 < Nat.gcd a.natAbs b := Nat.gcd_pos_of_pos_right _ hb
 have hd : Nat.gcd a.natAbs b ∣ b := Nat.gcd_dvd_right _ _
 have hda : ((Nat.gcd a.natAbs b : Nat) : Int) ∣ a := Int.natAbs_dvd_natAbs.1 (by rw [Int.natAbs_natCast]; exact Nat.gcd_dvd_left _ _)
 obtain ⟨c, hc⟩ := hda
 obtain ⟨d, hdd⟩ := hd
 have hgi : ((Nat.gcd a.natAbs b : Nat) : Int) ≠ 0 := by omega
 have e1 : a / (Nat.gcd a.natAbs b : Nat) = c := by
  rw [show a / ((Nat.gcd a.natAbs b : Nat) : Int) = ((Nat.gcd a.natAbs b : Nat) : Int) * c / ((Nat.gcd a.natAbs b : Nat) : Int) by rw [← hc]]
  exact Int.mul_ediv_cancel_left _ hgi
 have e2 : b / Nat.gcd a.natAbs b = d := by
  rw [show b / Nat.gcd a.natAbs b = Nat.gcd a.natAbs b * d / Nat.gcd a.natAbs b by rw [← hdd]]
  exact Nat.mul_div_cancel_left _ hg
 refine ⟨Nat.div_pos (Nat.le_of_dvd hb (Nat.gcd_dvd_right _ _)) hg, ?_, ?_⟩
 ·
  have e3 : (a / (Nat.gcd a.natAbs b : Nat)).natAbs = a.natAbs / Nat.gcd a.natAbs b := by
   have := congrArg Int.natAbs hc
   rw [Int.natAbs_mul, Int.natAbs_natCast] at this
   rw [e1]
   exact (Nat.div_eq_of_eq_mul_right hg this).symm
  rw [e3]
  exact Nat.coprime_div_gcd_div_gcd hg
 ·
  rw [← hx, ← h, e1, e2]
  generalize Nat.gcd a.natAbs b = g at *
  rw [hdd, hc, Int.natCast_mul]
  simp only [Int.mul_comm, Int.mul_left_comm]
end Q
end Go.Proofs.YtboliplhgpndpaaGreatDoor

namespace Go.Proofs.YtboliplhgpndpaaGreatDoor
open Go.RowKit
namespace Q
theorem scl_ex {m x : Int} (h : okN m x = true) : ∃ N D, Scl m x N D := by
 have hb := okN_bd h
 refine ⟨_, _, scl_of m x (10 ^ (-x).toNat) (m * (10 ^ x.toNat : Nat)) (Nat.pow_pos (by decide)) rfl⟩
theorem cmpIs_val {e : Ending} {m x m' x' N N' : Int} {D D' : Nat} (h : CmpIs e m x m' x') (ho : okN m x = true) (ho' : okN m' x' = true) (hs : Scl m x N D) (hs' : Scl m' x' N' D') : ∃ g, e = .returned (.tuple #[.int .i64 g, .int .i64 0]) ∧ g = isgn (N * D') (N' * D) := by
 rcases h with ⟨hn, _⟩ | ⟨_, N1, D1, N2, D2, h1, h2, rfl⟩
 ·
  exact absurd ⟨ho, ho'⟩ hn
 ·
  obtain ⟨rfl, rfl⟩ := scl_one h1 hs
  obtain ⟨rfl, rfl⟩ := scl_one h2 hs'
  exact ⟨_, rfl, rfl⟩
theorem rrow4 {w : World} {p : Nat} {x0 x1 x2 x3 : Value} (h : F.RRow w p x0 x1 x2 x3) : w.cell? ⟨p, 0, none⟩ = some x0 ∧ w.cell? ⟨p, 1, none⟩ = some x1 ∧ w.cell? ⟨p, 2, none⟩ = some x2 ∧ w.cell? ⟨p, 3, none⟩ = some x3 := ⟨h.c0, h.c1, h.c2, h.c3⟩
set_option maxRecDepth 100000 in
set_option maxHeartbeats 16000000 in
theorem morder_any (m0 x0 m1 x1 m2 x2 : Int) (w : World) (hl : Lay w) :
  Calls Tryz.prog 6 #[.agg #[.int .i64 m0, .int .i64 x0], .agg #[.int .i64 m1, .int .i64 x1], .agg #[.int .i64 m2, .int .i64 x2]] w fun e w' => Kept w w' ∧ e = .returned (.bool true) := by
 have HL := hid' hl
 clear hl
 go_enter Tryz.func6, Tryz.ntmps6
 go_upto_region 1 with fail
 have hK := (((Kept.refl w).alloc (.cells #[.int .i64 m0, .int .i64 x0] 24)).alloc (.cells #[.int .i64 m1, .int .i64 x1] 24)).alloc (.cells #[.int .i64 m2, .int .i64 x2] 24)
 have hR0 := (Row2.alloc 24 w (.int .i64 m0) (.int .i64 x0)).kept (((Kept.refl _).alloc (.cells #[.int .i64 m1, .int .i64 x1] 24)).alloc (.cells #[.int .i64 m2, .int .i64 x2] 24))
 have hR1 := (Row2.alloc 24 (w.alloc (.cells #[.int .i64 m0, .int .i64 x0] 24)) (.int .i64 m1) (.int .i64 x1)).kept ((Kept.refl _).alloc (.cells #[.int .i64 m2, .int .i64 x2] 24))
 have hR2 := Row2.alloc 24 ((w.alloc (.cells #[.int .i64 m0, .int .i64 x0] 24)).alloc (.cells #[.int .i64 m1, .int .i64 x1] 24)) (.int .i64 m2) (.int .i64 x2)
 simp only [World.size_alloc] at hR1 hR2
 generalize ((w.alloc (.cells #[.int .i64 m0, .int .i64 x0] 24)).alloc (.cells #[.int .i64 m1, .int .i64 x1] 24)).alloc (.cells #[.int .i64 m2, .int .i64 x2] 24) = W at hK hR0 hR1 hR2 ⊢
 obtain ⟨p5, hp5⟩ : ∃ p, p = w.heap.size + 1 + 1 := ⟨_, rfl⟩
 rw [← hp5] at hR2 ⊢
 obtain ⟨p4, hp4⟩ : ∃ p, p = w.heap.size + 1 := ⟨_, rfl⟩
 rw [← hp4] at hR1 ⊢
 obtain ⟨p3, hp3⟩ : ∃ p, p = w.heap.size := ⟨_, rfl⟩
 rw [← hp3] at hR0 ⊢
 have HK := hid' hK
 have HR0 := hid' hR0
 have HR1 := hid' hR1
 have HR2 := hid' hR2
 clear hp3 hp4 hp5 hK hR0 hR1 hR2
 go_wp2_with fail
 refine (awake_any _ (HL.out.kept HK.out)).mono ?_
 rintro e w1 ⟨hk, rfl⟩
 have HK1 := hid' hk
 clear hk
 obtain ⟨a0, a1, a2, a3⟩ := (HR0.out.kept HK1.out).all
 obtain ⟨b0, b1, b2, b3⟩ := (HR1.out.kept HK1.out).all
 obtain ⟨c0, c1, c2, c3⟩ := (HR2.out.kept HK1.out).all
 go_wp2_with fail
 refine (RValid_any m0 x0 _).mono ?_
 rintro e w2 ⟨hk, rfl⟩
 have HK2 := hid' (HK1.out.trans hk)
 clear hk a0 a1 a2 a3 b0 b1 b2 b3 c0 c1 c2 c3
 by_cases ho0 : okN m0 x0 = true
 rotate_left
 ·
  have ho0 : okN m0 x0 = false := by simpa using ho0
  rw [ho0]
  clear ho0
  go_wp2
  go_ret
  exact ⟨HK.out.trans HK2.out, rfl⟩
 rw [ho0]
 have HO0 := hid' ho0
 clear ho0
 obtain ⟨a0, a1, a2, a3⟩ := (HR0.out.kept HK2.out).all
 obtain ⟨b0, b1, b2, b3⟩ := (HR1.out.kept HK2.out).all
 obtain ⟨c0, c1, c2, c3⟩ := (HR2.out.kept HK2.out).all
 go_wp2_with fail
 refine (RValid_any m1 x1 _).mono ?_
 rintro e w3 ⟨hk, rfl⟩
 have HK3 := hid' (HK2.out.trans hk)
 clear hk a0 a1 a2 a3 b0 b1 b2 b3 c0 c1 c2 c3
 by_cases ho1 : okN m1 x1 = true
 rotate_left
 ·
  have ho1 : okN m1 x1 = false := by simpa using ho1
  rw [ho1]
  clear ho1
  go_wp2
  go_ret
  exact ⟨HK.out.trans HK3.out, rfl⟩
 rw [ho1]
 have HO1 := hid' ho1
 clear ho1
 obtain ⟨a0, a1, a2, a3⟩ := (HR0.out.kept HK3.out).all
 obtain ⟨b0, b1, b2, b3⟩ := (HR1.out.kept HK3.out).all
 obtain ⟨c0, c1, c2, c3⟩ := (HR2.out.kept HK3.out).all
 go_wp2_with fail
 refine (RValid_any m2 x2 _).mono ?_
 rintro e w4 ⟨hk, rfl⟩
 have HK4 := hid' (HK3.out.trans hk)
 clear hk a0 a1 a2 a3 b0 b1 b2 b3 c0 c1 c2 c3
 by_cases ho2 : okN m2 x2 = true
 rotate_left
 ·
  have ho2 : okN m2 x2 = false := by simpa using ho2
  rw [ho2]
  clear ho2
  go_wp2
  go_ret
  exact ⟨HK.out.trans HK4.out, rfl⟩
 rw [ho2]
 have HO2 := hid' ho2
 clear ho2
 obtain ⟨a0, a1, a2, a3⟩ := (HR0.out.kept HK4.out).all
 obtain ⟨b0, b1, b2, b3⟩ := (HR1.out.kept HK4.out).all
 obtain ⟨c0, c1, c2, c3⟩ := (HR2.out.kept HK4.out).all
 go_wp2_with fail
 obtain ⟨N0, D0, hs0⟩ := scl_ex HO0.out
 obtain ⟨N1, D1, hs1⟩ := scl_ex HO1.out
 obtain ⟨N2, D2, hs2⟩ := scl_ex HO2.out
 have HS0 := hid' hs0
 have HS1 := hid' hs1
 have HS2 := hid' hs2
 clear hs0 hs1 hs2
 refine (cmp_any m0 x0 m1 x1 _).mono ?_
 rintro e w5 ⟨hk, hc⟩
 have HK5 := hid' (HK4.out.trans hk)
 clear hk a0 a1 a2 a3 b0 b1 b2 b3 c0 c1 c2 c3
 obtain ⟨gab, rfl, hgab⟩ := cmpIs_val hc HO0.out HO1.out HS0.out HS1.out
 have HGab := hid' hgab
 clear hc hgab
 obtain ⟨a0, a1, a2, a3⟩ := (HR0.out.kept HK5.out).all
 obtain ⟨b0, b1, b2, b3⟩ := (HR1.out.kept HK5.out).all
 obtain ⟨c0, c1, c2, c3⟩ := (HR2.out.kept HK5.out).all
 go_wp2_with fail
 refine (cmp_any m1 x1 m0 x0 _).mono ?_
 rintro e w6 ⟨hk, hc⟩
 have HK6 := hid' (HK5.out.trans hk)
 clear hk a0 a1 a2 a3 b0 b1 b2 b3 c0 c1 c2 c3
 obtain ⟨gba, rfl, hgba⟩ := cmpIs_val hc HO1.out HO0.out HS1.out HS0.out
 have HGba := hid' hgba
 clear hc hgba
 obtain ⟨a0, a1, a2, a3⟩ := (HR0.out.kept HK6.out).all
 obtain ⟨b0, b1, b2, b3⟩ := (HR1.out.kept HK6.out).all
 obtain ⟨c0, c1, c2, c3⟩ := (HR2.out.kept HK6.out).all
 go_wp2_with fail
 refine (cmp_any m1 x1 m2 x2 _).mono ?_
 rintro e w7 ⟨hk, hc⟩
 have HK7 := hid' (HK6.out.trans hk)
 clear hk a0 a1 a2 a3 b0 b1 b2 b3 c0 c1 c2 c3
 obtain ⟨gbc, rfl, hgbc⟩ := cmpIs_val hc HO1.out HO2.out HS1.out HS2.out
 have HGbc := hid' hgbc
 clear hc hgbc
 obtain ⟨a0, a1, a2, a3⟩ := (HR0.out.kept HK7.out).all
 obtain ⟨b0, b1, b2, b3⟩ := (HR1.out.kept HK7.out).all
 obtain ⟨c0, c1, c2, c3⟩ := (HR2.out.kept HK7.out).all
 go_wp2_with fail
 refine (cmp_any m0 x0 m2 x2 _).mono ?_
 rintro e w8 ⟨hk, hc⟩
 have HK8 := hid' (HK7.out.trans hk)
 clear hk a0 a1 a2 a3 b0 b1 b2 b3 c0 c1 c2 c3
 obtain ⟨gac, rfl, hgac⟩ := cmpIs_val hc HO0.out HO2.out HS0.out HS2.out
 have HGac := hid' hgac
 clear hc hgac
 obtain ⟨a0, a1, a2, a3⟩ := (HR0.out.kept HK8.out).all
 obtain ⟨b0, b1, b2, b3⟩ := (HR1.out.kept HK8.out).all
 obtain ⟨c0, c1, c2, c3⟩ := (HR2.out.kept HK8.out).all
 go_wp2_with fail
 refine (value_any m0 x0 _).mono ?_
 rintro e w9 ⟨hk, hv⟩
 rcases hv with ⟨h, _⟩ | ⟨_, v, N, D, rfl, hq, hs⟩
 ·
  exact absurd (h.symm.trans HO0.out) (by decide)
 obtain ⟨rfl, rfl⟩ := scl_one hs HS0.out
 obtain ⟨s0, ao0, ap0, k0, c0', k0', c0'', l0, l0', rfl, n1, n2, r, i1, i2⟩ := hq
 have hKa := (HK8.out.trans hk).alloc (.cells #[.bool s0, .slice ao0 k0 c0', .bool false, .slice ap0 k0' c0''] 39)
 have HKv0w := hid' (hk.alloc (.cells #[.bool s0, .slice ao0 k0 c0', .bool false, .slice ap0 k0' c0''] 39))
 clear a0 a1 a2 a3 b0 b1 b2 b3 c0 c1 c2 c3
 go_upto_region 10 with fail
 have hV := F.RRow.alloc w9 (.bool s0) (.slice ao0 k0 c0') (.bool false) (.slice ap0 k0' c0'')
 have HQ0 := hid' (And.intro (n1.sl.kept ((Kept.refl _).alloc (.cells #[.bool s0, .slice ao0 k0 c0', .bool false, .slice ap0 k0' c0''] 39))) (And.intro (n2.sl.kept ((Kept.refl _).alloc (.cells #[.bool s0, .slice ao0 k0 c0', .bool false, .slice ap0 k0' c0''] 39))) (And.intro r (And.intro i1 i2))))
 generalize w9.alloc (.cells #[.bool s0, .slice ao0 k0 c0', .bool false, .slice ap0 k0' c0''] 39) = Wv0 at hV HQ0 hKa HKv0w ⊢
 obtain ⟨p15, hpp⟩ : ∃ p, p = w9.heap.size := ⟨_, rfl⟩
 rw [← hpp] at hV ⊢
 have HV0 := hid' hV
 have HKv0 := hid' hKa
 clear hV hKa hpp n1 n2 r i1 i2 hk hs
 obtain ⟨a0, a1, a2, a3⟩ := (HR0.out.kept HKv0.out).all
 obtain ⟨b0, b1, b2, b3⟩ := (HR1.out.kept HKv0.out).all
 obtain ⟨c0, c1, c2, c3⟩ := (HR2.out.kept HKv0.out).all
 go_wp2_with fail
 refine (value_any m1 x1 _).mono ?_
 rintro e w10 ⟨hk, hv⟩
 rcases hv with ⟨h, _⟩ | ⟨_, v, N, D, rfl, hq, hs⟩
 ·
  exact absurd (h.symm.trans HO1.out) (by decide)
 obtain ⟨rfl, rfl⟩ := scl_one hs HS1.out
 obtain ⟨s1, ao1, ap1, k1, c1', k1', c1'', l1, l1', rfl, n1, n2, r, i1, i2⟩ := hq
 have hKa := (HKv0.out.trans hk).alloc (.cells #[.bool s1, .slice ao1 k1 c1', .bool false, .slice ap1 k1' c1''] 39)
 have HKv1w := hid' (hk.alloc (.cells #[.bool s1, .slice ao1 k1 c1', .bool false, .slice ap1 k1' c1''] 39))
 clear a0 a1 a2 a3 b0 b1 b2 b3 c0 c1 c2 c3
 go_upto_region 11 with fail
 have hV := F.RRow.alloc w10 (.bool s1) (.slice ao1 k1 c1') (.bool false) (.slice ap1 k1' c1'')
 have HQ1 := hid' (And.intro (n1.sl.kept ((Kept.refl _).alloc (.cells #[.bool s1, .slice ao1 k1 c1', .bool false, .slice ap1 k1' c1''] 39))) (And.intro (n2.sl.kept ((Kept.refl _).alloc (.cells #[.bool s1, .slice ao1 k1 c1', .bool false, .slice ap1 k1' c1''] 39))) (And.intro r (And.intro i1 i2))))
 generalize w10.alloc (.cells #[.bool s1, .slice ao1 k1 c1', .bool false, .slice ap1 k1' c1''] 39) = Wv1 at hV HQ1 hKa HKv1w ⊢
 obtain ⟨p17, hpp⟩ : ∃ p, p = w10.heap.size := ⟨_, rfl⟩
 rw [← hpp] at hV ⊢
 have HV1 := hid' hV
 have HKv1 := hid' hKa
 clear hV hKa hpp n1 n2 r i1 i2 hk hs
 obtain ⟨a0, a1, a2, a3⟩ := (HR0.out.kept HKv1.out).all
 obtain ⟨b0, b1, b2, b3⟩ := (HR1.out.kept HKv1.out).all
 obtain ⟨c0, c1, c2, c3⟩ := (HR2.out.kept HKv1.out).all
 obtain ⟨y0, y1, y2, y3⟩ := rrow4 (HV0.out.kept (HKv1w.out))
 obtain ⟨z0, z1, z2, z3⟩ := rrow4 HV1.out
 go_wp2_with fail
 refine (F.Cmp_ok s0 false s1 false ao0 ap0 ao1 ap1 k0 c0' k0' c0'' k1 c1' k1' c1'' l0 l0' l1 l1' _ (HQ0.out.1.kept HKv1w.out) (HQ0.out.2.1.kept HKv1w.out) HQ1.out.1 HQ1.out.2.1 HQ0.out.2.2.1 HQ1.out.2.2.1).mono ?_
 rintro e wC ⟨rfl, hk⟩
 rw [HQ0.out.2.2.2.1, HQ0.out.2.2.2.2, HQ1.out.2.2.2.1, HQ1.out.2.2.2.2]
 rw [← HGab.out]
 have HKC := hid' (HKv1.out.trans hk)
 clear hk a0 a1 a2 a3 b0 b1 b2 b3 c0 c1 c2 c3 y0 y1 y2 y3 z0 z1 z2 z3
 obtain ⟨a0, a1, a2, a3⟩ := (HR0.out.kept HKC.out).all
 obtain ⟨b0, b1, b2, b3⟩ := (HR1.out.kept HKC.out).all
 have hba : gba = -gab := by rw [HGba.out, HGab.out]; exact isgn_turn _ _
 have hsm : gab = 0 ↔ (m0 = m1 ∧ x0 = x1) := by rw [HGab.out, isgn_zero]; exact scl_same HO0.out HO1.out HS0.out HS1.out
 have htr : gab ≤ 0 → gbc ≤ 0 → gac ≤ 0 ∧ (gac = 0 → gab = 0 ∧ gbc = 0) := by
  rw [HGab.out, HGbc.out, HGac.out]
  simp only [isgn_le, isgn_zero]
  exact frac_trans HS0.out.1 HS1.out.1 HS2.out.1
 have t1 : gab = -1 ∨ gab = 0 ∨ gab = 1 := by rw [HGab.out]; exact isgn_three _ _
 have t2 : gbc = -1 ∨ gbc = 0 ∨ gbc = 1 := by rw [HGbc.out]; exact isgn_three _ _
 have t3 : gac = -1 ∨ gac = 0 ∨ gac = 1 := by rw [HGac.out]; exact isgn_three _ _
 clear HGab HGba HGbc HGac
 subst hba
 by_cases hz : gab = 0
 ·
  obtain ⟨rfl, rfl⟩ := hsm.1 hz
  subst hz
  clear hsm t1
  have htr := htr (by decide)
  rcases t2 with rfl | rfl | rfl <;> rcases t3 with rfl | rfl | rfl
  all_goals first
   | (exfalso; have := htr (by decide); revert this; decide)
   | (clear htr; go_wp2_with fail; go_ret; exact ⟨HK.out.trans HKC.out, rfl⟩)
 ·
  have hne : ¬ (m0 = m1 ∧ x0 = x1) := fun h => hz (hsm.2 h)
  clear hsm
  rcases t1 with rfl | rfl | rfl
  rotate_left
  ·
   exact absurd rfl hz
  all_goals
   clear hz
   rcases t2 with rfl | rfl | rfl <;> rcases t3 with rfl | rfl | rfl
  all_goals first
   | (exfalso; have := htr (by decide) (by decide); revert this; decide)
   | skip
  all_goals clear htr
  all_goals go_wp2_with fail
  all_goals
   go_ret
   exact ⟨HK.out.trans HKC.out, rfl⟩
end Q
end Go.Proofs.YtboliplhgpndpaaGreatDoor
