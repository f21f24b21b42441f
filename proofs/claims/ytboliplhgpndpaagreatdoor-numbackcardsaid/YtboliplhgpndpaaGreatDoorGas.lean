/- num.Grid; law03's awake. NumBack's walk. -/
import Derived.Test.YtboliplhgpndpaaGreatDoorNscal
import Derived.Test.YtboliplhgpndpaaGreatDoorGak
import Derived.Test.YtboliplhgpndpaaGreatDoorFround
import Derived.Test.YtboliplhgpndpaaGreatDoorGaq
import Derived.Test.YtboliplhgpndpaaGreatDoorNtext
namespace Go.Proofs.YtboliplhgpndpaaGreatDoor
open Go.RowKit
namespace Q
theorem okN_bd {m x : Int} (h : okN m x = true) : -999999999 ≤ m ∧ m ≤ 999999999 ∧ -18 ≤ x ∧ x ≤ 9 := by
 rcases okN_iff.1 h with ⟨rfl, rfl⟩ | ⟨_, h1, h2, _, h4, h5⟩
 ·
  decide
 ·
  exact ⟨h1, h2, h4, h5⟩
def Scl (m x N : Int) (D : Nat) : Prop := 0 < D ∧ Nat.Coprime N.natAbs D ∧ N * (10 ^ (-x).toNat : Nat) = m * (10 ^ x.toNat : Nat) * D
def GridIs (e : Ending) (m x : Int) : Prop :=
 (okN m x = false ∧ e = .returned (.tuple #[.int .i64 0, .int .i64 30])) ∨ (okN m x = true ∧ ∃ N D, Scl m (x + 9) N D ∧ e = .returned (.tuple #[.int .i64 (F.gridV (F.near N D)), .int .i64 (F.gridE (F.near N D))]))
set_option maxRecDepth 100000 in
set_option maxHeartbeats 4000000 in
theorem grid_any (m x : Int) (w : World) : Calls Tryz.prog 15 #[.agg #[.int .i64 m, .int .i64 x]] w fun e w' => Kept w w' ∧ GridIs e m x := by
 go_enter Tryz.func15, Tryz.ntmps15
 go_upto_region 1 with fail
 have hK := (Kept.refl w).alloc (.cells #[.int .i64 m, .int .i64 x] 24)
 have hR := Row2.alloc 24 w (.int .i64 m) (.int .i64 x)
 generalize w.alloc (.cells #[.int .i64 m, .int .i64 x] 24) = W at hK hR ⊢
 obtain ⟨p1, hp1⟩ : ∃ p, p = w.heap.size := ⟨_, rfl⟩
 rw [← hp1] at hR ⊢
 have HK := hid' hK
 have HR := hid' hR
 obtain ⟨q0, q1, q2, q3⟩ := hR.all
 clear hp1 hK hR
 go_wp2_with fail
 refine (Valid_any m x _).mono ?_
 rintro e w1 ⟨hk1, rfl⟩
 have HK1 := hid' (HK.out.trans hk1)
 have hR1 := HR.out.kept hk1
 clear hk1 q0 q1 q2 q3
 by_cases ho : okN m x = true
 ·
  have hb := okN_bd ho
  rw [ho]
  have HO := hid' ho
  clear ho
  obtain ⟨q0, q1, q2, q3⟩ := hR1.all
  have hwr : IntKind.i64.wrap (x + 9) = x + 9 := wrap_i64' (by omega) (by omega)
  clear hR1
  go_wp2_with fail
  refine (scaled_any m (x + 9) (by omega) (by omega) (by omega) (by omega) _).mono ?_
  rintro e w2 ⟨hk2, v, N, D, rfl, hq, he⟩
  have HS : Hid (Scl m (x + 9) N D) := ⟨hq.low.1, hq.low.2, he⟩
  obtain ⟨s, ao, ap, k, c, k', c', l, l', rfl, n1, n2, r, rfl, rfl⟩ := hq
  have H2 := hid' (And.intro n1.sl (And.intro n2.sl r))
  have HK2 := hid' (HK1.out.trans hk2)
  clear n1 n2 r he hk2 q0 q1 q2 q3
  go_wp2_with fail
  refine (F.Round_ok s false ao ap k c k' c' l l' _ H2.out.1 H2.out.2.1 H2.out.2.2).mono ?_
  rintro e w3 ⟨rfl, hk3⟩
  have HK3 := hid' (HK2.out.trans hk3)
  clear hk3
  generalize hgv : F.gridV (F.near (M.int s l) (M.val l')) = gv
  generalize hge : F.gridE (F.near (M.int s l) (M.val l')) = ge
  have HG := hid' (And.intro hgv hge)
  clear hgv hge
  go_wp2
  go_ret2
  exact ⟨HK3.out, .inr ⟨HO.out, _, _, HS.out, by rw [HG.out.1, HG.out.2]; rfl⟩⟩
 ·
  have ho : okN m x = false := by simpa using ho
  rw [ho]
  have HO := hid' ho
  clear ho hR1
  go_wp2
  go_ret2
  exact ⟨HK1.out, .inl ⟨HO.out, rfl⟩⟩
theorem scl_one {N N' m x : Int} {D D' : Nat} (h : Scl m x N D) (h' : Scl m x N' D') : N = N' ∧ D = D' := by
 obtain ⟨p, c, e⟩ := h
 obtain ⟨p', c', e'⟩ := h'
 have e3 : N * D' = N' * D := by
  have hz : (0 : Int) < ((10 ^ (-x).toNat : Nat) : Int) := by have := Nat.pow_pos (n := (-x).toNat) (show 0 < 10 by decide); omega
  have hz' : ((10 ^ (-x).toNat : Nat) : Int) ≠ 0 := by omega
  apply Int.eq_of_mul_eq_mul_right hz'
  rw [Int.mul_right_comm, e, Int.mul_right_comm N', e', Int.mul_right_comm]
 have e4 := congrArg Int.natAbs e3
 rw [Int.natAbs_mul, Int.natAbs_mul, Int.natAbs_natCast, Int.natAbs_natCast] at e4
 have d1 : D ∣ D' := (c.symm.dvd_of_dvd_mul_left (by rw [e4]; exact Nat.dvd_mul_left _ _))
 have d2 : D' ∣ D := (c'.symm.dvd_of_dvd_mul_left (by rw [← e4]; exact Nat.dvd_mul_left _ _))
 have ed := Nat.dvd_antisymm d1 d2
 subst ed
 refine ⟨?_, rfl⟩
 have : (D : Int) ≠ 0 := by omega
 exact Int.eq_of_mul_eq_mul_right this e3
structure Lay (w : World) : Prop where
 lett : Lett w
 err : ErrV w
 tab : Tab w
theorem Lay.kept {w w' : World} (h : Lay w) (k : Kept w w') : Lay w' := ⟨h.lett.kept k, h.err.kept k, h.tab.kept k⟩
set_option maxRecDepth 100000 in
set_option maxHeartbeats 8000000 in
theorem awake_any (w : World) (hl : Lay w) : Calls Tryz.prog 8 #[] w fun e w' => Kept w w' ∧ e = .returned (.bool true) := by
 have HL := hid' hl
 clear hl
 go_enter Tryz.func8, Tryz.ntmps8
 go_wp2_with fail
 refine (parse_any ⟨#[52, 46, 55, 107]⟩ _ HL.out.lett HL.out.err (by decide)).mono ?_
 rintro e w1 ⟨hk1, he⟩
 rw [show parseOf (⟨#[52, 46, 55, 107]⟩ : ByteArray).data.toList = (47, 2, 0) by decide] at he
 obtain rfl : e = .returned (.tuple #[.agg #[.int .i64 47, .int .i64 2], .int .i64 0]) := he
 have HK1 := hid' hk1
 clear hk1
 go_upto_region 2 with fail
 have hR := Row2.alloc 24 w1 (.int .i64 47) (.int .i64 2)
 have hK2 := HK1.out.alloc (.cells #[.int .i64 47, .int .i64 2] 24)
 generalize w1.alloc (.cells #[.int .i64 47, .int .i64 2] 24) = W2 at hR hK2 ⊢
 obtain ⟨p1, hp1⟩ : ∃ p, p = w1.heap.size := ⟨_, rfl⟩
 rw [← hp1] at hR ⊢
 have HR := hid' hR
 have HK2 := hid' hK2
 obtain ⟨q0, q1, q2, q3⟩ := hR.all
 clear hR hK2 hp1
 go_wp2_with fail
 refine (text_any 47 2 _ (HL.out.lett.kept HK2.out) (HL.out.tab.kept HK2.out)).mono ?_
 rintro e w3 ⟨hk3, ht⟩
 rcases ht with ⟨h, _⟩ | ⟨_, t, ht, rfl⟩
 ·
  exact absurd h (by decide)
 have e1 : textOf 47 2 = [52, 55, 48, 48] := by simp [textOf, below, names, Lib.itoa, Lib.decDigits]
 rw [e1] at ht
 obtain rfl := bytes_eq ht.symm
 have HK3 := hid' hk3
 clear ht e1 hk3 q0 q1 q2 q3
 go_wp2_with fail
 refine (grid_any 25 (-10) _).mono ?_
 rintro e w4 ⟨hk4, hg⟩
 rcases hg with ⟨h, _⟩ | ⟨_, N, D, hs, rfl⟩
 ·
  exact absurd h (by decide)
 obtain ⟨rfl, rfl⟩ := scl_one hs (N' := 5) (D' := 2) ⟨by decide, by decide, by decide⟩
 rw [show F.gridV (F.near 5 2) = 2 by decide, show F.gridE (F.near 5 2) = 0 by decide]
 have HR := hid' (HR.out.kept (HK3.out.trans hk4))
 have HK4 := hid' (HK2.out.trans (HK3.out.trans hk4))
 clear hs hk4
 obtain ⟨q0, q1, q2, q3⟩ := HR.out.all
 go_wp2_with fail
 refine (Valid_any 47 2 _).mono ?_
 rintro e w5 ⟨hk5, rfl⟩
 rw [show okN 47 2 = true by decide]
 have HK5 := hid' (HK4.out.trans hk5)
 clear hk5 q0 q1 q2 q3
 go_wp2_with fail
 refine (Valid_any 10 0 _).mono ?_
 rintro e w6 ⟨hk6, rfl⟩
 rw [show okN 10 0 = false by decide]
 have HK6 := hid' (HK5.out.trans hk6)
 clear hk6
 go_wp2
 go_ret
 exact ⟨HK6.out, rfl⟩
end Q
end Go.Proofs.YtboliplhgpndpaaGreatDoor

namespace Go.Proofs.YtboliplhgpndpaaGreatDoor
open Go.RowKit
namespace Q
set_option maxRecDepth 100000 in
set_option maxHeartbeats 16000000 in
theorem mback_any (m x : Int) (s : ByteArray) (w : World) (hl : Lay w) (hs : s.size ≤ maxLen) :
  Calls Tryz.prog 5 #[.agg #[.int .i64 m, .int .i64 x], .string s] w fun e w' => Kept w w' ∧ e = .returned (.bool true) := by
 have HL := hid' hl
 clear hl
 go_enter Tryz.func5, Tryz.ntmps5
 go_upto_region 1 with fail
 have hK := (Kept.refl w).alloc (.cells #[.int .i64 m, .int .i64 x] 24)
 have hR := Row2.alloc 24 w (.int .i64 m) (.int .i64 x)
 generalize w.alloc (.cells #[.int .i64 m, .int .i64 x] 24) = W at hK hR ⊢
 obtain ⟨p2, hp2⟩ : ∃ p, p = w.heap.size := ⟨_, rfl⟩
 rw [← hp2] at hR ⊢
 have HK := hid' hK
 have HR := hid' hR
 clear hp2 hK hR
 go_wp2_with fail
 refine (awake_any _ (HL.out.kept HK.out)).mono ?_
 rintro e w1 ⟨hk1, rfl⟩
 have HK1 := hid' hk1
 obtain ⟨q0, q1, q2, q3⟩ := (HR.out.kept hk1).all
 clear hk1
 go_wp2_with fail
 refine (RValid_any m x _).mono ?_
 rintro e w2 ⟨hk2, rfl⟩
 have HK2 := hid' (HK1.out.trans hk2)
 clear hk2 q0 q1 q2 q3
 obtain ⟨q0, q1, q2, q3⟩ := (HR.out.kept HK2.out).all
 by_cases hok : okN m x = true
 ·
  rw [hok]
  have HOK := hid' hok
  clear hok
  go_wp2_with fail
  refine (text_any m x _ (HL.out.lett.kept (HK.out.trans HK2.out)) (HL.out.tab.kept (HK.out.trans HK2.out))).mono ?_
  rintro e w3 ⟨hk3, ht⟩
  rcases ht with ⟨h, _⟩ | ⟨_, t, ht, rfl⟩
  ·
   exact absurd (h.symm.trans HOK.out) (by decide)
  have HK3 := hid' (HK2.out.trans hk3)
  have hbk := back HOK.out
  have hts : t.size ≤ 15 := by rw [size_list ht]; exact hbk.2
  have HT := hid' (show parseOf t.data.toList = (m, x, 0) by rw [ht]; exact hbk.1)
  clear ht hk3 q0 q1 q2 q3 hbk
  go_wp2_with fail
  refine (parse_any t _ (HL.out.lett.kept (HK.out.trans HK3.out)) (HL.out.err.kept (HK.out.trans HK3.out)) (by unfold maxLen; omega)).mono ?_
  rintro e w4 ⟨hk4, rfl⟩
  rw [HT.out]
  simp only [numE]
  have HK4 := hid' ((HK3.out.trans hk4).alloc (.cells #[.int .i64 m, .int .i64 x] 24))
  clear hk4
  go_upto_region 6 with fail
  have hR7 := Row2.alloc 24 w4 (.int .i64 m) (.int .i64 x)
  generalize w4.alloc (.cells #[.int .i64 m, .int .i64 x] 24) = W4 at hR7 HK4 ⊢
  obtain ⟨p7, hp7⟩ : ∃ p, p = w4.heap.size := ⟨_, rfl⟩
  rw [← hp7] at hR7 ⊢
  obtain ⟨q0, q1, q2, q3⟩ := (HR.out.kept HK4.out).all
  obtain ⟨r0, r1, r2, r3⟩ := hR7.all
  have HKW := hid' (HK.out.trans HK4.out)
  have htl : ¬ (15 : Int) < (t.size : Int) := by omega
  clear hp7 hR7
  go_wp2_with fail
  refine (parse_any s _ (HL.out.lett.kept HKW.out) (HL.out.err.kept HKW.out) hs).mono ?_
  rintro e wA ⟨hkA, rfl⟩
  have HKA := hid' (HKW.out.trans hkA)
  clear hkA
  rcases parse_ok s.data.toList with h | h | ⟨a, b, h, ho⟩
  ·
   rw [h]
   clear h
   simp only [numE]
   go_wp2_with fail
   go_ret
   exact ⟨HKA.out.alloc _, rfl⟩
  ·
   rw [h]
   clear h
   simp only [numE]
   go_wp2_with fail
   go_ret
   exact ⟨HKA.out.alloc _, rfl⟩
  ·
   rw [h]
   have HO := hid' ho
   clear h ho
   simp only [numE]
   go_upto_region 9 with fail
   have hR9 := Row2.alloc 24 wA (.int .i64 a) (.int .i64 b)
   have hK9 := HKA.out.alloc (.cells #[.int .i64 a, .int .i64 b] 24)
   generalize wA.alloc (.cells #[.int .i64 a, .int .i64 b] 24) = W9 at hR9 hK9 ⊢
   obtain ⟨p9, hp9⟩ : ∃ p, p = wA.heap.size := ⟨_, rfl⟩
   rw [← hp9] at hR9 ⊢
   have HR9 := hid' hR9
   have HK9 := hid' hK9
   obtain ⟨x0, x1, x2, x3⟩ := hR9.all
   clear hR9 hK9 hp9
   go_wp2_with fail
   refine (text_any a b _ (HL.out.lett.kept HK9.out) (HL.out.tab.kept HK9.out)).mono ?_
   rintro e wB ⟨hkB, ht⟩
   rcases ht with ⟨h, _⟩ | ⟨_, u, hu, rfl⟩
   ·
    exact absurd (h.symm.trans HO.out) (by decide)
   have HKB := hid' hkB
   have hbk := back HO.out
   have hus : u.size ≤ 15 := by rw [size_list hu]; exact hbk.2
   have HU := hid' (show parseOf u.data.toList = (a, b, 0) by rw [hu]; exact hbk.1)
   clear hu hkB x0 x1 x2 x3 hbk
   go_wp2_with fail
   refine (parse_any u _ (HL.out.lett.kept (HK9.out.trans HKB.out)) (HL.out.err.kept (HK9.out.trans HKB.out)) (by unfold maxLen; omega)).mono ?_
   rintro e wC ⟨hkC, rfl⟩
   rw [HU.out]
   simp only [numE]
   have HKC := hid' (HKB.out.trans hkC)
   clear hkC
   go_upto_region 13 with fail
   have hRC := Row2.alloc 24 wC (.int .i64 a) (.int .i64 b)
   have hKC := HKC.out.alloc (.cells #[.int .i64 a, .int .i64 b] 24)
   generalize wC.alloc (.cells #[.int .i64 a, .int .i64 b] 24) = WC at hRC hKC ⊢
   obtain ⟨pC, hpC⟩ : ∃ p, p = wC.heap.size := ⟨_, rfl⟩
   rw [← hpC] at hRC ⊢
   have HRC := hid' hRC
   have HKD := hid' hKC
   obtain ⟨x0, x1, x2, x3⟩ := (HR9.out.kept hKC).all
   clear hRC hKC hpC
   go_wp2_with fail
   refine (Valid_any a b _).mono ?_
   rintro e wE ⟨hkE, rfl⟩
   rw [HO.out]
   obtain ⟨y0, y1, y2, y3⟩ := (HR9.out.kept (HKD.out.trans hkE)).all
   obtain ⟨z0, z1, z2, z3⟩ := (HRC.out.kept hkE).all
   have HKE := hid' (HK9.out.trans (HKD.out.trans hkE))
   clear hkE x0 x1 x2 x3
   go_wp2_with fail
   go_ret
   exact ⟨HKE.out, rfl⟩
 ·
  have hok : okN m x = false := by simpa using hok
  rw [hok]
  have HKW := hid' (HK.out.trans HK2.out)
  clear hok
  go_wp2_with fail
  refine (parse_any s _ (HL.out.lett.kept HKW.out) (HL.out.err.kept HKW.out) hs).mono ?_
  rintro e wA ⟨hkA, rfl⟩
  have HKA := hid' (HKW.out.trans hkA)
  clear hkA
  rcases parse_ok s.data.toList with h | h | ⟨a, b, h, ho⟩
  ·
   rw [h]
   clear h
   simp only [numE]
   go_wp2_with fail
   go_ret
   exact ⟨HKA.out.alloc _, rfl⟩
  ·
   rw [h]
   clear h
   simp only [numE]
   go_wp2_with fail
   go_ret
   exact ⟨HKA.out.alloc _, rfl⟩
  ·
   rw [h]
   have HO := hid' ho
   clear h ho
   simp only [numE]
   go_upto_region 9 with fail
   have hR9 := Row2.alloc 24 wA (.int .i64 a) (.int .i64 b)
   have hK9 := HKA.out.alloc (.cells #[.int .i64 a, .int .i64 b] 24)
   generalize wA.alloc (.cells #[.int .i64 a, .int .i64 b] 24) = W9 at hR9 hK9 ⊢
   obtain ⟨p9, hp9⟩ : ∃ p, p = wA.heap.size := ⟨_, rfl⟩
   rw [← hp9] at hR9 ⊢
   have HR9 := hid' hR9
   have HK9 := hid' hK9
   obtain ⟨x0, x1, x2, x3⟩ := hR9.all
   clear hR9 hK9 hp9
   go_wp2_with fail
   refine (text_any a b _ (HL.out.lett.kept HK9.out) (HL.out.tab.kept HK9.out)).mono ?_
   rintro e wB ⟨hkB, ht⟩
   rcases ht with ⟨h, _⟩ | ⟨_, u, hu, rfl⟩
   ·
    exact absurd (h.symm.trans HO.out) (by decide)
   have HKB := hid' hkB
   have hbk := back HO.out
   have hus : u.size ≤ 15 := by rw [size_list hu]; exact hbk.2
   have HU := hid' (show parseOf u.data.toList = (a, b, 0) by rw [hu]; exact hbk.1)
   clear hu hkB x0 x1 x2 x3 hbk
   go_wp2_with fail
   refine (parse_any u _ (HL.out.lett.kept (HK9.out.trans HKB.out)) (HL.out.err.kept (HK9.out.trans HKB.out)) (by unfold maxLen; omega)).mono ?_
   rintro e wC ⟨hkC, rfl⟩
   rw [HU.out]
   simp only [numE]
   have HKC := hid' (HKB.out.trans hkC)
   clear hkC
   go_upto_region 13 with fail
   have hRC := Row2.alloc 24 wC (.int .i64 a) (.int .i64 b)
   have hKC := HKC.out.alloc (.cells #[.int .i64 a, .int .i64 b] 24)
   generalize wC.alloc (.cells #[.int .i64 a, .int .i64 b] 24) = WC at hRC hKC ⊢
   obtain ⟨pC, hpC⟩ : ∃ p, p = wC.heap.size := ⟨_, rfl⟩
   rw [← hpC] at hRC ⊢
   have HRC := hid' hRC
   have HKD := hid' hKC
   obtain ⟨x0, x1, x2, x3⟩ := (HR9.out.kept hKC).all
   clear hRC hKC hpC
   go_wp2_with fail
   refine (Valid_any a b _).mono ?_
   rintro e wE ⟨hkE, rfl⟩
   rw [HO.out]
   obtain ⟨y0, y1, y2, y3⟩ := (HR9.out.kept (HKD.out.trans hkE)).all
   obtain ⟨z0, z1, z2, z3⟩ := (HRC.out.kept hkE).all
   have HKE := hid' (HK9.out.trans (HKD.out.trans hkE))
   clear hkE x0 x1 x2 x3
   go_wp2_with fail
   go_ret
   exact ⟨HKE.out, rfl⟩
end Q
end Go.Proofs.YtboliplhgpndpaaGreatDoor
