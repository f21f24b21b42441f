/- shuntref02.Faults: what a list of fractions is refused for. What RatField needs: fractions by their values. The walk of RatField. -/
import Derived.Test.YtfpcoolkkmnngaaFfault
import Derived.Test.YtfpcoolkkmnngaaGap
import Derived.Test.YtfpcoolkkmnngaaFawk
import Derived.Test.YtfpcoolkkmnngaaGae
namespace Go.Proofs.Ytfpcoolkkmnngaa
open Go.RowKit
namespace F

set_option maxHeartbeats 4000000 in
theorem Faults_any (ao : Option Addr) (b off N cap : Nat) (w : World) (m n : Nat → Bool) (aa ad : Nat → Option Addr) (ka ca kd cd : Nat → Nat) (a d : Nat → List Nat) (hao : 0 < N → ao = some ⟨b, off, none⟩) (hN : N ≤ 1000000) (H : RatAll w b off N m n aa ad ka ca kd cd a d) :
    Calls Try.prog 6 #[.slice ao N cap] w fun e w' => Kept w w' ∧ ∃ c : Int, e = .returned (.int .i64 c) ∧ ((c = 0 ∧ ∀ i, i < N → RatR (m i) (n i) (a i) (d i)) ∨ ((c = 10 ∨ c = 20) ∧ ∃ i, i < N ∧ ¬ RatR (m i) (n i) (a i) (d i))) := by
  have HH : Hid (RatAll w b off N m n aa ad ka ca kd cd a d ∧ (0 < N → ao = some ⟨b, off, none⟩)) := ⟨H, hao⟩
  clear H hao
  go_enter Try.func6, Try.ntmps6
  go_wp2_with fail
  go_loopw [3, 4] (fun ve vi wr => ∃ (k : Nat) (c : Int), k ≤ N ∧ vi = .int .i64 (k : Int) ∧ ve = .int .i64 c ∧ Hid (Kept w wr ∧ ((c = 0 ∧ ∀ i, i < k → RatR (m i) (n i) (a i) (d i)) ∨ (c = 20 ∧ ∃ i, i < k ∧ ¬ RatR (m i) (n i) (a i) (d i))))) (fun _ vi _ => N - (intOf vi).toNat)
  case atStart => exact ⟨0, 0, Nat.zero_le _, rfl, rfl, Kept.refl w, .inl ⟨rfl, fun i hi => by omega⟩⟩
  case round =>
    obtain ⟨k, c, hk, rfl, rfl, HK⟩ := hrel
    by_cases hlt : k < N
    · obtain ⟨⟨h0, h1, h2, h3⟩, h4⟩ := HH.out.1 k hlt
      obtain rfl := HH.out.2 (by omega)
      have h0 := cell_kept HK.out.1 h0
      have h1 := cell_kept HK.out.1 h1
      have h2 := cell_kept HK.out.1 h2
      have h3 := cell_kept HK.out.1 h3
      have H4 := hid' h4
      clear h4
      go_wp2_with fail
      refine (Fault_any (m k) (n k) (aa k) (ad k) (ka k) (ca k) (kd k) (cd k) (a k) (d k) _ (H4.out.1.kept HK.out.1) (H4.out.2.1.kept HK.out.1) H4.out.2.2.1 H4.out.2.2.2).mono ?_
      rintro e w1 ⟨hk1, f, rfl, hf⟩
      have HK1 : Hid (Kept w w1) := HK.out.1.trans hk1
      clear hk1 h0 h1 h2 h3
      rcases hf with ⟨rfl, hf⟩ | ⟨rfl, hf⟩ | ⟨rfl, hf⟩
      · have HF := hid' hf
        clear hf
        go_wp2
        go_ret
        exact ⟨HK1.out, 10, rfl, .inr ⟨.inl rfl, k, hlt, fun h => HF.out ⟨h.ra, h.rd⟩⟩⟩
      · have HF := hid' hf
        clear hf
        go_wp2_with fail
        go_roundw
        case rel => exact ⟨k + 1, 20, by omega, by go_num, rfl, HK1.out, .inr ⟨rfl, k, by omega, HF.out.2.2⟩⟩
        case measure => simp [intOf]; omega
      · have HF := hid' hf
        clear hf
        go_wp2_with fail
        go_roundw
        case rel => exact ⟨k + 1, c, by omega, by go_num, rfl, HK1.out, HK.out.2.imp (fun h => ⟨h.1, fun i hi => if e : i = k then by rw [e]; exact HF.out else h.2 i (by omega)⟩) (fun h => ⟨h.1, h.2.imp fun i hi => ⟨by omega, hi.2⟩⟩)⟩
        case measure => simp [intOf]; omega
    · go_wp2
      go_ret
      refine ⟨HK.out.1, c, rfl, HK.out.2.imp (fun h => ⟨h.1, fun i hi => h.2 i (by omega)⟩) (fun h => ⟨.inr h.1, h.2.imp fun i hi => ⟨by omega, hi.2⟩⟩)⟩

end F
end Go.Proofs.Ytfpcoolkkmnngaa

namespace Go.Proofs.Ytfpcoolkkmnngaa
open Go.RowKit
namespace F

/-- N over D is X over Y. -/
def Is (N D X Y : Int) : Prop := N * Y = X * D

theorem Is.sum {A a B b X x Y y N D : Int} (h1 : Is A a X x) (h2 : Is B b Y y) (h : Is N D (A * b + B * a) (a * b)) (ha : a ≠ 0) (hb : b ≠ 0) : Is N D (X * y + Y * x) (x * y) := by
  unfold Is at *
  have hk : (a * b : Int) ≠ 0 := Int.mul_ne_zero ha hb
  apply Int.eq_of_mul_eq_mul_right hk
  have e1 : N * (x * y) * (a * b) = (N * (a * b)) * (x * y) := by grind
  have e2 : (X * y + Y * x) * D * (a * b) = ((A * x) * b * y + (B * y) * a * x) * D := by rw [h1, h2]; grind
  rw [e1, h, e2]
  grind

theorem Is.prod {A a B b X x Y y N D : Int} (h1 : Is A a X x) (h2 : Is B b Y y) (h : Is N D (A * B) (a * b)) (ha : a ≠ 0) (hb : b ≠ 0) : Is N D (X * Y) (x * y) := by
  unfold Is at *
  have hk : (a * b : Int) ≠ 0 := Int.mul_ne_zero ha hb
  apply Int.eq_of_mul_eq_mul_right hk
  have e1 : N * (x * y) * (a * b) = (N * (a * b)) * (x * y) := by grind
  have e2 : (X * Y) * D * (a * b) = ((A * x) * (B * y)) * D := by rw [h1, h2]; grind
  rw [e1, h, e2]
  grind

theorem Is.cross {N D N' D' X Y X' Y' : Int} (h1 : Is N D X Y) (h2 : Is N' D' X' Y') (h : X * Y' = X' * Y) (hY : Y ≠ 0) (hY' : Y' ≠ 0) : N * D' = N' * D := by
  unfold Is at *
  apply Int.eq_of_mul_eq_mul_right (Int.mul_ne_zero hY hY')
  have e1 : N * D' * (Y * Y') = (N * Y) * Y' * D' := by grind
  have e2 : N' * D * (Y * Y') = (N' * Y') * Y * D := by grind
  rw [e1, h1, e2, h2]
  have e3 : X * D * Y' * D' = (X * Y') * (D * D') := by grind
  have e4 : X' * D' * Y * D = (X' * Y) * (D * D') := by grind
  rw [e3, e4, h]

theorem Is.self (N D : Int) : Is N D N D := rfl

theorem IsSum.is {xA xB N : Int} {yA yB D : Nat} (h : IsSum xA yA xB yB N D) : Is N D (xA * yB + xB * yA) ((yA : Int) * yB) := h.eq
theorem IsProd.is {xA xB N : Int} {yA yB D : Nat} (h : IsProd xA yA xB yB N D) : Is N D (xA * xB) ((yA : Int) * yB) := h.eq

/-- Two in lowest terms of one value are one. -/
theorem one_frac {N N' : Int} {D D' : Nat} (h : N * D' = N' * D) (p : 0 < D) (p' : 0 < D') (l : Nat.Coprime N.natAbs D) (l' : Nat.Coprime N'.natAbs D') : N = N' ∧ D = D' := by
  have e := congrArg Int.natAbs h
  rw [Int.natAbs_mul, Int.natAbs_mul, Int.natAbs_natCast, Int.natAbs_natCast] at e
  have d1 : D ∣ D' := l.symm.dvd_of_dvd_mul_left (by rw [e]; exact Nat.dvd_mul_left _ _)
  have d2 : D' ∣ D := l'.symm.dvd_of_dvd_mul_left (by rw [← e]; exact Nat.dvd_mul_left _ _)
  have hd := Nat.dvd_antisymm d1 d2
  subst hd
  exact ⟨Int.eq_of_mul_eq_mul_right (by omega) h, rfl⟩

theorem IsSum.le' {x x' N : Int} {y y' D : Nat} (h : IsSum x y x' y' N D) (hy : 0 < y) (hy' : 0 < y') : D ≤ y * y' ∧ N.natAbs ≤ x.natAbs * y' + x'.natAbs * y := by
  have e := congrArg Int.natAbs h.eq
  rw [Int.natAbs_mul, Int.natAbs_mul, Int.natAbs_mul, Int.natAbs_natCast, Int.natAbs_natCast, Int.natAbs_natCast] at e
  have p := Nat.mul_pos hy hy'
  have hle : (x * y' + x' * y).natAbs ≤ x.natAbs * y' + x'.natAbs * y := by
    have h1 := Int.natAbs_add_le (x * (y' : Int)) (x' * (y : Int))
    rw [Int.natAbs_mul, Int.natAbs_mul, Int.natAbs_natCast, Int.natAbs_natCast] at h1
    exact h1
  constructor
  · exact Nat.le_of_dvd p (h.low.symm.dvd_of_dvd_mul_left (by rw [e]; exact Nat.dvd_mul_left _ _))
  · refine Nat.le_trans ?_ hle
    have hd : N.natAbs ∣ (x * y' + x' * y).natAbs := h.low.dvd_of_dvd_mul_right (by rw [← e]; exact Nat.dvd_mul_right _ _)
    rcases Nat.eq_zero_or_pos (x * y' + x' * y).natAbs with h0 | h0
    · rw [h0, Nat.zero_mul] at e
      rcases Nat.mul_eq_zero.1 e with h1 | h1 <;> omega
    · exact Nat.le_of_dvd h0 hd

theorem IsProd.le {x x' N : Int} {y y' D : Nat} (h : IsProd x y x' y' N D) (hy : 0 < y) (hy' : 0 < y') : D ≤ y * y' ∧ N.natAbs ≤ x.natAbs * x'.natAbs := by
  have e := congrArg Int.natAbs h.eq
  rw [Int.natAbs_mul, Int.natAbs_mul, Int.natAbs_mul, Int.natAbs_mul, Int.natAbs_natCast, Int.natAbs_natCast, Int.natAbs_natCast] at e
  have p := Nat.mul_pos hy hy'
  constructor
  · exact Nat.le_of_dvd p (h.low.symm.dvd_of_dvd_mul_left (by rw [e]; exact Nat.dvd_mul_left _ _))
  · have hd : N.natAbs ∣ x.natAbs * x'.natAbs := h.low.dvd_of_dvd_mul_right (by rw [← e]; exact Nat.dvd_mul_right _ _)
    rcases Nat.eq_zero_or_pos (x.natAbs * x'.natAbs) with h0 | h0
    · rw [h0, Nat.zero_mul] at e
      rcases Nat.mul_eq_zero.1 e with h1 | h1 <;> omega
    · exact Nat.le_of_dvd h0 hd

/-- Any product of two parts of few limbs. -/
theorem pair_le {x y : List Nat} (hx : M.Bd x) (hy : M.Bd y) (h : x.length + y.length ≤ 24) : M.val x * M.val y ≤ 4294967296 ^ 24 := by
  have h1 := Nat.mul_le_mul (Nat.le_of_lt (M.val_lt hx)) (Nat.le_of_lt (M.val_lt hy))
  rw [← Nat.pow_add] at h1
  exact Nat.le_trans h1 (Nat.pow_le_pow_right (by decide) h)

theorem W48 : 2 * (4294967296 ^ 24 * 4294967296 ^ 24) < M.W72 := by unfold M.W72; decide
theorem W24 : 2 * 4294967296 ^ 24 < M.W72 := by unfold M.W72; decide

def tri {α : Type} (x y z : α) (i : Nat) : α := if i = 0 then x else if i = 1 then y else z

theorem RatAll.tri {w : World} {b : Nat} {m n p q r s : Bool} {a1 a2 b1 b2 d1 d2 : Option Addr} {k1 c1 k2 c2 k3 c3 k4 c4 k5 c5 k6 c6 : Nat} {an ad bn bd cn cd : List Nat}
    (h : ∀ o v, (#[Value.bool m, .slice a1 k1 c1, .bool n, .slice a2 k2 c2, .bool p, .slice b1 k3 c3, .bool q, .slice b2 k4 c4, .bool r, .slice d1 k5 c5, .bool s, .slice d2 k6 c6])[o]? = some v → w.cell? ⟨b, o, none⟩ = some v)
    (s1 : Sl w (.slice a1 k1 c1) an) (s2 : Sl w (.slice a2 k2 c2) ad) (s3 : Sl w (.slice b1 k3 c3) bn) (s4 : Sl w (.slice b2 k4 c4) bd) (s5 : Sl w (.slice d1 k5 c5) cn) (s6 : Sl w (.slice d2 k6 c6) cd)
    (l1 : an.length ≤ 9223372036854775807) (l2 : ad.length ≤ 9223372036854775807) (l3 : bn.length ≤ 9223372036854775807) (l4 : bd.length ≤ 9223372036854775807) (l5 : cn.length ≤ 9223372036854775807) (l6 : cd.length ≤ 9223372036854775807) :
    RatAll w b 0 3 (F.tri m p r) (F.tri n q s) (F.tri a1 b1 d1) (F.tri a2 b2 d2) (F.tri k1 k3 k5) (F.tri c1 c3 c5) (F.tri k2 k4 k6) (F.tri c2 c4 c6) (F.tri an bn cn) (F.tri ad bd cd) := by
  intro i hi
  match i, hi with
  | 0, _ => exact ⟨⟨h 0 _ rfl, h 1 _ rfl, h 2 _ rfl, h 3 _ rfl⟩, s1, s2, l1, l2⟩
  | 1, _ => exact ⟨⟨h 4 _ rfl, h 5 _ rfl, h 6 _ rfl, h 7 _ rfl⟩, s3, s4, l3, l4⟩
  | 2, _ => exact ⟨⟨h 8 _ rfl, h 9 _ rfl, h 10 _ rfl, h 11 _ rfl⟩, s5, s6, l5, l6⟩

theorem fits_s {x x' N : Int} {y y' D P W : Nat} (h : IsSum x y x' y' N D) (hy : 0 < y) (hy' : 0 < y') (p1 : x.natAbs * y' ≤ P) (p2 : x'.natAbs * y ≤ P) (p3 : y * y' ≤ P) (hW : 2 * P < W) : N.natAbs < W ∧ D < W := by
  have := h.le' hy hy'
  omega

theorem fits_p {x x' N : Int} {y y' D P W : Nat} (h : IsProd x y x' y' N D) (hy : 0 < y) (hy' : 0 < y') (p1 : x.natAbs * x'.natAbs ≤ P) (p2 : y * y' ≤ P) (hW : P < W) : N.natAbs < W ∧ D < W := by
  have := h.le hy hy'
  omega

theorem rat_eq {s t s' t' : Bool} {x y x' y' : List Nat} (h : RatR s t x y) (h' : RatR s' t' x' y') (bx : M.Bd x) (by_ : M.Bd y) (bx' : M.Bd x') (by_' : M.Bd y') (e1 : M.int s x = M.int s' x') (e2 : M.val y = M.val y') : (s = s' ∧ x = x') ∧ (t = t' ∧ y = y') :=
  ⟨M.int_inj (h.ra.right bx) (h'.ra.right bx') e1, M.int_inj (h.rd.right by_) (h'.rd.right by_') (by rw [h.val, h'.val, e2])⟩

theorem lsame_eq (m n p q : Bool) (va vb vc vd : Value) (a b c d : List Nat) (w : World) (ha : Sl w va a) (hb : Sl w vb b) (hc : Sl w vc c) (hd : Sl w vd d) (hla : a.length ≤ 72) (hlb : b.length ≤ 72) (h : (m = p ∧ a = c) ∧ (n = q ∧ b = d)) :
    Calls Try.prog 10 #[.agg #[.bool m, va, .bool n, vb], .agg #[.bool p, vc, .bool q, vd]] w fun e w' => e = .returned (.bool true) ∧ Kept w w' := by
  obtain ⟨⟨rfl, rfl⟩, rfl, rfl⟩ := h
  exact lsame_r m n va vb vc vd a b w ha hb hc hd (by omega) (by omega)

theorem sgn_sq (n : Bool) (a b : List Nat) : M.int n a * M.int n b = (M.val a : Int) * M.val b := by
  cases n <;> simp [M.int, Int.neg_mul_neg]

theorem val_le {l : List Nat} (h : M.Bd l) (hl : l.length ≤ 24) : M.val l ≤ 4294967296 ^ 24 := Nat.le_of_lt (Nat.lt_of_lt_of_le (M.val_lt h) (Nat.pow_le_pow_right (by decide) hl))

section
variable {xA xB xC Ns Nt Nu Np Nq Nr Nw Nv : Int} {yA yB yC Ds Dt Du Dp Dq Dr Dw Dv : Nat}

theorem fld_t (hs : IsSum xA yA xB yB Ns Ds) (ht : IsSum xB yB xA yA Nt Dt) (pA : 0 < yA) (pB : 0 < yB) : Ns = Nt ∧ Ds = Dt := by
  refine one_frac (Is.cross hs.is ht.is ?_ (Int.mul_ne_zero (by omega) (by omega)) (Int.mul_ne_zero (by omega) (by omega))) hs.pos ht.pos hs.low ht.low
  grind

theorem fld_u (hs : IsSum xA yA xB yB Ns Ds) (hu : IsSum Ns Ds (-xB) yB Nu Du) (lA : Nat.Coprime xA.natAbs yA) (pA : 0 < yA) (pB : 0 < yB) : Nu = xA ∧ Du = yA := by
  have p := hs.pos
  have h := Is.sum hs.is (Is.self (-xB) yB) hu.is (by omega) (by omega)
  refine one_frac (Is.cross h (Is.self xA yA) ?_ (Int.mul_ne_zero (Int.mul_ne_zero (by omega) (by omega)) (by omega)) (by omega)) hu.pos pA hu.low lA
  grind

theorem fld_w (hs : IsSum xA yA xB yB Ns Ds) (hp : IsProd Ns Ds xC yC Np Dp) (hq : IsProd xC yC xA yA Nq Dq) (hr : IsProd xB yB xC yC Nr Dr) (hw : IsSum Nq Dq Nr Dr Nw Dw) (pA : 0 < yA) (pB : 0 < yB) (pC : 0 < yC) : Np = Nw ∧ Dp = Dw := by
  have p := hs.pos
  have p1 := hq.pos
  have p2 := hr.pos
  have h1 := Is.prod hs.is (Is.self xC yC) hp.is (by omega) (by omega)
  have h2 := Is.sum hq.is hr.is hw.is (by omega) (by omega)
  refine one_frac (Is.cross h1 h2 ?_ (Int.mul_ne_zero (Int.mul_ne_zero (by omega) (by omega)) (by omega)) (Int.mul_ne_zero (Int.mul_ne_zero (by omega) (by omega)) (Int.mul_ne_zero (by omega) (by omega)))) hp.pos hw.pos hp.low hw.low
  grind

theorem fld_v {n : Bool} {cn cd : List Nat} (ls : Nat.Coprime Ns.natAbs Ds) (ps : 0 < Ds) (hp : IsProd Ns Ds (M.int n cn) (M.val cd) Np Dp) (hv : IsProd Np Dp (M.int n cd) (M.val cn) Nv Dv) (p1 : 0 < M.val cn) (p2 : 0 < M.val cd) : Nv = Ns ∧ Dv = Ds := by
  have p := hp.pos
  have h := Is.prod hp.is (Is.self (M.int n cd) (M.val cn)) hv.is (by omega) (by omega)
  refine one_frac (Is.cross h (Is.self Ns Ds) ?_ (Int.mul_ne_zero (Int.mul_ne_zero (by omega) (by omega)) (by omega)) (by omega)) hv.pos ps hv.low ls
  have e := sgn_sq n cn cd
  have e1 : Ns * M.int n cn * M.int n cd * Ds = Ns * (M.int n cn * M.int n cd) * Ds := by grind
  rw [e1, e]
  grind
end

end F
end Go.Proofs.Ytfpcoolkkmnngaa

namespace Go.Proofs.Ytfpcoolkkmnngaa
open Go.RowKit
namespace F

theorem same_fits {m n : Bool} {an ad : List Nat} {N : Int} {D : Nat} (h : N = M.int m an ∧ D = M.val ad) (ba : M.Bd an) (bd : M.Bd ad) (hR : RatR m n an ad) : N.natAbs < M.W72 ∧ D < M.W72 := by
  rw [h.1, h.2, M.natAbs_int]
  exact ⟨M.lt_W72 ba hR.ra.1, M.lt_W72 bd hR.rd.1⟩

theorem same_fits' {m n : Bool} {an ad : List Nat} {N NS : Int} {D DS : Nat} (h : N = NS ∧ D = DS) (ba : M.Bd an) (bd : M.Bd ad) (hR : RatR m n an ad) (e1 : M.int m an = NS) (e2 : M.val ad = DS) : N.natAbs < M.W72 ∧ D < M.W72 :=
  same_fits ⟨h.1.trans e1.symm, h.2.trans e2.symm⟩ ba bd hR

theorem bound_p {x x' N z : Int} {y y' D v B : Nat} (h : IsSum x y x' y' N D) (hy : 0 < y) (hy' : 0 < y') (p1 : x.natAbs * y' ≤ B) (p2 : x'.natAbs * y ≤ B) (p3 : y * y' ≤ B) (hz : z.natAbs ≤ B) (hv : v ≤ B) : N.natAbs * z.natAbs ≤ 2 * (B * B) ∧ D * v ≤ 2 * (B * B) := by
  obtain ⟨h1, h2⟩ := h.le' hy hy'
  have e1 : N.natAbs ≤ 2 * B := by omega
  have e2 := Nat.mul_le_mul e1 hz
  have e3 := Nat.mul_le_mul (Nat.le_trans h1 p3) hv
  rw [Nat.mul_assoc] at e2
  exact ⟨e2, by omega⟩

theorem bound_w {xA xB xC Nq Nr : Int} {yA yB yC Dq Dr B : Nat} (hq : IsProd xC yC xA yA Nq Dq) (hr : IsProd xB yB xC yC Nr Dr) (pA : 0 < yA) (pB : 0 < yB) (pC : 0 < yC) (q1 : xC.natAbs * xA.natAbs ≤ B) (q2 : yC * yA ≤ B) (q3 : xB.natAbs * xC.natAbs ≤ B) (q4 : yB * yC ≤ B) : Nq.natAbs * Dr ≤ B * B ∧ Nr.natAbs * Dq ≤ B * B ∧ Dq * Dr ≤ B * B := by
  obtain ⟨a1, a2⟩ := hq.le pC pA
  obtain ⟨b1, b2⟩ := hr.le pB pC
  exact ⟨Nat.mul_le_mul (by omega) (by omega), Nat.mul_le_mul (by omega) (by omega), Nat.mul_le_mul (by omega) (by omega)⟩

theorem sgn_z0 {s : Bool} {l : List Nat} (h : R s l) (hz : M.int s l = 0) : l = [] := by
  apply Classical.byContradiction
  intro hne
  have hp := M.val_pos h.tr hne
  have := M.natAbs_int s l
  omega

theorem len_n0 {s : Bool} {l : List Nat} (h : M.int s l ≠ 0) : l.length ≠ 0 := by
  intro e
  have : l = [] := List.length_eq_zero_iff.1 e
  subst this
  apply h
  cases s <;> simp [M.int, M.val]

set_option maxRecDepth 100000 in
set_option maxHeartbeats 16000000 in
theorem rfld_any (m n p q r s : Bool) (a1 a2 b1 b2 d1 d2 : Option Addr) (k1 c1 k2 c2 k3 c3 k4 c4 k5 c5 k6 c6 : Nat) (an ad bn bd cn cd : List Nat) (w : World) (s1 : Sl w (.slice a1 k1 c1) an) (s2 : Sl w (.slice a2 k2 c2) ad) (s3 : Sl w (.slice b1 k3 c3) bn) (s4 : Sl w (.slice b2 k4 c4) bd) (s5 : Sl w (.slice d1 k5 c5) cn) (s6 : Sl w (.slice d2 k6 c6) cd) (l1 : an.length ≤ 9223372036854775807) (l2 : ad.length ≤ 9223372036854775807) (l3 : bn.length ≤ 9223372036854775807) (l4 : bd.length ≤ 9223372036854775807) (l5 : cn.length ≤ 9223372036854775807) (l6 : cd.length ≤ 9223372036854775807) :
    Calls Try.prog 3 #[.agg #[.bool m, .slice a1 k1 c1, .bool n, .slice a2 k2 c2], .agg #[.bool p, .slice b1 k3 c3, .bool q, .slice b2 k4 c4], .agg #[.bool r, .slice d1 k5 c5, .bool s, .slice d2 k6 c6]] w fun e w' => e = .returned (.bool true) ∧ Kept w w' := by
  have HA : Hid ((Sl w (.slice a1 k1 c1) an ∧ Sl w (.slice a2 k2 c2) ad) ∧ (Sl w (.slice b1 k3 c3) bn ∧ Sl w (.slice b2 k4 c4) bd) ∧ (Sl w (.slice d1 k5 c5) cn ∧ Sl w (.slice d2 k6 c6) cd)) := ⟨⟨s1, s2⟩, ⟨s3, s4⟩, s5, s6⟩
  have HL : Hid ((an.length ≤ 9223372036854775807 ∧ ad.length ≤ 9223372036854775807) ∧ (bn.length ≤ 9223372036854775807 ∧ bd.length ≤ 9223372036854775807) ∧ (cn.length ≤ 9223372036854775807 ∧ cd.length ≤ 9223372036854775807)) := ⟨⟨l1, l2⟩, ⟨l3, l4⟩, l5, l6⟩
  have HE : Hid (k1 = an.length ∧ k2 = ad.length ∧ k3 = bn.length ∧ k4 = bd.length ∧ k5 = cn.length ∧ k6 = cd.length) := ⟨s1.len, s2.len, s3.len, s4.len, s5.len, s6.len⟩
  clear s1 s2 s3 s4 s5 s6 l1 l2 l3 l4 l5 l6
  go_enter Try.func3, Try.ntmps3
  go_wp2_with fail
  refine (awake_yes _).mono ?_
  rintro e w1 ⟨rfl, hk⟩
  have Ha := hid' ((RRow.alloc w (.bool m) (.slice a1 k1 c1) (.bool n) (.slice a2 k2 c2)).kept ((((Kept.refl _).alloc _).alloc _).trans hk))
  have Hb0 := (RRow.alloc (w.alloc (.cells #[.bool m, .slice a1 k1 c1, .bool n, .slice a2 k2 c2] 26)) (.bool p) (.slice b1 k3 c3) (.bool q) (.slice b2 k4 c4)).kept (((Kept.refl _).alloc _).trans hk)
  have Hc0 := (RRow.alloc ((w.alloc (.cells #[.bool m, .slice a1 k1 c1, .bool n, .slice a2 k2 c2] 26)).alloc (.cells #[.bool p, .slice b1 k3 c3, .bool q, .slice b2 k4 c4] 26)) (.bool r) (.slice d1 k5 c5) (.bool s) (.slice d2 k6 c6)).kept hk
  simp only [World.size_alloc] at Hb0 Hc0
  have Hb := hid' Hb0
  have Hc := hid' Hc0
  have HK := hid' (((((Kept.refl w).alloc _).alloc _).alloc _).trans hk)
  clear hk Hb0 Hc0
  have f0 := Ha.out.c0
  have f1 := Ha.out.c1
  have f2 := Ha.out.c2
  have f3 := Ha.out.c3
  have f4 := Hb.out.c0
  have f5 := Hb.out.c1
  have f6 := Hb.out.c2
  have f7 := Hb.out.c3
  have f8 := Hc.out.c0
  have f9 := Hc.out.c1
  have f10 := Hc.out.c2
  have f11 := Hc.out.c3
  go_wp2_with fail
  refine (Faults_any _ w1.heap.size 0 3 3 _ _ _ _ _ _ _ _ _ _ _ (fun _ => rfl) (by omega) (RatAll.tri (m := m) (n := n) (p := p) (q := q) (r := r) (s := s) (a1 := a1) (a2 := a2) (b1 := b1) (b2 := b2) (d1 := d1) (d2 := d2) (k1 := k1) (c1 := c1) (k2 := k2) (c2 := c2) (k3 := k3) (c3 := c3) (k4 := k4) (c4 := c4) (k5 := k5) (c5 := c5) (k6 := k6) (c6 := c6) (fun o v h => (World.cell?_alloc_at _ _ _ _ rfl).trans h) (HA.out.1.1.kept (HK.out.alloc _)) (HA.out.1.2.kept (HK.out.alloc _)) (HA.out.2.1.1.kept (HK.out.alloc _)) (HA.out.2.1.2.kept (HK.out.alloc _)) (HA.out.2.2.1.kept (HK.out.alloc _)) (HA.out.2.2.2.kept (HK.out.alloc _)) HL.out.1.1 HL.out.1.2 HL.out.2.1.1 HL.out.2.1.2 HL.out.2.2.1 HL.out.2.2.2)).mono ?_
  rintro e w2 ⟨hk, c, rfl, hc⟩
  clear f0 f1 f2 f3 f4 f5 f6 f7 f8 f9 f10 f11
  have Ha := hid' (Ha.out.kept (((Kept.refl w1).alloc _).trans hk))
  have Hb := hid' (Hb.out.kept (((Kept.refl w1).alloc _).trans hk))
  have Hc := hid' (Hc.out.kept (((Kept.refl w1).alloc _).trans hk))
  have HK := hid' (HK.out.trans (((Kept.refl w1).alloc _).trans hk))
  clear hk
  rcases hc with ⟨rfl, hc⟩ | ⟨hc, hn⟩
  · have HR : Hid (RatR m n an ad ∧ RatR p q bn bd ∧ RatR r s cn cd) := ⟨hc 0 (by omega), hc 1 (by omega), hc 2 (by omega)⟩
    clear hc
    have b1' : k1 ≤ 72 := by rw [HE.out.1]; exact HR.out.1.ra.1
    have b2' : k2 ≤ 72 := by rw [HE.out.2.1]; exact HR.out.1.rd.1
    have b3' : k3 ≤ 72 := by rw [HE.out.2.2.1]; exact HR.out.2.1.ra.1
    have b4' : k4 ≤ 72 := by rw [HE.out.2.2.2.1]; exact HR.out.2.1.rd.1
    have b5' : k5 ≤ 72 := by rw [HE.out.2.2.2.2.1]; exact HR.out.2.2.ra.1
    have b6' : k6 ≤ 72 := by rw [HE.out.2.2.2.2.2]; exact HR.out.2.2.rd.1
    have f100 := Ha.out.c0
    have f101 := Ha.out.c1
    have f102 := Ha.out.c2
    have f103 := Ha.out.c3
    have f104 := Hb.out.c0
    have f105 := Hb.out.c1
    have f106 := Hb.out.c2
    have f107 := Hb.out.c3
    have f108 := Hc.out.c0
    have f109 := Hc.out.c1
    have f110 := Hc.out.c2
    have f111 := Hc.out.c3
    by_cases hs : 24 < k1 + k2 + k3 + k4 + k5 + k6
    · go_wp2
      go_ret
      exact ⟨rfl, HK.out⟩
    have h24 : k1 + k2 + k3 + k4 + k5 + k6 ≤ 24 := by omega
    have HS : Hid (an.length + ad.length + bn.length + bd.length + cn.length + cd.length ≤ 24) := by have h := HE.out; show _ ≤ _; omega
    obtain ⟨BB, hBB⟩ : ∃ B : Nat, B = 4294967296 ^ 24 := ⟨_, rfl⟩
    have HBB : Hid (4294967296 ^ 24 = BB) := hBB.symm
    clear hBB
    have HW : Hid (2 * (BB * BB) < M.W72 ∧ 2 * BB < M.W72) := by have h1 := W48; have h2 := W24; rw [HBB.out] at h1 h2; exact ⟨h1, h2⟩
    have HQ : Hid ((M.int m an).natAbs * M.val bd ≤ BB ∧ (M.int p bn).natAbs * M.val ad ≤ BB ∧ M.val ad * M.val bd ≤ BB ∧ (M.int r cn).natAbs ≤ BB ∧ M.val cd ≤ BB ∧ (M.int r cn).natAbs * (M.int m an).natAbs ≤ BB ∧ M.val cd * M.val ad ≤ BB ∧ (M.int p bn).natAbs * (M.int r cn).natAbs ≤ BB ∧ M.val bd * M.val cd ≤ BB) := by
      have h := HS.out
      obtain ⟨⟨u1, u2⟩, ⟨u3, u4⟩, u5, u6⟩ := HA.out
      rw [← HBB.out]
      simp only [M.natAbs_int]
      exact ⟨pair_le u1.bd u4.bd (by omega), pair_le u3.bd u2.bd (by omega), pair_le u2.bd u4.bd (by omega), val_le u5.bd (by omega), val_le u6.bd (by omega), pair_le u5.bd u1.bd (by omega), pair_le u6.bd u2.bd (by omega), pair_le u3.bd u5.bd (by omega), pair_le u4.bd u6.bd (by omega)⟩
    have HP : Hid (0 < M.val ad ∧ 0 < M.val bd ∧ 0 < M.val cd) := ⟨HR.out.1.vpos, HR.out.2.1.vpos, HR.out.2.2.vpos⟩
    clear hs
    clear f100 f101 f102 f103 f104 f105 f106 f107 f108 f109 f110 f111
    have f200 := Ha.out.c0
    have f201 := Ha.out.c1
    have f202 := Ha.out.c2
    have f203 := Ha.out.c3
    have f204 := Hb.out.c0
    have f205 := Hb.out.c1
    have f206 := Hb.out.c2
    have f207 := Hb.out.c3
    have f208 := Hc.out.c0
    have f209 := Hc.out.c1
    have f210 := Hc.out.c2
    have f211 := Hc.out.c3
    go_wp2_with fail
    refine (Add_ok m n p q a1 a2 b1 b2 k1 c1 k2 c2 k3 c3 k4 c4 an ad bn bd _ (HA.out.1.1.kept (HK.out.trans (Kept.refl w2))) (HA.out.1.2.kept (HK.out.trans (Kept.refl w2))) (HA.out.2.1.1.kept (HK.out.trans (Kept.refl w2))) (HA.out.2.1.2.kept (HK.out.trans (Kept.refl w2))) HR.out.1 HR.out.2.1).mono ?_
    rintro e w3 ⟨hk, NS, DS, hSS, hRS⟩
    clear f200 f201 f202 f203 f204 f205 f206 f207 f208 f209 f210 f211
    have Ha := hid' (Ha.out.kept ((Kept.refl w2).trans hk))
    have Hb := hid' (Hb.out.kept ((Kept.refl w2).trans hk))
    have Hc := hid' (Hc.out.kept ((Kept.refl w2).trans hk))
    have HK := hid' (HK.out.trans ((Kept.refl w2).trans hk))
    obtain ⟨vS, rfl, hqS⟩ := hRS.resolve_right (fun h => h.2 (fits_s hSS HP.out.1 HP.out.2.1 HQ.out.1 HQ.out.2.1 HQ.out.2.2.1 HW.out.2))
    obtain ⟨sS, aoS, iS, jS, xS, tS, apS, gS, hS, yS, rfl, n1, r1, e1, n2, r2, e2, R1⟩ := hqS.right (by have := hSS.pos; omega) (by rw [Int.natAbs_natCast]; exact hSS.low)
    have HS : Hid (Sl w3 (.slice aoS iS jS) xS ∧ Sl w3 (.slice apS gS hS) yS ∧ RatR sS tS xS yS ∧ M.int sS xS = NS ∧ M.val yS = DS ∧ IsSum (M.int m an) (M.val ad) (M.int p bn) (M.val bd) NS DS) := ⟨n1.sl, n2.sl, R1, e1, by have := R1.val; omega, hSS⟩
    have HS_ := hid' HS.out.2.2.2.2.2
    clear hSS hRS hqS n1 r1 e1 n2 r2 e2 R1
    clear hk
    have f212 := fun x => (Ha.out.kept ((Kept.refl w3).alloc x)).c0
    have f213 := fun x => (Ha.out.kept ((Kept.refl w3).alloc x)).c1
    have f214 := fun x => (Ha.out.kept ((Kept.refl w3).alloc x)).c2
    have f215 := fun x => (Ha.out.kept ((Kept.refl w3).alloc x)).c3
    have f216 := fun x => (Hb.out.kept ((Kept.refl w3).alloc x)).c0
    have f217 := fun x => (Hb.out.kept ((Kept.refl w3).alloc x)).c1
    have f218 := fun x => (Hb.out.kept ((Kept.refl w3).alloc x)).c2
    have f219 := fun x => (Hb.out.kept ((Kept.refl w3).alloc x)).c3
    have f220 := fun x => (Hc.out.kept ((Kept.refl w3).alloc x)).c0
    have f221 := fun x => (Hc.out.kept ((Kept.refl w3).alloc x)).c1
    have f222 := fun x => (Hc.out.kept ((Kept.refl w3).alloc x)).c2
    have f223 := fun x => (Hc.out.kept ((Kept.refl w3).alloc x)).c3
    go_wp2_with fail
    refine (Add_ok p q m n b1 b2 a1 a2 k3 c3 k4 c4 k1 c1 k2 c2 bn bd an ad _ (HA.out.2.1.1.kept (HK.out.trans ((Kept.refl w3).alloc _))) (HA.out.2.1.2.kept (HK.out.trans ((Kept.refl w3).alloc _))) (HA.out.1.1.kept (HK.out.trans ((Kept.refl w3).alloc _))) (HA.out.1.2.kept (HK.out.trans ((Kept.refl w3).alloc _))) HR.out.2.1 HR.out.1).mono ?_
    rintro e w4 ⟨hk, NT, DT, hST, hRT⟩
    clear f212 f213 f214 f215 f216 f217 f218 f219 f220 f221 f222 f223
    have HRS := hid' ((RRow.alloc w3 (.bool sS) (.slice aoS iS jS) (.bool tS) (.slice apS gS hS)).kept hk)
    have Ha := hid' (Ha.out.kept (((Kept.refl w3).alloc _).trans hk))
    have Hb := hid' (Hb.out.kept (((Kept.refl w3).alloc _).trans hk))
    have Hc := hid' (Hc.out.kept (((Kept.refl w3).alloc _).trans hk))
    have HK := hid' (HK.out.trans (((Kept.refl w3).alloc _).trans hk))
    have HS := hid' (And.intro (HS.out.1.kept (((Kept.refl w3).alloc _).trans hk)) (And.intro (HS.out.2.1.kept (((Kept.refl w3).alloc _).trans hk)) HS.out.2.2))
    obtain ⟨vT, rfl, hqT⟩ := hRT.resolve_right (fun h => h.2 (fits_s hST HP.out.2.1 HP.out.1 HQ.out.2.1 HQ.out.1 (by rw [Nat.mul_comm]; exact HQ.out.2.2.1) HW.out.2))
    obtain ⟨sT, aoT, iT, jT, xT, tT, apT, gT, hT, yT, rfl, n1, r1, e1, n2, r2, e2, R1⟩ := hqT.right (by have := hST.pos; omega) (by rw [Int.natAbs_natCast]; exact hST.low)
    have HT : Hid (Sl w4 (.slice aoT iT jT) xT ∧ Sl w4 (.slice apT gT hT) yT ∧ RatR sT tT xT yT ∧ M.int sT xT = NT ∧ M.val yT = DT ∧ IsSum (M.int p bn) (M.val bd) (M.int m an) (M.val ad) NT DT) := ⟨n1.sl, n2.sl, R1, e1, by have := R1.val; omega, hST⟩
    clear hST hRT hqT n1 r1 e1 n2 r2 e2 R1
    clear hk
    have f224 := fun x => (Ha.out.kept ((Kept.refl w4).alloc x)).c0
    have f225 := fun x => (Ha.out.kept ((Kept.refl w4).alloc x)).c1
    have f226 := fun x => (Ha.out.kept ((Kept.refl w4).alloc x)).c2
    have f227 := fun x => (Ha.out.kept ((Kept.refl w4).alloc x)).c3
    have f228 := fun x => (Hb.out.kept ((Kept.refl w4).alloc x)).c0
    have f229 := fun x => (Hb.out.kept ((Kept.refl w4).alloc x)).c1
    have f230 := fun x => (Hb.out.kept ((Kept.refl w4).alloc x)).c2
    have f231 := fun x => (Hb.out.kept ((Kept.refl w4).alloc x)).c3
    have f232 := fun x => (Hc.out.kept ((Kept.refl w4).alloc x)).c0
    have f233 := fun x => (Hc.out.kept ((Kept.refl w4).alloc x)).c1
    have f234 := fun x => (Hc.out.kept ((Kept.refl w4).alloc x)).c2
    have f235 := fun x => (Hc.out.kept ((Kept.refl w4).alloc x)).c3
    have f236 := fun x => (HRS.out.kept ((Kept.refl w4).alloc x)).c0
    have f237 := fun x => (HRS.out.kept ((Kept.refl w4).alloc x)).c1
    have f238 := fun x => (HRS.out.kept ((Kept.refl w4).alloc x)).c2
    have f239 := fun x => (HRS.out.kept ((Kept.refl w4).alloc x)).c3
    go_wp2_with fail
    refine (Sub_ok sS tS p q aoS apS b1 b2 iS jS gS hS k3 c3 k4 c4 xS yS bn bd _ (HS.out.1.kept ((Kept.refl w4).alloc _)) (HS.out.2.1.kept ((Kept.refl w4).alloc _)) (HA.out.2.1.1.kept (HK.out.trans ((Kept.refl w4).alloc _))) (HA.out.2.1.2.kept (HK.out.trans ((Kept.refl w4).alloc _))) HS.out.2.2.1 HR.out.2.1).mono ?_
    rintro e w5 ⟨hk, NU, DU, hSU, hRU⟩
    clear f224 f225 f226 f227 f228 f229 f230 f231 f232 f233 f234 f235 f236 f237 f238 f239
    have HRT := hid' ((RRow.alloc w4 (.bool sT) (.slice aoT iT jT) (.bool tT) (.slice apT gT hT)).kept hk)
    have Ha := hid' (Ha.out.kept (((Kept.refl w4).alloc _).trans hk))
    have Hb := hid' (Hb.out.kept (((Kept.refl w4).alloc _).trans hk))
    have Hc := hid' (Hc.out.kept (((Kept.refl w4).alloc _).trans hk))
    have HRS := hid' (HRS.out.kept (((Kept.refl w4).alloc _).trans hk))
    have HK := hid' (HK.out.trans (((Kept.refl w4).alloc _).trans hk))
    have HS := hid' (And.intro (HS.out.1.kept (((Kept.refl w4).alloc _).trans hk)) (And.intro (HS.out.2.1.kept (((Kept.refl w4).alloc _).trans hk)) HS.out.2.2))
    have HT := hid' (And.intro (HT.out.1.kept (((Kept.refl w4).alloc _).trans hk)) (And.intro (HT.out.2.1.kept (((Kept.refl w4).alloc _).trans hk)) HT.out.2.2))
    have HS' := hid' HS_.out
    rw [HS.out.2.2.2.1, HS.out.2.2.2.2.1] at hSU
    obtain ⟨vU, rfl, hqU⟩ := hRU.resolve_right (fun h => h.2 (same_fits (fld_u HS'.out hSU (by rw [M.natAbs_int]; exact HR.out.1.low) HP.out.1 HP.out.2.1) HA.out.1.1.bd HA.out.1.2.bd HR.out.1))
    obtain ⟨sU, aoU, iU, jU, xU, tU, apU, gU, hU, yU, rfl, n1, r1, e1, n2, r2, e2, R1⟩ := hqU.right (by have := hSU.pos; omega) (by rw [Int.natAbs_natCast]; exact hSU.low)
    have HU : Hid (Sl w5 (.slice aoU iU jU) xU ∧ Sl w5 (.slice apU gU hU) yU ∧ RatR sU tU xU yU ∧ M.int sU xU = NU ∧ M.val yU = DU ∧ IsSum NS DS (-(M.int p bn)) (M.val bd) NU DU) := ⟨n1.sl, n2.sl, R1, e1, by have := R1.val; omega, hSU⟩
    clear hSU hRU hqU n1 r1 e1 n2 r2 e2 R1
    clear hk
    have f240 := fun x => (Ha.out.kept ((Kept.refl w5).alloc x)).c0
    have f241 := fun x => (Ha.out.kept ((Kept.refl w5).alloc x)).c1
    have f242 := fun x => (Ha.out.kept ((Kept.refl w5).alloc x)).c2
    have f243 := fun x => (Ha.out.kept ((Kept.refl w5).alloc x)).c3
    have f244 := fun x => (Hb.out.kept ((Kept.refl w5).alloc x)).c0
    have f245 := fun x => (Hb.out.kept ((Kept.refl w5).alloc x)).c1
    have f246 := fun x => (Hb.out.kept ((Kept.refl w5).alloc x)).c2
    have f247 := fun x => (Hb.out.kept ((Kept.refl w5).alloc x)).c3
    have f248 := fun x => (Hc.out.kept ((Kept.refl w5).alloc x)).c0
    have f249 := fun x => (Hc.out.kept ((Kept.refl w5).alloc x)).c1
    have f250 := fun x => (Hc.out.kept ((Kept.refl w5).alloc x)).c2
    have f251 := fun x => (Hc.out.kept ((Kept.refl w5).alloc x)).c3
    have f252 := fun x => (HRS.out.kept ((Kept.refl w5).alloc x)).c0
    have f253 := fun x => (HRS.out.kept ((Kept.refl w5).alloc x)).c1
    have f254 := fun x => (HRS.out.kept ((Kept.refl w5).alloc x)).c2
    have f255 := fun x => (HRS.out.kept ((Kept.refl w5).alloc x)).c3
    have f256 := fun x => (HRT.out.kept ((Kept.refl w5).alloc x)).c0
    have f257 := fun x => (HRT.out.kept ((Kept.refl w5).alloc x)).c1
    have f258 := fun x => (HRT.out.kept ((Kept.refl w5).alloc x)).c2
    have f259 := fun x => (HRT.out.kept ((Kept.refl w5).alloc x)).c3
    go_wp2_with fail
    refine (Mul_ok sS tS r s aoS apS d1 d2 iS jS gS hS k5 c5 k6 c6 xS yS cn cd _ (HS.out.1.kept ((Kept.refl w5).alloc _)) (HS.out.2.1.kept ((Kept.refl w5).alloc _)) (HA.out.2.2.1.kept (HK.out.trans ((Kept.refl w5).alloc _))) (HA.out.2.2.2.kept (HK.out.trans ((Kept.refl w5).alloc _))) HS.out.2.2.1 HR.out.2.2).mono ?_
    rintro e w6 ⟨hk, NP, DP, hSP, hRP⟩
    clear f240 f241 f242 f243 f244 f245 f246 f247 f248 f249 f250 f251 f252 f253 f254 f255 f256 f257 f258 f259
    have HRU := hid' ((RRow.alloc w5 (.bool sU) (.slice aoU iU jU) (.bool tU) (.slice apU gU hU)).kept hk)
    have Ha := hid' (Ha.out.kept (((Kept.refl w5).alloc _).trans hk))
    have Hb := hid' (Hb.out.kept (((Kept.refl w5).alloc _).trans hk))
    have Hc := hid' (Hc.out.kept (((Kept.refl w5).alloc _).trans hk))
    have HRS := hid' (HRS.out.kept (((Kept.refl w5).alloc _).trans hk))
    have HRT := hid' (HRT.out.kept (((Kept.refl w5).alloc _).trans hk))
    have HK := hid' (HK.out.trans (((Kept.refl w5).alloc _).trans hk))
    have HS := hid' (And.intro (HS.out.1.kept (((Kept.refl w5).alloc _).trans hk)) (And.intro (HS.out.2.1.kept (((Kept.refl w5).alloc _).trans hk)) HS.out.2.2))
    have HT := hid' (And.intro (HT.out.1.kept (((Kept.refl w5).alloc _).trans hk)) (And.intro (HT.out.2.1.kept (((Kept.refl w5).alloc _).trans hk)) HT.out.2.2))
    have HU := hid' (And.intro (HU.out.1.kept (((Kept.refl w5).alloc _).trans hk)) (And.intro (HU.out.2.1.kept (((Kept.refl w5).alloc _).trans hk)) HU.out.2.2))
    rw [HS.out.2.2.2.1, HS.out.2.2.2.2.1] at hSP
    obtain ⟨vP, rfl, hqP⟩ := hRP.resolve_right (fun h => h.2 (fits_p hSP HS_.out.pos HP.out.2.2 (bound_p HS_.out HP.out.1 HP.out.2.1 HQ.out.1 HQ.out.2.1 HQ.out.2.2.1 HQ.out.2.2.2.1 HQ.out.2.2.2.2.1).1 (bound_p HS_.out HP.out.1 HP.out.2.1 HQ.out.1 HQ.out.2.1 HQ.out.2.2.1 HQ.out.2.2.2.1 HQ.out.2.2.2.2.1).2 HW.out.1))
    obtain ⟨sP, aoP, iP, jP, xP, tP, apP, gP, hP, yP, rfl, n1, r1, e1, n2, r2, e2, R1⟩ := hqP.right (by have := hSP.pos; omega) (by rw [Int.natAbs_natCast]; exact hSP.low)
    have HPr : Hid (Sl w6 (.slice aoP iP jP) xP ∧ Sl w6 (.slice apP gP hP) yP ∧ RatR sP tP xP yP ∧ M.int sP xP = NP ∧ M.val yP = DP ∧ IsProd NS DS (M.int r cn) (M.val cd) NP DP) := ⟨n1.sl, n2.sl, R1, e1, by have := R1.val; omega, hSP⟩
    have HP_ := hid' HPr.out.2.2.2.2.2
    clear hSP hRP hqP n1 r1 e1 n2 r2 e2 R1
    clear hk
    have f260 := fun x => (Ha.out.kept ((Kept.refl w6).alloc x)).c0
    have f261 := fun x => (Ha.out.kept ((Kept.refl w6).alloc x)).c1
    have f262 := fun x => (Ha.out.kept ((Kept.refl w6).alloc x)).c2
    have f263 := fun x => (Ha.out.kept ((Kept.refl w6).alloc x)).c3
    have f264 := fun x => (Hb.out.kept ((Kept.refl w6).alloc x)).c0
    have f265 := fun x => (Hb.out.kept ((Kept.refl w6).alloc x)).c1
    have f266 := fun x => (Hb.out.kept ((Kept.refl w6).alloc x)).c2
    have f267 := fun x => (Hb.out.kept ((Kept.refl w6).alloc x)).c3
    have f268 := fun x => (Hc.out.kept ((Kept.refl w6).alloc x)).c0
    have f269 := fun x => (Hc.out.kept ((Kept.refl w6).alloc x)).c1
    have f270 := fun x => (Hc.out.kept ((Kept.refl w6).alloc x)).c2
    have f271 := fun x => (Hc.out.kept ((Kept.refl w6).alloc x)).c3
    have f272 := fun x => (HRS.out.kept ((Kept.refl w6).alloc x)).c0
    have f273 := fun x => (HRS.out.kept ((Kept.refl w6).alloc x)).c1
    have f274 := fun x => (HRS.out.kept ((Kept.refl w6).alloc x)).c2
    have f275 := fun x => (HRS.out.kept ((Kept.refl w6).alloc x)).c3
    have f276 := fun x => (HRT.out.kept ((Kept.refl w6).alloc x)).c0
    have f277 := fun x => (HRT.out.kept ((Kept.refl w6).alloc x)).c1
    have f278 := fun x => (HRT.out.kept ((Kept.refl w6).alloc x)).c2
    have f279 := fun x => (HRT.out.kept ((Kept.refl w6).alloc x)).c3
    have f280 := fun x => (HRU.out.kept ((Kept.refl w6).alloc x)).c0
    have f281 := fun x => (HRU.out.kept ((Kept.refl w6).alloc x)).c1
    have f282 := fun x => (HRU.out.kept ((Kept.refl w6).alloc x)).c2
    have f283 := fun x => (HRU.out.kept ((Kept.refl w6).alloc x)).c3
    go_wp2_with fail
    refine (Mul_ok r s m n d1 d2 a1 a2 k5 c5 k6 c6 k1 c1 k2 c2 cn cd an ad _ (HA.out.2.2.1.kept (HK.out.trans ((Kept.refl w6).alloc _))) (HA.out.2.2.2.kept (HK.out.trans ((Kept.refl w6).alloc _))) (HA.out.1.1.kept (HK.out.trans ((Kept.refl w6).alloc _))) (HA.out.1.2.kept (HK.out.trans ((Kept.refl w6).alloc _))) HR.out.2.2 HR.out.1).mono ?_
    rintro e w7 ⟨hk, NQ, DQ, hSQ, hRQ⟩
    clear f260 f261 f262 f263 f264 f265 f266 f267 f268 f269 f270 f271 f272 f273 f274 f275 f276 f277 f278 f279 f280 f281 f282 f283
    have HRP := hid' ((RRow.alloc w6 (.bool sP) (.slice aoP iP jP) (.bool tP) (.slice apP gP hP)).kept hk)
    have Ha := hid' (Ha.out.kept (((Kept.refl w6).alloc _).trans hk))
    have Hb := hid' (Hb.out.kept (((Kept.refl w6).alloc _).trans hk))
    have Hc := hid' (Hc.out.kept (((Kept.refl w6).alloc _).trans hk))
    have HRS := hid' (HRS.out.kept (((Kept.refl w6).alloc _).trans hk))
    have HRT := hid' (HRT.out.kept (((Kept.refl w6).alloc _).trans hk))
    have HRU := hid' (HRU.out.kept (((Kept.refl w6).alloc _).trans hk))
    have HK := hid' (HK.out.trans (((Kept.refl w6).alloc _).trans hk))
    have HS := hid' (And.intro (HS.out.1.kept (((Kept.refl w6).alloc _).trans hk)) (And.intro (HS.out.2.1.kept (((Kept.refl w6).alloc _).trans hk)) HS.out.2.2))
    have HT := hid' (And.intro (HT.out.1.kept (((Kept.refl w6).alloc _).trans hk)) (And.intro (HT.out.2.1.kept (((Kept.refl w6).alloc _).trans hk)) HT.out.2.2))
    have HU := hid' (And.intro (HU.out.1.kept (((Kept.refl w6).alloc _).trans hk)) (And.intro (HU.out.2.1.kept (((Kept.refl w6).alloc _).trans hk)) HU.out.2.2))
    have HPr := hid' (And.intro (HPr.out.1.kept (((Kept.refl w6).alloc _).trans hk)) (And.intro (HPr.out.2.1.kept (((Kept.refl w6).alloc _).trans hk)) HPr.out.2.2))
    obtain ⟨vQ, rfl, hqQ⟩ := hRQ.resolve_right (fun h => h.2 (fits_p hSQ HP.out.2.2 HP.out.1 HQ.out.2.2.2.2.2.1 HQ.out.2.2.2.2.2.2.1 (by have := HW.out.2; omega)))
    obtain ⟨sQ, aoQ, iQ, jQ, xQ, tQ, apQ, gQ, hQ, yQ, rfl, n1, r1, e1, n2, r2, e2, R1⟩ := hqQ.right (by have := hSQ.pos; omega) (by rw [Int.natAbs_natCast]; exact hSQ.low)
    have HQr : Hid (Sl w7 (.slice aoQ iQ jQ) xQ ∧ Sl w7 (.slice apQ gQ hQ) yQ ∧ RatR sQ tQ xQ yQ ∧ M.int sQ xQ = NQ ∧ M.val yQ = DQ ∧ IsProd (M.int r cn) (M.val cd) (M.int m an) (M.val ad) NQ DQ) := ⟨n1.sl, n2.sl, R1, e1, by have := R1.val; omega, hSQ⟩
    have HQ_ := hid' HQr.out.2.2.2.2.2
    clear hSQ hRQ hqQ n1 r1 e1 n2 r2 e2 R1
    clear hk
    have f284 := fun x => (Ha.out.kept ((Kept.refl w7).alloc x)).c0
    have f285 := fun x => (Ha.out.kept ((Kept.refl w7).alloc x)).c1
    have f286 := fun x => (Ha.out.kept ((Kept.refl w7).alloc x)).c2
    have f287 := fun x => (Ha.out.kept ((Kept.refl w7).alloc x)).c3
    have f288 := fun x => (Hb.out.kept ((Kept.refl w7).alloc x)).c0
    have f289 := fun x => (Hb.out.kept ((Kept.refl w7).alloc x)).c1
    have f290 := fun x => (Hb.out.kept ((Kept.refl w7).alloc x)).c2
    have f291 := fun x => (Hb.out.kept ((Kept.refl w7).alloc x)).c3
    have f292 := fun x => (Hc.out.kept ((Kept.refl w7).alloc x)).c0
    have f293 := fun x => (Hc.out.kept ((Kept.refl w7).alloc x)).c1
    have f294 := fun x => (Hc.out.kept ((Kept.refl w7).alloc x)).c2
    have f295 := fun x => (Hc.out.kept ((Kept.refl w7).alloc x)).c3
    have f296 := fun x => (HRS.out.kept ((Kept.refl w7).alloc x)).c0
    have f297 := fun x => (HRS.out.kept ((Kept.refl w7).alloc x)).c1
    have f298 := fun x => (HRS.out.kept ((Kept.refl w7).alloc x)).c2
    have f299 := fun x => (HRS.out.kept ((Kept.refl w7).alloc x)).c3
    have f300 := fun x => (HRT.out.kept ((Kept.refl w7).alloc x)).c0
    have f301 := fun x => (HRT.out.kept ((Kept.refl w7).alloc x)).c1
    have f302 := fun x => (HRT.out.kept ((Kept.refl w7).alloc x)).c2
    have f303 := fun x => (HRT.out.kept ((Kept.refl w7).alloc x)).c3
    have f304 := fun x => (HRU.out.kept ((Kept.refl w7).alloc x)).c0
    have f305 := fun x => (HRU.out.kept ((Kept.refl w7).alloc x)).c1
    have f306 := fun x => (HRU.out.kept ((Kept.refl w7).alloc x)).c2
    have f307 := fun x => (HRU.out.kept ((Kept.refl w7).alloc x)).c3
    have f308 := fun x => (HRP.out.kept ((Kept.refl w7).alloc x)).c0
    have f309 := fun x => (HRP.out.kept ((Kept.refl w7).alloc x)).c1
    have f310 := fun x => (HRP.out.kept ((Kept.refl w7).alloc x)).c2
    have f311 := fun x => (HRP.out.kept ((Kept.refl w7).alloc x)).c3
    go_wp2_with fail
    refine (Mul_ok p q r s b1 b2 d1 d2 k3 c3 k4 c4 k5 c5 k6 c6 bn bd cn cd _ (HA.out.2.1.1.kept (HK.out.trans ((Kept.refl w7).alloc _))) (HA.out.2.1.2.kept (HK.out.trans ((Kept.refl w7).alloc _))) (HA.out.2.2.1.kept (HK.out.trans ((Kept.refl w7).alloc _))) (HA.out.2.2.2.kept (HK.out.trans ((Kept.refl w7).alloc _))) HR.out.2.1 HR.out.2.2).mono ?_
    rintro e w8 ⟨hk, NO, DO, hSO, hRO⟩
    clear f284 f285 f286 f287 f288 f289 f290 f291 f292 f293 f294 f295 f296 f297 f298 f299 f300 f301 f302 f303 f304 f305 f306 f307 f308 f309 f310 f311
    have HRQ := hid' ((RRow.alloc w7 (.bool sQ) (.slice aoQ iQ jQ) (.bool tQ) (.slice apQ gQ hQ)).kept hk)
    have Ha := hid' (Ha.out.kept (((Kept.refl w7).alloc _).trans hk))
    have Hb := hid' (Hb.out.kept (((Kept.refl w7).alloc _).trans hk))
    have Hc := hid' (Hc.out.kept (((Kept.refl w7).alloc _).trans hk))
    have HRS := hid' (HRS.out.kept (((Kept.refl w7).alloc _).trans hk))
    have HRT := hid' (HRT.out.kept (((Kept.refl w7).alloc _).trans hk))
    have HRU := hid' (HRU.out.kept (((Kept.refl w7).alloc _).trans hk))
    have HRP := hid' (HRP.out.kept (((Kept.refl w7).alloc _).trans hk))
    have HK := hid' (HK.out.trans (((Kept.refl w7).alloc _).trans hk))
    have HS := hid' (And.intro (HS.out.1.kept (((Kept.refl w7).alloc _).trans hk)) (And.intro (HS.out.2.1.kept (((Kept.refl w7).alloc _).trans hk)) HS.out.2.2))
    have HT := hid' (And.intro (HT.out.1.kept (((Kept.refl w7).alloc _).trans hk)) (And.intro (HT.out.2.1.kept (((Kept.refl w7).alloc _).trans hk)) HT.out.2.2))
    have HU := hid' (And.intro (HU.out.1.kept (((Kept.refl w7).alloc _).trans hk)) (And.intro (HU.out.2.1.kept (((Kept.refl w7).alloc _).trans hk)) HU.out.2.2))
    have HPr := hid' (And.intro (HPr.out.1.kept (((Kept.refl w7).alloc _).trans hk)) (And.intro (HPr.out.2.1.kept (((Kept.refl w7).alloc _).trans hk)) HPr.out.2.2))
    have HQr := hid' (And.intro (HQr.out.1.kept (((Kept.refl w7).alloc _).trans hk)) (And.intro (HQr.out.2.1.kept (((Kept.refl w7).alloc _).trans hk)) HQr.out.2.2))
    obtain ⟨vO, rfl, hqO⟩ := hRO.resolve_right (fun h => h.2 (fits_p hSO HP.out.2.1 HP.out.2.2 HQ.out.2.2.2.2.2.2.2.1 HQ.out.2.2.2.2.2.2.2.2 (by have := HW.out.2; omega)))
    obtain ⟨sO, aoO, iO, jO, xO, tO, apO, gO, hO, yO, rfl, n1, r1, e1, n2, r2, e2, R1⟩ := hqO.right (by have := hSO.pos; omega) (by rw [Int.natAbs_natCast]; exact hSO.low)
    have HOr : Hid (Sl w8 (.slice aoO iO jO) xO ∧ Sl w8 (.slice apO gO hO) yO ∧ RatR sO tO xO yO ∧ M.int sO xO = NO ∧ M.val yO = DO ∧ IsProd (M.int p bn) (M.val bd) (M.int r cn) (M.val cd) NO DO) := ⟨n1.sl, n2.sl, R1, e1, by have := R1.val; omega, hSO⟩
    have HO_ := hid' HOr.out.2.2.2.2.2
    clear hSO hRO hqO n1 r1 e1 n2 r2 e2 R1
    clear hk
    have f312 := fun x => (Ha.out.kept ((Kept.refl w8).alloc x)).c0
    have f313 := fun x => (Ha.out.kept ((Kept.refl w8).alloc x)).c1
    have f314 := fun x => (Ha.out.kept ((Kept.refl w8).alloc x)).c2
    have f315 := fun x => (Ha.out.kept ((Kept.refl w8).alloc x)).c3
    have f316 := fun x => (Hb.out.kept ((Kept.refl w8).alloc x)).c0
    have f317 := fun x => (Hb.out.kept ((Kept.refl w8).alloc x)).c1
    have f318 := fun x => (Hb.out.kept ((Kept.refl w8).alloc x)).c2
    have f319 := fun x => (Hb.out.kept ((Kept.refl w8).alloc x)).c3
    have f320 := fun x => (Hc.out.kept ((Kept.refl w8).alloc x)).c0
    have f321 := fun x => (Hc.out.kept ((Kept.refl w8).alloc x)).c1
    have f322 := fun x => (Hc.out.kept ((Kept.refl w8).alloc x)).c2
    have f323 := fun x => (Hc.out.kept ((Kept.refl w8).alloc x)).c3
    have f324 := fun x => (HRS.out.kept ((Kept.refl w8).alloc x)).c0
    have f325 := fun x => (HRS.out.kept ((Kept.refl w8).alloc x)).c1
    have f326 := fun x => (HRS.out.kept ((Kept.refl w8).alloc x)).c2
    have f327 := fun x => (HRS.out.kept ((Kept.refl w8).alloc x)).c3
    have f328 := fun x => (HRT.out.kept ((Kept.refl w8).alloc x)).c0
    have f329 := fun x => (HRT.out.kept ((Kept.refl w8).alloc x)).c1
    have f330 := fun x => (HRT.out.kept ((Kept.refl w8).alloc x)).c2
    have f331 := fun x => (HRT.out.kept ((Kept.refl w8).alloc x)).c3
    have f332 := fun x => (HRU.out.kept ((Kept.refl w8).alloc x)).c0
    have f333 := fun x => (HRU.out.kept ((Kept.refl w8).alloc x)).c1
    have f334 := fun x => (HRU.out.kept ((Kept.refl w8).alloc x)).c2
    have f335 := fun x => (HRU.out.kept ((Kept.refl w8).alloc x)).c3
    have f336 := fun x => (HRP.out.kept ((Kept.refl w8).alloc x)).c0
    have f337 := fun x => (HRP.out.kept ((Kept.refl w8).alloc x)).c1
    have f338 := fun x => (HRP.out.kept ((Kept.refl w8).alloc x)).c2
    have f339 := fun x => (HRP.out.kept ((Kept.refl w8).alloc x)).c3
    have f340 := fun x => (HRQ.out.kept ((Kept.refl w8).alloc x)).c0
    have f341 := fun x => (HRQ.out.kept ((Kept.refl w8).alloc x)).c1
    have f342 := fun x => (HRQ.out.kept ((Kept.refl w8).alloc x)).c2
    have f343 := fun x => (HRQ.out.kept ((Kept.refl w8).alloc x)).c3
    go_wp2_with fail
    refine (Add_ok sQ tQ sO tO aoQ apQ aoO apO iQ jQ gQ hQ iO jO gO hO xQ yQ xO yO _ (HQr.out.1.kept ((Kept.refl w8).alloc _)) (HQr.out.2.1.kept ((Kept.refl w8).alloc _)) (HOr.out.1.kept ((Kept.refl w8).alloc _)) (HOr.out.2.1.kept ((Kept.refl w8).alloc _)) HQr.out.2.2.1 HOr.out.2.2.1).mono ?_
    rintro e w9 ⟨hk, NW, DW, hSW, hRW⟩
    clear f312 f313 f314 f315 f316 f317 f318 f319 f320 f321 f322 f323 f324 f325 f326 f327 f328 f329 f330 f331 f332 f333 f334 f335 f336 f337 f338 f339 f340 f341 f342 f343
    have HRO := hid' ((RRow.alloc w8 (.bool sO) (.slice aoO iO jO) (.bool tO) (.slice apO gO hO)).kept hk)
    have Ha := hid' (Ha.out.kept (((Kept.refl w8).alloc _).trans hk))
    have Hb := hid' (Hb.out.kept (((Kept.refl w8).alloc _).trans hk))
    have Hc := hid' (Hc.out.kept (((Kept.refl w8).alloc _).trans hk))
    have HRS := hid' (HRS.out.kept (((Kept.refl w8).alloc _).trans hk))
    have HRT := hid' (HRT.out.kept (((Kept.refl w8).alloc _).trans hk))
    have HRU := hid' (HRU.out.kept (((Kept.refl w8).alloc _).trans hk))
    have HRP := hid' (HRP.out.kept (((Kept.refl w8).alloc _).trans hk))
    have HRQ := hid' (HRQ.out.kept (((Kept.refl w8).alloc _).trans hk))
    have HK := hid' (HK.out.trans (((Kept.refl w8).alloc _).trans hk))
    have HS := hid' (And.intro (HS.out.1.kept (((Kept.refl w8).alloc _).trans hk)) (And.intro (HS.out.2.1.kept (((Kept.refl w8).alloc _).trans hk)) HS.out.2.2))
    have HT := hid' (And.intro (HT.out.1.kept (((Kept.refl w8).alloc _).trans hk)) (And.intro (HT.out.2.1.kept (((Kept.refl w8).alloc _).trans hk)) HT.out.2.2))
    have HU := hid' (And.intro (HU.out.1.kept (((Kept.refl w8).alloc _).trans hk)) (And.intro (HU.out.2.1.kept (((Kept.refl w8).alloc _).trans hk)) HU.out.2.2))
    have HPr := hid' (And.intro (HPr.out.1.kept (((Kept.refl w8).alloc _).trans hk)) (And.intro (HPr.out.2.1.kept (((Kept.refl w8).alloc _).trans hk)) HPr.out.2.2))
    have HQr := hid' (And.intro (HQr.out.1.kept (((Kept.refl w8).alloc _).trans hk)) (And.intro (HQr.out.2.1.kept (((Kept.refl w8).alloc _).trans hk)) HQr.out.2.2))
    have HOr := hid' (And.intro (HOr.out.1.kept (((Kept.refl w8).alloc _).trans hk)) (And.intro (HOr.out.2.1.kept (((Kept.refl w8).alloc _).trans hk)) HOr.out.2.2))
    rw [HQr.out.2.2.2.1, HQr.out.2.2.2.2.1, HOr.out.2.2.2.1, HOr.out.2.2.2.2.1] at hSW
    obtain ⟨vW, rfl, hqW⟩ := hRW.resolve_right (fun h => h.2 (fits_s hSW HQ_.out.pos HO_.out.pos (bound_w HQ_.out HO_.out HP.out.1 HP.out.2.1 HP.out.2.2 HQ.out.2.2.2.2.2.1 HQ.out.2.2.2.2.2.2.1 HQ.out.2.2.2.2.2.2.2.1 HQ.out.2.2.2.2.2.2.2.2).1 (bound_w HQ_.out HO_.out HP.out.1 HP.out.2.1 HP.out.2.2 HQ.out.2.2.2.2.2.1 HQ.out.2.2.2.2.2.2.1 HQ.out.2.2.2.2.2.2.2.1 HQ.out.2.2.2.2.2.2.2.2).2.1 (bound_w HQ_.out HO_.out HP.out.1 HP.out.2.1 HP.out.2.2 HQ.out.2.2.2.2.2.1 HQ.out.2.2.2.2.2.2.1 HQ.out.2.2.2.2.2.2.2.1 HQ.out.2.2.2.2.2.2.2.2).2.2 HW.out.1))
    obtain ⟨sW, aoW, iW, jW, xW, tW, apW, gW, hW, yW, rfl, n1, r1, e1, n2, r2, e2, R1⟩ := hqW.right (by have := hSW.pos; omega) (by rw [Int.natAbs_natCast]; exact hSW.low)
    have HW' : Hid (Sl w9 (.slice aoW iW jW) xW ∧ Sl w9 (.slice apW gW hW) yW ∧ RatR sW tW xW yW ∧ M.int sW xW = NW ∧ M.val yW = DW ∧ IsSum NQ DQ NO DO NW DW) := ⟨n1.sl, n2.sl, R1, e1, by have := R1.val; omega, hSW⟩
    clear hSW hRW hqW n1 r1 e1 n2 r2 e2 R1
    clear hk
    have HT_ := fld_t HS_.out HT.out.2.2.2.2.2 HP.out.1 HP.out.2.1
    have HTT := hid' HT_
    have HU_ := fld_u HS_.out HU.out.2.2.2.2.2 (by rw [M.natAbs_int]; exact HR.out.1.low) HP.out.1 HP.out.2.1
    have HUU := hid' HU_
    have HW_ := fld_w HS_.out HP_.out HQ_.out HO_.out HW'.out.2.2.2.2.2 HP.out.1 HP.out.2.1 HP.out.2.2
    have HWW := hid' HW_
    clear HT_ HU_ HW_
    have f344 := fun x => (Ha.out.kept ((Kept.refl w9).alloc x)).c0
    have f345 := fun x => (Ha.out.kept ((Kept.refl w9).alloc x)).c1
    have f346 := fun x => (Ha.out.kept ((Kept.refl w9).alloc x)).c2
    have f347 := fun x => (Ha.out.kept ((Kept.refl w9).alloc x)).c3
    have f348 := fun x => (Hb.out.kept ((Kept.refl w9).alloc x)).c0
    have f349 := fun x => (Hb.out.kept ((Kept.refl w9).alloc x)).c1
    have f350 := fun x => (Hb.out.kept ((Kept.refl w9).alloc x)).c2
    have f351 := fun x => (Hb.out.kept ((Kept.refl w9).alloc x)).c3
    have f352 := fun x => (Hc.out.kept ((Kept.refl w9).alloc x)).c0
    have f353 := fun x => (Hc.out.kept ((Kept.refl w9).alloc x)).c1
    have f354 := fun x => (Hc.out.kept ((Kept.refl w9).alloc x)).c2
    have f355 := fun x => (Hc.out.kept ((Kept.refl w9).alloc x)).c3
    have f356 := fun x => (HRS.out.kept ((Kept.refl w9).alloc x)).c0
    have f357 := fun x => (HRS.out.kept ((Kept.refl w9).alloc x)).c1
    have f358 := fun x => (HRS.out.kept ((Kept.refl w9).alloc x)).c2
    have f359 := fun x => (HRS.out.kept ((Kept.refl w9).alloc x)).c3
    have f360 := fun x => (HRT.out.kept ((Kept.refl w9).alloc x)).c0
    have f361 := fun x => (HRT.out.kept ((Kept.refl w9).alloc x)).c1
    have f362 := fun x => (HRT.out.kept ((Kept.refl w9).alloc x)).c2
    have f363 := fun x => (HRT.out.kept ((Kept.refl w9).alloc x)).c3
    have f364 := fun x => (HRU.out.kept ((Kept.refl w9).alloc x)).c0
    have f365 := fun x => (HRU.out.kept ((Kept.refl w9).alloc x)).c1
    have f366 := fun x => (HRU.out.kept ((Kept.refl w9).alloc x)).c2
    have f367 := fun x => (HRU.out.kept ((Kept.refl w9).alloc x)).c3
    have f368 := fun x => (HRP.out.kept ((Kept.refl w9).alloc x)).c0
    have f369 := fun x => (HRP.out.kept ((Kept.refl w9).alloc x)).c1
    have f370 := fun x => (HRP.out.kept ((Kept.refl w9).alloc x)).c2
    have f371 := fun x => (HRP.out.kept ((Kept.refl w9).alloc x)).c3
    go_wp2_with fail
    refine (lsame_eq sS tS sT tT _ _ _ _ xS yS xT yT _ (HS.out.1.kept ((Kept.refl w9).alloc _)) (HS.out.2.1.kept ((Kept.refl w9).alloc _)) (HT.out.1.kept ((Kept.refl w9).alloc _)) (HT.out.2.1.kept ((Kept.refl w9).alloc _)) HS.out.2.2.1.ra.1 HS.out.2.2.1.rd.1 (rat_eq HS.out.2.2.1 HT.out.2.2.1 HS.out.1.bd HS.out.2.1.bd HT.out.1.bd HT.out.2.1.bd (by rw [HS.out.2.2.2.1, HT.out.2.2.2.1]; exact HTT.out.1) (by rw [HS.out.2.2.2.2.1, HT.out.2.2.2.2.1]; exact HTT.out.2))).mono ?_
    rintro e w10 ⟨rfl, hk⟩
    clear f344 f345 f346 f347 f348 f349 f350 f351 f352 f353 f354 f355 f356 f357 f358 f359 f360 f361 f362 f363 f364 f365 f366 f367 f368 f369 f370 f371
    have HRW := hid' ((RRow.alloc w9 (.bool sW) (.slice aoW iW jW) (.bool tW) (.slice apW gW hW)).kept hk)
    have Ha := hid' (Ha.out.kept (((Kept.refl w9).alloc _).trans hk))
    have Hb := hid' (Hb.out.kept (((Kept.refl w9).alloc _).trans hk))
    have Hc := hid' (Hc.out.kept (((Kept.refl w9).alloc _).trans hk))
    have HRS := hid' (HRS.out.kept (((Kept.refl w9).alloc _).trans hk))
    have HRT := hid' (HRT.out.kept (((Kept.refl w9).alloc _).trans hk))
    have HRU := hid' (HRU.out.kept (((Kept.refl w9).alloc _).trans hk))
    have HRP := hid' (HRP.out.kept (((Kept.refl w9).alloc _).trans hk))
    have HRQ := hid' (HRQ.out.kept (((Kept.refl w9).alloc _).trans hk))
    have HRO := hid' (HRO.out.kept (((Kept.refl w9).alloc _).trans hk))
    have HK := hid' (HK.out.trans (((Kept.refl w9).alloc _).trans hk))
    have HS := hid' (And.intro (HS.out.1.kept (((Kept.refl w9).alloc _).trans hk)) (And.intro (HS.out.2.1.kept (((Kept.refl w9).alloc _).trans hk)) HS.out.2.2))
    have HT := hid' (And.intro (HT.out.1.kept (((Kept.refl w9).alloc _).trans hk)) (And.intro (HT.out.2.1.kept (((Kept.refl w9).alloc _).trans hk)) HT.out.2.2))
    have HU := hid' (And.intro (HU.out.1.kept (((Kept.refl w9).alloc _).trans hk)) (And.intro (HU.out.2.1.kept (((Kept.refl w9).alloc _).trans hk)) HU.out.2.2))
    have HPr := hid' (And.intro (HPr.out.1.kept (((Kept.refl w9).alloc _).trans hk)) (And.intro (HPr.out.2.1.kept (((Kept.refl w9).alloc _).trans hk)) HPr.out.2.2))
    have HQr := hid' (And.intro (HQr.out.1.kept (((Kept.refl w9).alloc _).trans hk)) (And.intro (HQr.out.2.1.kept (((Kept.refl w9).alloc _).trans hk)) HQr.out.2.2))
    have HOr := hid' (And.intro (HOr.out.1.kept (((Kept.refl w9).alloc _).trans hk)) (And.intro (HOr.out.2.1.kept (((Kept.refl w9).alloc _).trans hk)) HOr.out.2.2))
    have HW' := hid' (And.intro (HW'.out.1.kept (((Kept.refl w9).alloc _).trans hk)) (And.intro (HW'.out.2.1.kept (((Kept.refl w9).alloc _).trans hk)) HW'.out.2.2))
    clear hk
    have f372 := Ha.out.c0
    have f373 := Ha.out.c1
    have f374 := Ha.out.c2
    have f375 := Ha.out.c3
    have f376 := Hb.out.c0
    have f377 := Hb.out.c1
    have f378 := Hb.out.c2
    have f379 := Hb.out.c3
    have f380 := Hc.out.c0
    have f381 := Hc.out.c1
    have f382 := Hc.out.c2
    have f383 := Hc.out.c3
    have f384 := HRS.out.c0
    have f385 := HRS.out.c1
    have f386 := HRS.out.c2
    have f387 := HRS.out.c3
    have f388 := HRT.out.c0
    have f389 := HRT.out.c1
    have f390 := HRT.out.c2
    have f391 := HRT.out.c3
    have f392 := HRU.out.c0
    have f393 := HRU.out.c1
    have f394 := HRU.out.c2
    have f395 := HRU.out.c3
    have f396 := HRP.out.c0
    have f397 := HRP.out.c1
    have f398 := HRP.out.c2
    have f399 := HRP.out.c3
    have f400 := HRW.out.c0
    have f401 := HRW.out.c1
    have f402 := HRW.out.c2
    have f403 := HRW.out.c3
    go_wp2_with fail
    refine (lsame_eq sU tU m n _ _ _ _ xU yU an ad _ (HU.out.1.kept (Kept.refl w10)) (HU.out.2.1.kept (Kept.refl w10)) (HA.out.1.1.kept (HK.out.trans (Kept.refl w10))) (HA.out.1.2.kept (HK.out.trans (Kept.refl w10))) HU.out.2.2.1.ra.1 HU.out.2.2.1.rd.1 (rat_eq HU.out.2.2.1 HR.out.1 HU.out.1.bd HU.out.2.1.bd HA.out.1.1.bd HA.out.1.2.bd (by rw [HU.out.2.2.2.1]; exact HUU.out.1) (by rw [HU.out.2.2.2.2.1]; exact HUU.out.2))).mono ?_
    rintro e w11 ⟨rfl, hk⟩
    clear f372 f373 f374 f375 f376 f377 f378 f379 f380 f381 f382 f383 f384 f385 f386 f387 f388 f389 f390 f391 f392 f393 f394 f395 f396 f397 f398 f399 f400 f401 f402 f403
    have Ha := hid' (Ha.out.kept ((Kept.refl w10).trans hk))
    have Hb := hid' (Hb.out.kept ((Kept.refl w10).trans hk))
    have Hc := hid' (Hc.out.kept ((Kept.refl w10).trans hk))
    have HRS := hid' (HRS.out.kept ((Kept.refl w10).trans hk))
    have HRT := hid' (HRT.out.kept ((Kept.refl w10).trans hk))
    have HRU := hid' (HRU.out.kept ((Kept.refl w10).trans hk))
    have HRP := hid' (HRP.out.kept ((Kept.refl w10).trans hk))
    have HRQ := hid' (HRQ.out.kept ((Kept.refl w10).trans hk))
    have HRO := hid' (HRO.out.kept ((Kept.refl w10).trans hk))
    have HRW := hid' (HRW.out.kept ((Kept.refl w10).trans hk))
    have HK := hid' (HK.out.trans ((Kept.refl w10).trans hk))
    have HS := hid' (And.intro (HS.out.1.kept ((Kept.refl w10).trans hk)) (And.intro (HS.out.2.1.kept ((Kept.refl w10).trans hk)) HS.out.2.2))
    have HT := hid' (And.intro (HT.out.1.kept ((Kept.refl w10).trans hk)) (And.intro (HT.out.2.1.kept ((Kept.refl w10).trans hk)) HT.out.2.2))
    have HU := hid' (And.intro (HU.out.1.kept ((Kept.refl w10).trans hk)) (And.intro (HU.out.2.1.kept ((Kept.refl w10).trans hk)) HU.out.2.2))
    have HPr := hid' (And.intro (HPr.out.1.kept ((Kept.refl w10).trans hk)) (And.intro (HPr.out.2.1.kept ((Kept.refl w10).trans hk)) HPr.out.2.2))
    have HQr := hid' (And.intro (HQr.out.1.kept ((Kept.refl w10).trans hk)) (And.intro (HQr.out.2.1.kept ((Kept.refl w10).trans hk)) HQr.out.2.2))
    have HOr := hid' (And.intro (HOr.out.1.kept ((Kept.refl w10).trans hk)) (And.intro (HOr.out.2.1.kept ((Kept.refl w10).trans hk)) HOr.out.2.2))
    have HW' := hid' (And.intro (HW'.out.1.kept ((Kept.refl w10).trans hk)) (And.intro (HW'.out.2.1.kept ((Kept.refl w10).trans hk)) HW'.out.2.2))
    clear hk
    have f404 := Ha.out.c0
    have f405 := Ha.out.c1
    have f406 := Ha.out.c2
    have f407 := Ha.out.c3
    have f408 := Hb.out.c0
    have f409 := Hb.out.c1
    have f410 := Hb.out.c2
    have f411 := Hb.out.c3
    have f412 := Hc.out.c0
    have f413 := Hc.out.c1
    have f414 := Hc.out.c2
    have f415 := Hc.out.c3
    have f416 := HRS.out.c0
    have f417 := HRS.out.c1
    have f418 := HRS.out.c2
    have f419 := HRS.out.c3
    have f420 := HRT.out.c0
    have f421 := HRT.out.c1
    have f422 := HRT.out.c2
    have f423 := HRT.out.c3
    have f424 := HRU.out.c0
    have f425 := HRU.out.c1
    have f426 := HRU.out.c2
    have f427 := HRU.out.c3
    have f428 := HRP.out.c0
    have f429 := HRP.out.c1
    have f430 := HRP.out.c2
    have f431 := HRP.out.c3
    have f432 := HRW.out.c0
    have f433 := HRW.out.c1
    have f434 := HRW.out.c2
    have f435 := HRW.out.c3
    go_wp2_with fail
    refine (lsame_eq sP tP sW tW _ _ _ _ xP yP xW yW _ (HPr.out.1.kept (Kept.refl w11)) (HPr.out.2.1.kept (Kept.refl w11)) (HW'.out.1.kept (Kept.refl w11)) (HW'.out.2.1.kept (Kept.refl w11)) HPr.out.2.2.1.ra.1 HPr.out.2.2.1.rd.1 (rat_eq HPr.out.2.2.1 HW'.out.2.2.1 HPr.out.1.bd HPr.out.2.1.bd HW'.out.1.bd HW'.out.2.1.bd (by rw [HPr.out.2.2.2.1, HW'.out.2.2.2.1]; exact HWW.out.1) (by rw [HPr.out.2.2.2.2.1, HW'.out.2.2.2.2.1]; exact HWW.out.2))).mono ?_
    rintro e w12 ⟨rfl, hk⟩
    clear f404 f405 f406 f407 f408 f409 f410 f411 f412 f413 f414 f415 f416 f417 f418 f419 f420 f421 f422 f423 f424 f425 f426 f427 f428 f429 f430 f431 f432 f433 f434 f435
    have Ha := hid' (Ha.out.kept ((Kept.refl w11).trans hk))
    have Hb := hid' (Hb.out.kept ((Kept.refl w11).trans hk))
    have Hc := hid' (Hc.out.kept ((Kept.refl w11).trans hk))
    have HRS := hid' (HRS.out.kept ((Kept.refl w11).trans hk))
    have HRT := hid' (HRT.out.kept ((Kept.refl w11).trans hk))
    have HRU := hid' (HRU.out.kept ((Kept.refl w11).trans hk))
    have HRP := hid' (HRP.out.kept ((Kept.refl w11).trans hk))
    have HRQ := hid' (HRQ.out.kept ((Kept.refl w11).trans hk))
    have HRO := hid' (HRO.out.kept ((Kept.refl w11).trans hk))
    have HRW := hid' (HRW.out.kept ((Kept.refl w11).trans hk))
    have HK := hid' (HK.out.trans ((Kept.refl w11).trans hk))
    have HS := hid' (And.intro (HS.out.1.kept ((Kept.refl w11).trans hk)) (And.intro (HS.out.2.1.kept ((Kept.refl w11).trans hk)) HS.out.2.2))
    have HT := hid' (And.intro (HT.out.1.kept ((Kept.refl w11).trans hk)) (And.intro (HT.out.2.1.kept ((Kept.refl w11).trans hk)) HT.out.2.2))
    have HU := hid' (And.intro (HU.out.1.kept ((Kept.refl w11).trans hk)) (And.intro (HU.out.2.1.kept ((Kept.refl w11).trans hk)) HU.out.2.2))
    have HPr := hid' (And.intro (HPr.out.1.kept ((Kept.refl w11).trans hk)) (And.intro (HPr.out.2.1.kept ((Kept.refl w11).trans hk)) HPr.out.2.2))
    have HQr := hid' (And.intro (HQr.out.1.kept ((Kept.refl w11).trans hk)) (And.intro (HQr.out.2.1.kept ((Kept.refl w11).trans hk)) HQr.out.2.2))
    have HOr := hid' (And.intro (HOr.out.1.kept ((Kept.refl w11).trans hk)) (And.intro (HOr.out.2.1.kept ((Kept.refl w11).trans hk)) HOr.out.2.2))
    have HW' := hid' (And.intro (HW'.out.1.kept ((Kept.refl w11).trans hk)) (And.intro (HW'.out.2.1.kept ((Kept.refl w11).trans hk)) HW'.out.2.2))
    clear hk
    by_cases hz : M.int r cn = 0
    · have hz0 := hid' hz
      have h50 : k5 = 0 := by rw [HE.out.2.2.2.2.1]; rw [(sgn_z0 HR.out.2.2.ra hz)]; rfl
      subst h50
      clear hz
      have f700 := Hc.out.c0
      have f701 := Hc.out.c1
      have f702 := Hc.out.c2
      have f703 := Hc.out.c3
      have f704 := HRP.out.c0
      have f705 := HRP.out.c1
      have f706 := HRP.out.c2
      have f707 := HRP.out.c3
      have f708 := HRS.out.c0
      have f709 := HRS.out.c1
      have f710 := HRS.out.c2
      have f711 := HRS.out.c3
      go_wp2_with fail
      refine (Div_zero sP tP r s aoP apP d1 d2 iP jP gP hP 0 c5 k6 c6 xP yP cn cd _ (HPr.out.1.kept (Kept.refl w12)) (HPr.out.2.1.kept (Kept.refl w12)) (HA.out.2.2.1.kept (HK.out.trans (Kept.refl w12))) (HA.out.2.2.2.kept (HK.out.trans (Kept.refl w12))) HPr.out.2.2.1 HR.out.2.2 hz0.out).mono ?_
      rintro e w13 ⟨hk, rfl⟩
      clear f700 f701 f702 f703 f704 f705 f706 f707 f708 f709 f710 f711
      have Ha := hid' (Ha.out.kept ((Kept.refl w12).trans hk))
      have Hb := hid' (Hb.out.kept ((Kept.refl w12).trans hk))
      have Hc := hid' (Hc.out.kept ((Kept.refl w12).trans hk))
      have HRS := hid' (HRS.out.kept ((Kept.refl w12).trans hk))
      have HRP := hid' (HRP.out.kept ((Kept.refl w12).trans hk))
      have HK := hid' (HK.out.trans ((Kept.refl w12).trans hk))
      have HPr := hid' (And.intro (HPr.out.1.kept ((Kept.refl w12).trans hk)) (And.intro (HPr.out.2.1.kept ((Kept.refl w12).trans hk)) HPr.out.2.2))
      have HS := hid' (And.intro (HS.out.1.kept ((Kept.refl w12).trans hk)) (And.intro (HS.out.2.1.kept ((Kept.refl w12).trans hk)) HS.out.2.2))
      clear hk
      have f712 := fun x => (Hc.out.kept ((Kept.refl w13).alloc x)).c0
      have f713 := fun x => (Hc.out.kept ((Kept.refl w13).alloc x)).c1
      have f714 := fun x => (Hc.out.kept ((Kept.refl w13).alloc x)).c2
      have f715 := fun x => (Hc.out.kept ((Kept.refl w13).alloc x)).c3
      have f716 := fun x => (HRS.out.kept ((Kept.refl w13).alloc x)).c0
      have f717 := fun x => (HRS.out.kept ((Kept.refl w13).alloc x)).c1
      have f718 := fun x => (HRS.out.kept ((Kept.refl w13).alloc x)).c2
      have f719 := fun x => (HRS.out.kept ((Kept.refl w13).alloc x)).c3
      go_wp2
      go_ret
      exact ⟨rfl, HK.out.alloc _⟩
    · have hz0 := hid' hz
      have h5 : ((k5 : Int) == 0) = false := by have h := len_n0 hz; have h' := HE.out.2.2.2.2.1; simp; omega
      have HC0 : Hid (0 < M.val cn) := by have := M.natAbs_int r cn; show 0 < _; omega
      clear hz
      have f800 := Hc.out.c0
      have f801 := Hc.out.c1
      have f802 := Hc.out.c2
      have f803 := Hc.out.c3
      have f804 := HRP.out.c0
      have f805 := HRP.out.c1
      have f806 := HRP.out.c2
      have f807 := HRP.out.c3
      have f808 := HRS.out.c0
      have f809 := HRS.out.c1
      have f810 := HRS.out.c2
      have f811 := HRS.out.c3
      go_wp2_with fail
      refine (Div_ok sP tP r s aoP apP d1 d2 iP jP gP hP k5 c5 k6 c6 xP yP cn cd _ (HPr.out.1.kept (Kept.refl w12)) (HPr.out.2.1.kept (Kept.refl w12)) (HA.out.2.2.1.kept (HK.out.trans (Kept.refl w12))) (HA.out.2.2.2.kept (HK.out.trans (Kept.refl w12))) HPr.out.2.2.1 HR.out.2.2 hz0.out).mono ?_
      rintro e w13 ⟨hk, NV, DV, hSV, hRV⟩
      clear f800 f801 f802 f803 f804 f805 f806 f807 f808 f809 f810 f811
      have Ha := hid' (Ha.out.kept ((Kept.refl w12).trans hk))
      have Hb := hid' (Hb.out.kept ((Kept.refl w12).trans hk))
      have Hc := hid' (Hc.out.kept ((Kept.refl w12).trans hk))
      have HRS := hid' (HRS.out.kept ((Kept.refl w12).trans hk))
      have HRP := hid' (HRP.out.kept ((Kept.refl w12).trans hk))
      have HK := hid' (HK.out.trans ((Kept.refl w12).trans hk))
      have HPr := hid' (And.intro (HPr.out.1.kept ((Kept.refl w12).trans hk)) (And.intro (HPr.out.2.1.kept ((Kept.refl w12).trans hk)) HPr.out.2.2))
      have HS := hid' (And.intro (HS.out.1.kept ((Kept.refl w12).trans hk)) (And.intro (HS.out.2.1.kept ((Kept.refl w12).trans hk)) HS.out.2.2))
      rw [HPr.out.2.2.2.1, HPr.out.2.2.2.2.1] at hSV
      have hv := fld_v HS_.out.low HS_.out.pos HP_.out hSV HC0.out HP.out.2.2
      obtain ⟨vV, rfl, hqV⟩ := hRV.resolve_right (fun h => h.2 (same_fits' hv HS.out.1.bd HS.out.2.1.bd HS.out.2.2.1 HS.out.2.2.2.1 HS.out.2.2.2.2.1))
      obtain ⟨sV, aoV, iV, jV, xV, tV, apV, gV, hV, yV, rfl, n1, r1, e1, n2, r2, e2, R1⟩ := hqV.right (by have := hSV.pos; omega) (by rw [Int.natAbs_natCast]; exact hSV.low)
      have HV : Hid (Sl w13 (.slice aoV iV jV) xV ∧ Sl w13 (.slice apV gV hV) yV ∧ RatR sV tV xV yV ∧ M.int sV xV = NS ∧ M.val yV = DS) := ⟨n1.sl, n2.sl, R1, by rw [e1]; exact hv.1, by have := R1.val; have := hv.2; omega⟩
      clear hSV hRV hqV hv n1 r1 e1 n2 r2 e2 R1
      clear hk
      have f812 := fun x => (Hc.out.kept ((Kept.refl w13).alloc x)).c0
      have f813 := fun x => (Hc.out.kept ((Kept.refl w13).alloc x)).c1
      have f814 := fun x => (Hc.out.kept ((Kept.refl w13).alloc x)).c2
      have f815 := fun x => (Hc.out.kept ((Kept.refl w13).alloc x)).c3
      have f816 := fun x => (HRS.out.kept ((Kept.refl w13).alloc x)).c0
      have f817 := fun x => (HRS.out.kept ((Kept.refl w13).alloc x)).c1
      have f818 := fun x => (HRS.out.kept ((Kept.refl w13).alloc x)).c2
      have f819 := fun x => (HRS.out.kept ((Kept.refl w13).alloc x)).c3
      go_wp2_with fail
      refine (lsame_eq sV tV sS tS _ _ _ _ xV yV xS yS _ (HV.out.1.kept ((Kept.refl w13).alloc _)) (HV.out.2.1.kept ((Kept.refl w13).alloc _)) (HS.out.1.kept ((Kept.refl w13).alloc _)) (HS.out.2.1.kept ((Kept.refl w13).alloc _)) HV.out.2.2.1.ra.1 HV.out.2.2.1.rd.1 (rat_eq HV.out.2.2.1 HS.out.2.2.1 HV.out.1.bd HV.out.2.1.bd HS.out.1.bd HS.out.2.1.bd (by rw [HV.out.2.2.2.1, HS.out.2.2.2.1]) (by rw [HV.out.2.2.2.2, HS.out.2.2.2.2.1]))).mono ?_
      rintro e w14 ⟨rfl, hk⟩
      clear f812 f813 f814 f815 f816 f817 f818 f819
      have HRV := hid' ((RRow.alloc w13 (.bool sV) (.slice aoV iV jV) (.bool tV) (.slice apV gV hV)).kept hk)
      have Ha := hid' (Ha.out.kept (((Kept.refl w13).alloc _).trans hk))
      have Hb := hid' (Hb.out.kept (((Kept.refl w13).alloc _).trans hk))
      have Hc := hid' (Hc.out.kept (((Kept.refl w13).alloc _).trans hk))
      have HRS := hid' (HRS.out.kept (((Kept.refl w13).alloc _).trans hk))
      have HRP := hid' (HRP.out.kept (((Kept.refl w13).alloc _).trans hk))
      have HK := hid' (HK.out.trans (((Kept.refl w13).alloc _).trans hk))
      have HPr := hid' (And.intro (HPr.out.1.kept (((Kept.refl w13).alloc _).trans hk)) (And.intro (HPr.out.2.1.kept (((Kept.refl w13).alloc _).trans hk)) HPr.out.2.2))
      have HS := hid' (And.intro (HS.out.1.kept (((Kept.refl w13).alloc _).trans hk)) (And.intro (HS.out.2.1.kept (((Kept.refl w13).alloc _).trans hk)) HS.out.2.2))
      have HV := hid' (And.intro (HV.out.1.kept (((Kept.refl w13).alloc _).trans hk)) (And.intro (HV.out.2.1.kept (((Kept.refl w13).alloc _).trans hk)) HV.out.2.2))
      clear hk
      go_wp2
      go_ret
      exact ⟨rfl, HK.out⟩
  · clear hn
    rcases hc with rfl | rfl
    · go_wp2
      go_ret
      exact ⟨rfl, HK.out⟩
    · go_wp2
      go_ret
      exact ⟨rfl, HK.out⟩

end F
end Go.Proofs.Ytfpcoolkkmnngaa
