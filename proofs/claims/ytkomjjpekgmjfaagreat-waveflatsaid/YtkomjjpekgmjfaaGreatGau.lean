/- Fractions told by any numerator and denominator: near of them; numbers in units of ten to the power -18. What a wave says, told by its kind, its values and its steps; its corners. Calls of rat told by any numerator and denominator. -/
import Derived.Test.YtkomjjpekgmjfaaGreatGat
import Derived.Test.YtkomjjpekgmjfaaGreatGas
import Derived.Test.YtkomjjpekgmjfaaGreatGan
import Derived.Test.YtkomjjpekgmjfaaGreatGar
namespace Go.Proofs.YtkomjjpekgmjfaaGreat
open Go.RowKit
namespace V
open Q (okN okN_bd Scl)
theorem near_le' {x x' : Int} {y y' : Nat} (hy : 0 < y) (hy' : 0 < y') (h : x * y' = x' * y) : F.near x y ≤ F.near x' y' := by
 obtain ⟨a1, a2, a3⟩ := F.near_cut x hy
 obtain ⟨b1, b2, b3⟩ := F.near_cut x' hy'
 generalize F.near x y = z at *
 generalize F.near x' y' = z' at *
 apply Classical.byContradiction
 intro hn
 have hz : z' + 1 ≤ z := by omega
 have p1 : (0 : Int) < y := by omega
 have p2 : (0 : Int) < y' := by omega
 have c1 : (2 * z - 1) * y ≤ 2 * x := by rw [Int.sub_mul, Int.mul_assoc]; omega
 have c2 : 2 * x' ≤ (2 * z' + 1) * y' := by rw [Int.add_mul, Int.mul_assoc]; omega
 have c3 := Int.mul_le_mul_of_nonneg_right c1 (Int.le_of_lt p2)
 have c4 := Int.mul_le_mul_of_nonneg_right c2 (Int.le_of_lt p1)
 have e1 : (2 * z' + 1) * y' * y = (2 * z' + 1) * (y * y') := by simp only [Int.mul_assoc, Int.mul_comm]
 have e2 : (2 * z - 1) * y * y' = (2 * z - 1) * (y * y') := by simp only [Int.mul_assoc]
 have e3 : 2 * x * y' = 2 * (x * y') := Int.mul_assoc _ _ _
 have e4 : 2 * x' * y = 2 * (x' * y) := Int.mul_assoc _ _ _
 have p3 := Int.mul_pos p1 p2
 have c5 : (2 * z - 1) * (y * y') ≤ (2 * z' + 1) * (y * y') := by omega
 have c6 : 2 * z - 1 ≤ 2 * z' + 1 := Int.le_of_mul_le_mul_right c5 p3
 obtain rfl : z = z' + 1 := by omega
 have c7 : (2 * (z' + 1) - 1) * (y * y') = (2 * z' + 1) * (y * y') := by rw [show 2 * (z' + 1) - 1 = 2 * z' + 1 by omega]
 have c8 : 2 * x * y' = (2 * (z' + 1) - 1) * y * y' := by omega
 have c9 : 2 * x = (2 * (z' + 1) - 1) * y := Int.eq_of_mul_eq_mul_right (by omega) c8
 have d8 : 2 * x' * y = (2 * z' + 1) * y' * y := by omega
 have d9 : 2 * x' = (2 * z' + 1) * y' := Int.eq_of_mul_eq_mul_right (by omega) d8
 have k1 := a3 (.inr (by rw [Int.sub_mul, Int.mul_assoc] at c9; omega))
 have k2 := b3 (.inl (by rw [Int.add_mul, Int.mul_assoc] at d9; omega))
 omega
theorem near_eq {x x' : Int} {y y' : Nat} (hy : 0 < y) (hy' : 0 < y') (h : x * y' = x' * y) : F.near x y = F.near x' y' :=
 Int.le_antisymm (near_le' hy hy' h) (near_le' hy' hy h.symm)
def U (m x : Int) : Int := m * ((10 ^ (x + 18).toNat : Nat) : Int)
theorem scl_u {m x N : Int} {D : Nat} (hx : -18 ≤ x) (h : Scl m x N D) : N * ((10 ^ 18 : Nat) : Int) = U m x * D := by
 obtain ⟨_, _, e⟩ := h
 unfold U
 by_cases h0 : 0 ≤ x
 ·
  have e1 : (-x).toNat = 0 := by omega
  have e2 : (x + 18).toNat = x.toNat + 18 := by omega
  rw [e1] at e
  rw [e2, Nat.pow_add, Int.natCast_mul, ← Int.mul_assoc, Int.mul_right_comm (m * _), ← e]
  simp
 ·
  have e1 : x.toNat = 0 := by omega
  have e2 : 10 ^ 18 = 10 ^ (-x).toNat * 10 ^ (x + 18).toNat := by rw [← Nat.pow_add]; congr 1; omega
  rw [e1] at e
  rw [e2, Int.natCast_mul, ← Int.mul_assoc, e]
  simp only [Nat.pow_zero, Int.natCast_one, Int.mul_one]
  rw [Int.mul_right_comm]
theorem scl_u9 {m x N : Int} {D : Nat} (hx : -18 ≤ x) (h : Scl m (x + 9) N D) : N * ((1000000000 : Nat) : Int) = U m x * D := by
 obtain ⟨_, _, e⟩ := h
 unfold U
 by_cases h0 : 0 ≤ x + 9
 ·
  have e1 : (-(x + 9)).toNat = 0 := by omega
  have e2 : (x + 18).toNat = (x + 9).toNat + 9 := by omega
  rw [e1] at e
  rw [e2, Nat.pow_add, Int.natCast_mul, ← Int.mul_assoc, Int.mul_right_comm (m * _), ← e]
  simp
 ·
  have e1 : (x + 9).toNat = 0 := by omega
  have e2 : 1000000000 = 10 ^ (-(x + 9)).toNat * 10 ^ (x + 18).toNat := by rw [← Nat.pow_add, show (-(x + 9)).toNat + (x + 18).toNat = 9 by omega]
  rw [e1] at e
  rw [e2, Int.natCast_mul, ← Int.mul_assoc, e]
  simp only [Nat.pow_zero, Int.natCast_one, Int.mul_one]
  rw [Int.mul_right_comm]
theorem u_bd {m x : Int} (h : okN m x = true) : (U m x).natAbs ≤ 10 ^ 36 := by
 obtain ⟨h1, h2, h3, h4⟩ := okN_bd h
 unfold U
 rw [Int.natAbs_mul, Int.natAbs_natCast]
 have e1 : m.natAbs ≤ 10 ^ 9 := by omega
 have e2 : 10 ^ (x + 18).toNat ≤ 10 ^ 27 := Nat.pow_le_pow_right (by decide) (by omega)
 calc m.natAbs * 10 ^ (x + 18).toNat ≤ 10 ^ 9 * 10 ^ 27 := Nat.mul_le_mul e1 e2
  _ = 10 ^ 36 := by decide
theorem low_bd {N A : Int} {D S : Nat} (hc : Nat.Coprime N.natAbs D) (hS : 0 < S) (h : N * (S : Int) = A * D) : N.natAbs ≤ A.natAbs ∧ D ≤ S := by
 have e := congrArg Int.natAbs h
 rw [Int.natAbs_mul, Int.natAbs_mul, Int.natAbs_natCast, Int.natAbs_natCast] at e
 constructor
 ·
  have hd : N.natAbs ∣ A.natAbs := hc.dvd_of_dvd_mul_right (by rw [← e]; exact Nat.dvd_mul_right _ _)
  rcases Nat.eq_zero_or_pos A.natAbs with h0 | h0
  ·
   rw [h0, Nat.zero_mul] at e
   rcases Nat.mul_eq_zero.1 e with h1 | h1
   ·
    omega
   ·
    omega
  ·
   exact Nat.le_of_dvd h0 hd
 ·
  have hd : D ∣ S := hc.symm.dvd_of_dvd_mul_left (by rw [e]; exact Nat.dvd_mul_left _ _)
  exact Nat.le_of_dvd hS hd
theorem sum_rt {xA xB N a b : Int} {yA yB D S : Nat} (h : F.IsSum xA yA xB yB N D) (hA : xA * (S : Int) = a * yA) (hB : xB * (S : Int) = b * yB) (pA : 0 < yA) (pB : 0 < yB) : N * (S : Int) = (a + b) * D := by
 have e := h.eq
 have pp : ((yA : Int) * yB) ≠ 0 := Int.mul_ne_zero (by omega) (by omega)
 apply Int.eq_of_mul_eq_mul_right pp
 calc N * S * (yA * yB) = N * (yA * yB) * S := Int.mul_right_comm _ _ _
  _ = (xA * yB + xB * yA) * D * S := by rw [e]
  _ = (xA * S * yB + xB * S * yA) * D := by simp only [Int.add_mul]; simp only [Int.mul_assoc, Int.mul_comm, Int.mul_left_comm]
  _ = (a * yA * yB + b * yB * yA) * D := by rw [hA, hB]
  _ = (a + b) * D * (yA * yB) := by simp only [Int.add_mul]; simp only [Int.mul_assoc, Int.mul_comm, Int.mul_left_comm]
theorem prod_rt {xA xB N a b : Int} {yA yB D S T : Nat} (h : F.IsProd xA yA xB yB N D) (hA : xA * (S : Int) = a * yA) (hB : xB * (T : Int) = b * yB) (pA : 0 < yA) (pB : 0 < yB) : N * ((S * T : Nat) : Int) = (a * b) * D := by
 have e := h.eq
 have pp : ((yA : Int) * yB) ≠ 0 := Int.mul_ne_zero (by omega) (by omega)
 apply Int.eq_of_mul_eq_mul_right pp
 rw [Int.natCast_mul]
 calc N * ((S : Int) * T) * (yA * yB) = N * (yA * yB) * (S * T) := Int.mul_right_comm _ _ _
  _ = xA * xB * D * (S * T) := by rw [e]
  _ = (xA * S) * (xB * T) * D := by simp only [Int.mul_assoc, Int.mul_comm, Int.mul_left_comm]
  _ = (a * yA) * (b * yB) * D := by rw [hA, hB]
  _ = a * b * D * (yA * yB) := by simp only [Int.mul_assoc, Int.mul_comm, Int.mul_left_comm]
end V
end Go.Proofs.YtkomjjpekgmjfaaGreat

namespace Go.Proofs.YtkomjjpekgmjfaaGreat
open Go.RowKit
namespace V
open Q (okN okN_bd Scl)
def lev (p : Int × Int) : Int := F.near (U p.1 p.2) 1000000000
def seg (p q : Int × Int) (g L : Int) : Int := F.near (U p.1 p.2 * (L - g) + U q.1 q.2 * g) (L.toNat * 1000000000)
theorem seg_zero (p q : Int × Int) (L : Int) (h : 0 < L) : seg p q 0 L = lev p := by
 unfold seg lev
 apply near_eq (Nat.mul_pos (by omega) (by decide)) (by decide)
 rw [Int.natCast_mul, Int.toNat_of_nonneg (by omega)]
 simp only [Int.sub_zero, Int.mul_zero, Int.add_zero]
 rw [Int.mul_assoc]
def sayP (p q : Int × Int) (d r b f P t : Int) : Int :=
 if t < d then lev p else
  if (t - d) % P < r then seg p q ((t - d) % P) r else if (t - d) % P < r + b then lev q else if (t - d) % P < r + b + f then seg q p ((t - d) % P - (r + b)) f else lev p
def sayQ (vs : List (Int × Int)) (ss : List Int) (t : Int) : Int :=
 if fa ss t = ss.length then lev (vs.getD (vs.length - 1) (0, 0)) else if fa ss t = 0 then lev (vs.getD 0 (0, 0)) else
  seg (vs.getD (fa ss t - 1) (0, 0)) (vs.getD (fa ss t) (0, 0)) (t - ss.getD (fa ss t - 1) 0) (ss.getD (fa ss t) 0 - ss.getD (fa ss t - 1) 0)
def sayW (k : Int) (vs : List (Int × Int)) (ss : List Int) (t : Int) : Int :=
 if k = 2 then sayP (vs.getD 0 (0, 0)) (vs.getD 1 (0, 0)) (ss.getD 0 0) (ss.getD 1 0) (ss.getD 2 0) (ss.getD 3 0) (ss.getD 4 0) t else if k = 3 then sayQ vs ss t else lev (vs.getD (t % vs.length).toNat (0, 0))
def corP (d r b f P t : Int) : Int :=
 if t < d then d else t - (t - d) % P + (if (t - d) % P < r then r else if (t - d) % P < r + b then r + b else if (t - d) % P < r + b + f then r + b + f else P)
def corW (k : Int) (ss : List Int) (t : Int) : Option Int :=
 if k = 2 then some (corP (ss.getD 0 0) (ss.getD 1 0) (ss.getD 2 0) (ss.getD 3 0) (ss.getD 4 0) t) else if k = 3 then (if fa ss t = ss.length then none else some (ss.getD (fa ss t) 0)) else if k = 4 then some (t + 1) else none
def nxtW (k : Int) (ss : List Int) (t : Int) : Int × Bool :=
 match corW k ss t with
 | none => (0, false)
 | some c => if c ≤ 1000000000 then (c, true) else (0, false)
def atW (k : Int) (vs : List (Int × Int)) (ss : List Int) (t : Int) : Int × Int :=
 if okW k vs ss = true then (if okS t = true then (F.gridV (sayW k vs ss t), F.gridE (sayW k vs ss t)) else (0, 4)) else (0, 40)
def nextW (k : Int) (vs : List (Int × Int)) (ss : List Int) (t : Int) : Int × Bool :=
 if okW k vs ss = true ∧ okS t = true then nxtW k ss t else (0, false)
end V
end Go.Proofs.YtkomjjpekgmjfaaGreat

namespace Go.Proofs.YtkomjjpekgmjfaaGreat
open Go.RowKit
namespace V
open Q (okN okN_bd Scl RQ hid')
def RT (B : Nat) (w : World) (v : Value) (A : Int) (S : Nat) : Prop := ∃ N D, RQ B w v N D ∧ N * (S : Int) = A * D
theorem RT.kept {B : Nat} {w w' : World} {v : Value} {A : Int} {S : Nat} (h : RT B w v A S) (k : Kept w w') : RT B w' v A S := by
 obtain ⟨N, D, h1, h2⟩ := h
 exact ⟨N, D, h1.kept k, h2⟩
theorem RT.mono {B B' : Nat} {w : World} {v : Value} {A : Int} {S : Nat} (h : RT B w v A S) (k : B' ≤ B) : RT B' w v A S := by
 obtain ⟨N, D, h1, h2⟩ := h
 exact ⟨N, D, h1.mono k, h2⟩
theorem RT.scale {B : Nat} {w : World} {v : Value} {A : Int} {S : Nat} (h : RT B w v A S) (c : Nat) : RT B w v (A * c) (S * c) := by
 obtain ⟨N, D, h1, h2⟩ := h
 refine ⟨N, D, h1, ?_⟩
 rw [Int.natCast_mul, ← Int.mul_assoc, h2, Int.mul_right_comm]
theorem RT.cut {B : Nat} {w : World} {v : Value} {A : Int} {S : Nat} {c : Nat} (h : RT B w v (A * c) (S * c)) (hc : 0 < c) : RT B w v A S := by
 obtain ⟨N, D, h1, h2⟩ := h
 refine ⟨N, D, h1, Int.eq_of_mul_eq_mul_right (show (c : Int) ≠ 0 by omega) ?_⟩
 rw [Int.natCast_mul, ← Int.mul_assoc] at h2
 rw [h2, Int.mul_right_comm]
theorem RT.shape {B : Nat} {w : World} {v : Value} {A : Int} {S : Nat} (h : RT B w v A S) : ∃ (s : Bool) (ao ap : Option Addr) (k c k' c' : Nat), v = .agg #[.bool s, .slice ao k c, .bool false, .slice ap k' c'] := by
 obtain ⟨N, D, ⟨s, ao, ap, k, c, k', c', l, l', rfl, _⟩, _⟩ := h
 exact ⟨_, _, _, _, _, _, _, rfl⟩
theorem hW : (10 : Nat) ^ 200 < M.W72 := by unfold M.W72; decide
theorem rt_of_sum {B : Nat} {w : World} {e : Ending} {N A : Int} {D S : Nat} (h : F.SumIs B w e N D) (hp : 0 < D) (hc : Nat.Coprime N.natAbs D) (hS : 0 < S) (he : N * (S : Int) = A * D) (hA : A.natAbs ≤ 10 ^ 200) (hB : S ≤ 10 ^ 200) :
  ∃ u, e = .returned (.tuple #[u, .int .i64 0]) ∧ RT B w u A S := by
 have hb := low_bd hc hS he
 have hw := hW
 rcases h with ⟨u, rfl, hu⟩ | ⟨_, hno⟩
 ·
  exact ⟨u, rfl, N, D, RQ.of hu hp hc, he⟩
 ·
  exact absurd ⟨Nat.lt_of_le_of_lt (Nat.le_trans hb.1 hA) hw, Nat.lt_of_le_of_lt (Nat.le_trans hb.2 hB) hw⟩ hno
theorem rt_add {v v' : Value} {A A' : Int} {S : Nat} {B B' : Nat} (w : World) (h : RT B w v A S) (h' : RT B' w v' A' S) (hS : 0 < S) (hA : (A + A').natAbs ≤ 10 ^ 200) (hB : S ≤ 10 ^ 200) :
  Calls Tryz.prog 53 #[v, v'] w fun e w' => Kept w w' ∧ ∃ u, e = .returned (.tuple #[u, .int .i64 0]) ∧ RT w.heap.size w' u (A + A') S := by
 obtain ⟨N, D, q, e1⟩ := h
 obtain ⟨N', D', q', e2⟩ := h'
 have p1 := q.low.1
 have p2 := q'.low.1
 obtain ⟨s, ao, ap, k, c, k', c', l, l', rfl, n1, n2, r, rfl, rfl⟩ := q
 obtain ⟨s', ao', ap', k1, c1, k1', c1', l1, l1', rfl, n1', n2', r', rfl, rfl⟩ := q'
 refine (F.Add_ok s false s' false ao ap ao' ap' k c k' c' k1 c1 k1' c1' l l' l1 l1' w n1.sl n2.sl n1'.sl n2'.sl r r').mono ?_
 rintro e w' ⟨hk, X, Y, hP, hQ⟩
 exact ⟨hk, rt_of_sum hQ hP.pos hP.low hS (sum_rt hP e1 e2 p1 p2) hA hB⟩
theorem rt_sub {v v' : Value} {A A' : Int} {S : Nat} {B B' : Nat} (w : World) (h : RT B w v A S) (h' : RT B' w v' A' S) (hS : 0 < S) (hA : (A - A').natAbs ≤ 10 ^ 200) (hB : S ≤ 10 ^ 200) :
  Calls Tryz.prog 50 #[v, v'] w fun e w' => Kept w w' ∧ ∃ u, e = .returned (.tuple #[u, .int .i64 0]) ∧ RT w.heap.size w' u (A - A') S := by
 obtain ⟨N, D, q, e1⟩ := h
 obtain ⟨N', D', q', e2⟩ := h'
 have p1 := q.low.1
 have p2 := q'.low.1
 obtain ⟨s, ao, ap, k, c, k', c', l, l', rfl, n1, n2, r, rfl, rfl⟩ := q
 obtain ⟨s', ao', ap', k1, c1, k1', c1', l1, l1', rfl, n1', n2', r', rfl, rfl⟩ := q'
 refine (F.Sub_ok s false s' false ao ap ao' ap' k c k' c' k1 c1 k1' c1' l l' l1 l1' w n1.sl n2.sl n1'.sl n2'.sl r r').mono ?_
 rintro e w' ⟨hk, X, Y, hP, hQ⟩
 have e3 : -M.int s' l1 * (S : Int) = -A' * (M.val l1' : Int) := by rw [Int.neg_mul, e2, Int.neg_mul]
 exact ⟨hk, rt_of_sum hQ hP.pos hP.low hS (by rw [Int.sub_eq_add_neg]; exact sum_rt hP e1 e3 p1 p2) hA hB⟩
theorem rt_mul {v v' : Value} {A A' : Int} {S T : Nat} {B B' : Nat} (w : World) (h : RT B w v A S) (h' : RT B' w v' A' T) (hS : 0 < S) (hT : 0 < T) (hA : (A * A').natAbs ≤ 10 ^ 200) (hB : S * T ≤ 10 ^ 200) :
  Calls Tryz.prog 51 #[v, v'] w fun e w' => Kept w w' ∧ ∃ u, e = .returned (.tuple #[u, .int .i64 0]) ∧ RT w.heap.size w' u (A * A') (S * T) := by
 obtain ⟨N, D, q, e1⟩ := h
 obtain ⟨N', D', q', e2⟩ := h'
 have p1 := q.low.1
 have p2 := q'.low.1
 obtain ⟨s, ao, ap, k, c, k', c', l, l', rfl, n1, n2, r, rfl, rfl⟩ := q
 obtain ⟨s', ao', ap', k1, c1, k1', c1', l1, l1', rfl, n1', n2', r', rfl, rfl⟩ := q'
 refine (F.Mul_ok s false s' false ao ap ao' ap' k c k' c' k1 c1 k1' c1' l l' l1 l1' w n1.sl n2.sl n1'.sl n2'.sl r r').mono ?_
 rintro e w' ⟨hk, X, Y, hP, hQ⟩
 exact ⟨hk, rt_of_sum hQ hP.pos hP.low (Nat.mul_pos hS hT) (prod_rt hP e1 e2 p1 p2) hA hB⟩
theorem rt_round {v : Value} {A : Int} {S : Nat} {B : Nat} (w : World) (h : RT B w v A S) (hS : 0 < S) :
  Calls Tryz.prog 39 #[v] w fun e w' => Kept w w' ∧ e = .returned (.tuple #[.int .i64 (F.gridV (F.near A S)), .int .i64 (F.gridE (F.near A S))]) := by
 obtain ⟨N, D, q, e1⟩ := h
 have p1 := q.low.1
 obtain ⟨s, ao, ap, k, c, k', c', l, l', rfl, n1, n2, r, rfl, rfl⟩ := q
 refine (F.Round_ok s false ao ap k c k' c' l l' w n1.sl n2.sl r).mono ?_
 rintro e w' ⟨rfl, hk⟩
 rw [near_eq p1 hS e1]
 exact ⟨hk, rfl⟩
theorem rt_value (m x : Int) (h : okN m x = true) (w : World) :
  Calls Tryz.prog 49 #[.agg #[.int .i64 m, .int .i64 x]] w fun e w' => Kept w w' ∧ ∃ u, e = .returned (.tuple #[u, .int .i64 0]) ∧ RT w.heap.size w' u (U m x) (10 ^ 18) := by
 refine (Q.value_any m x w).mono ?_
 rintro e w' ⟨hk, ⟨h0, _⟩ | ⟨_, v, N, D, rfl, hq, hs⟩⟩
 ·
  rw [h] at h0; exact absurd h0 (by decide)
 ·
  exact ⟨hk, v, rfl, N, D, hq, scl_u (okN_bd h).2.2.1 hs⟩
theorem grid_u (m x : Int) (h : okN m x = true) (w : World) :
  Calls Tryz.prog 19 #[.agg #[.int .i64 m, .int .i64 x]] w fun e w' => Kept w w' ∧ e = .returned (.tuple #[.int .i64 (F.gridV (F.near (U m x) 1000000000)), .int .i64 (F.gridE (F.near (U m x) 1000000000))]) := by
 refine (Q.grid_any m x w).mono ?_
 rintro e w' ⟨hk, ⟨h0, _⟩ | ⟨_, N, D, hs, rfl⟩⟩
 ·
  rw [h] at h0; exact absurd h0 (by decide)
 ·
  rw [near_eq hs.1 (by decide) (scl_u9 (okN_bd h).2.2.1 hs)]
  exact ⟨hk, rfl⟩
end V
end Go.Proofs.YtkomjjpekgmjfaaGreat
