/- Plain mathematics of the long division, limb by limb from the top, and of a multiple less a multiple. Nothing of Go stands in it. -/
import Derived.Test.YthijnnififodjaaDoorMath
namespace Go.Proofs.YthijnnififodjaaDoor

/-- The window of one round: the limbs above it tell nothing. -/
theorem div_window {R : List Nat} {D i n : Nat} (hb : M.Bd R) (hi : i + n + 1 ≤ R.length) (hD : D < 4294967296 ^ n) (hlt : M.val (R.drop (i + 1)) < D) :
    M.val (R.drop (i + n + 1)) = 0 ∧ M.val (R.drop i) = M.val ((R.drop i).take (n + 1)) ∧ M.val ((R.drop i).take (n + 1)) < 4294967296 * D := by
  have h1 := M.take_drop_val (R.drop (i + 1)) n (by rw [List.length_drop]; omega)
  rw [List.drop_drop, show i + 1 + n = i + n + 1 by omega] at h1
  have h0 : M.val (R.drop (i + n + 1)) = 0 := by
    apply Classical.byContradiction
    intro hn
    have h2 : 4294967296 ^ n * 1 ≤ 4294967296 ^ n * M.val (R.drop (i + n + 1)) := Nat.mul_le_mul_left _ (by omega)
    omega
  have h3 := M.take_drop_val (R.drop i) (n + 1) (by rw [List.length_drop]; omega)
  rw [List.drop_drop, show i + (n + 1) = i + n + 1 by omega, h0, Nat.mul_zero, Nat.add_zero] at h3
  refine ⟨h0, h3, ?_⟩
  have h4 := M.drop_getD R i (by omega)
  have h5 := hb.getD i
  omega

theorem drop_set_self (o : List Nat) (i v : Nat) (h : i < o.length) : (o.set i v).drop i = v :: o.drop (i + 1) := by
  rw [List.drop_eq_getElem_cons (by rw [List.length_set]; exact h)]
  simp [List.drop_set]

/-- One round: the window's quotient and rest. -/
theorem div_round {R W' o : List Nat} {D i n A2 qd : Nat} (hb : M.Bd R) (hi : i + n + 1 ≤ R.length) (hW : W'.length = n + 1) (hio : i < o.length) (hD : D < 4294967296 ^ n) (hlt : M.val (R.drop (i + 1)) < D)
    (hA : A2 = M.val (o.drop (i + 1)) * 4294967296 ^ (i + 1) * D + M.val R)
    (hq : qd = M.val ((R.drop i).take (n + 1)) / D) (hr : M.val W' = M.val ((R.drop i).take (n + 1)) % D) :
    (R.take i ++ W' ++ R.drop (i + n + 1)).length = R.length ∧ M.val ((R.take i ++ W' ++ R.drop (i + n + 1)).drop i) < D ∧ A2 = M.val ((o.set i qd).drop i) * 4294967296 ^ i * D + M.val (R.take i ++ W' ++ R.drop (i + n + 1)) := by
  obtain ⟨h0, h1, _⟩ := div_window hb hi hD hlt
  have hti : (R.take i).length = i := by rw [List.length_take]; omega
  have hv : M.val (W' ++ R.drop (i + n + 1)) = M.val W' := by rw [M.val_append, h0]; simp
  have hd : (R.take i ++ W' ++ R.drop (i + n + 1)).drop i = W' ++ R.drop (i + n + 1) := by
    rw [List.append_assoc, List.drop_append_of_le_length (by omega), List.drop_of_length_le (by omega)]; rfl
  refine ⟨?_, ?_, ?_⟩
  · simp only [List.length_append, hti, hW, List.length_drop]; omega
  · rw [hd, hv, hr]; exact Nat.mod_lt _ (by omega)
  · rw [drop_set_self _ _ _ hio, M.val, List.append_assoc, M.val_append, hti, hv, hA, M.take_drop_val R i (by omega), h1]
    have e := Nat.div_add_mod (M.val ((R.drop i).take (n + 1))) D
    rw [← hq, ← hr] at e
    generalize M.val ((R.drop i).take (n + 1)) = Wv at *
    rw [← e, Nat.pow_succ]
    generalize 4294967296 ^ i = P at *
    generalize M.val (o.drop (i + 1)) = O at *
    clear e hq hr hA h1 h0 hd hv hti hlt hD hio hW hi hb
    grind

/-- The end: the rest, shifted back. -/
theorem div_end {A B D S Q R : Nat} (hD : D = B * S) (hS : 0 < S) (h : A * S = Q * D + R) (hlt : R < D) : A = Q * B + R / S ∧ R / S < B := by
  have h1 : R = (A - Q * B) * S := by
    rw [Nat.sub_mul, Nat.mul_assoc, ← hD]; omega
  have h2 : R / S = A - Q * B := by rw [h1]; exact Nat.mul_div_cancel _ hS
  have h3 : Q * B ≤ A := by
    apply Nat.le_of_mul_le_mul_right (c := S) _ hS
    rw [Nat.mul_assoc, ← hD]; omega
  refine ⟨by omega, ?_⟩
  rw [h2]
  apply Nat.lt_of_mul_lt_mul_right (a := S)
  rw [← h1, ← hD]; exact hlt

/-- A top limb that is less makes the number less. -/
theorem lt_of_top {a b : List Nat} {n : Nat} (ha : M.Bd a) (hla : a.length = n + 1) (hlb : b.length = n + 1) (h : a.getD n 0 < b.getD n 0) : M.val a < M.val b := by
  rw [M.take_drop_val a n (by omega), M.take_drop_val b n (by omega), M.drop_getD a n (by omega), M.drop_getD b n (by omega), List.drop_of_length_le (by omega), List.drop_of_length_le (by omega)]
  have h1 := M.val_lt (ha.take n)
  rw [List.length_take, Nat.min_eq_left (by omega)] at h1
  simp only [M.val, Nat.mul_zero, Nat.add_zero]
  have h2 : 4294967296 ^ n * (a.getD n 0 + 1) ≤ 4294967296 ^ n * b.getD n 0 := Nat.mul_le_mul_left _ (by omega)
  rw [Nat.mul_add] at h2
  omega

/-- One limb of a multiple less a multiple. -/
theorem blend_step {a b o : List Nat} {k u d bw p q x y s r v bw' : Nat} (ho : o.length = k) (hx : x = a.getD k 0) (hy : y = b.getD k 0) (hs : s = u + p * x) (hr : r = d + q * y) (hv : s % 4294967296 + 4294967296 * bw' = v + r % 4294967296 + bw)
    (h : p * M.val (a.take k) + 4294967296 ^ k * (d + bw) = M.val o + q * M.val (b.take k) + 4294967296 ^ k * u) :
    p * M.val (a.take (k + 1)) + 4294967296 ^ (k + 1) * (r / 4294967296 + bw') = M.val (o ++ [v]) + q * M.val (b.take (k + 1)) + 4294967296 ^ (k + 1) * (s / 4294967296) := by
  rw [M.take_succ_getD, M.take_succ_getD, M.val_snoc, ← hx, ← hy, ho, Nat.pow_succ]
  have e1 := Nat.div_add_mod s 4294967296
  have e2 := Nat.div_add_mod r 4294967296
  generalize s / 4294967296 = s1 at *
  generalize s % 4294967296 = s0 at *
  generalize r / 4294967296 = r1 at *
  generalize r % 4294967296 = r0 at *
  generalize 4294967296 ^ k = P at *
  generalize M.val (a.take k) = va at *
  generalize M.val (b.take k) = vb at *
  generalize M.val o = vo at *
  clear hx hy ho
  subst hs hr
  grind

theorem blend_end {A B p q O P u d bw : Nat} (h : p * A + P * (d + bw) = O + q * B + P * u) (hle : q * B ≤ p * A) (hlt : p * A < q * B + P) (hO : O < P) : O = p * A - q * B := by
  have hu : u = d + bw := by
    rcases Nat.lt_trichotomy u (d + bw) with h1 | h1 | h1
    · have h2 : P * (u + 1) ≤ P * (d + bw) := Nat.mul_le_mul_left _ h1
      rw [Nat.mul_add] at h2
      omega
    · exact h1
    · have h2 : P * (d + bw + 1) ≤ P * u := Nat.mul_le_mul_left _ h1
      rw [Nat.mul_add P (d + bw) 1] at h2
      omega
  rw [hu] at h
  omega

/-- One limb of a shift to the right. -/
theorem shr_limb {x y S T B : Nat} (hS : 0 < S) (hB : B = S * T) (hx : x < B) : (y * B + x) / S % B * S + x % S = x + B * (y % S) := by
  have e1 : (y * B + x) / S = y * T + x / S := by
    rw [hB, ← Nat.mul_assoc, Nat.mul_comm y S, Nat.mul_assoc, Nat.mul_add_div hS]
  have hT : x / S < T := by rw [Nat.div_lt_iff_lt_mul hS, Nat.mul_comm, ← hB]; exact hx
  have e2 : y * T + x / S = B * (y / S) + (T * (y % S) + x / S) := by
    have e := Nat.div_add_mod y S
    generalize y / S = y1 at *
    generalize y % S = y0 at *
    rw [← e, hB]
    grind
  have h3 : T * (y % S) + x / S < B := by
    have h4 : T * (y % S + 1) ≤ T * S := Nat.mul_le_mul_left _ (Nat.mod_lt _ hS)
    rw [Nat.mul_add, Nat.mul_comm T S, ← hB] at h4
    omega
  rw [e1, e2, Nat.mul_add_mod, Nat.mod_eq_of_lt h3, Nat.add_mul]
  have e5 := Nat.div_add_mod x S
  have e6 : T * (y % S) * S = B * (y % S) := by rw [hB]; grind
  rw [e6, Nat.mul_comm (x / S) S]
  omega

theorem shr_step {q o : List Nat} {k S T v : Nat} (hk : k < q.length) (hol : o.length = q.length) (hb : M.Bd q) (hS : 0 < S) (hB : 4294967296 = S * T) (hv : v = (q.getD (k + 1) 0 * 4294967296 + q.getD k 0) / S % 4294967296)
    (h : M.val (o.take k) * S + q.getD 0 0 % S = M.val (q.take k) + 4294967296 ^ k * (q.getD k 0 % S)) :
    M.val ((o.set k v).take (k + 1)) * S + q.getD 0 0 % S = M.val (q.take (k + 1)) + 4294967296 ^ (k + 1) * (q.getD (k + 1) 0 % S) := by
  have h1 := shr_limb (y := q.getD (k + 1) 0) hS hB (hb.getD k)
  rw [← hv] at h1
  have hset : (o.set k v).getD k 0 = v := by simp [List.getD_eq_getElem?_getD, hol, hk]
  rw [M.take_succ_getD, M.take_succ_getD, List.take_set_of_le (by omega), hset, Nat.pow_succ]
  generalize q.getD (k + 1) 0 % S = y0 at *
  generalize q.getD k 0 % S = x0 at *
  generalize q.getD k 0 = x at *
  generalize q.getD 0 0 % S = z at *
  generalize 4294967296 ^ k = P at *
  clear hv hB
  generalize M.val (o.take k) = vo at *
  generalize M.val (q.take k) = vq at *
  clear hset hb
  grind

theorem shr_end {V Z S o : Nat} (hS : 0 < S) (h : o * S + Z % S = V) : o = V / S := by
  rw [← h, Nat.mul_comm, Nat.mul_add_div hS, Nat.div_eq_of_lt (Nat.mod_lt _ hS)]; rfl

end Go.Proofs.YthijnnififodjaaDoor
