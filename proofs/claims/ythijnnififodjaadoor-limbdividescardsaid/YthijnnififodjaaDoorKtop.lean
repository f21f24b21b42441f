/- topWord and leading of limb: the top words of two numbers. -/
import Derived.Test.YthijnnififodjaaDoorKblend
import Derived.Test.YthijnnififodjaaDoorLeh
namespace Go.Proofs.YthijnnififodjaaDoor
open Go.RowKit

/-- The word at the top: the limbs n-1, n-2 and the head of the limb n-3. -/
def topW (m : List Nat) (n s : Nat) : Nat := (m.getD (n - 1) 0 * 4294967296 + m.getD (n - 2) 0) * 2 ^ s + m.getD (n - 3) 0 / 2 ^ (32 - s)

theorem top_or {z2 z1 z0 s : Nat} (h1 : z1 < 4294967296) (h0 : z0 < 4294967296) (hs : s ≤ 31) (ht : z2 * 2 ^ s < 4294967296) :
    bits .or .u64 (IntKind.u64.wrap (((z2 : Int) * 4294967296 + (z1 : Int)) * 2 ^ s)) ((z0 : Int) / 2 ^ (32 - s)) = (((z2 * 4294967296 + z1) * 2 ^ s + z0 / 2 ^ (32 - s) : Nat) : Int) := by
  have hST : 2 ^ s * 2 ^ (32 - s) = 4294967296 := by rw [← Nat.pow_add, show s + (32 - s) = 32 by omega]
  have hS0 : 0 < 2 ^ s := Nat.two_pow_pos _
  have hT0 : 0 < 2 ^ (32 - s) := Nat.two_pow_pos _
  have e1 : ((z2 : Int) * 4294967296 + (z1 : Int)) * 2 ^ s = (((z2 * 4294967296 + z1) * 2 ^ s : Nat) : Int) := by rw [Int.natCast_mul, Int.natCast_add, Int.natCast_mul, Int.natCast_pow]; rfl
  have e2 : (z0 : Int) / 2 ^ (32 - s) = ((z0 / 2 ^ (32 - s) : Nat) : Int) := by rw [Int.natCast_ediv, Int.natCast_pow]; rfl
  have hlow : z0 / 2 ^ (32 - s) < 2 ^ s := by rw [Nat.div_lt_iff_lt_mul hT0, hST]; exact h0
  have hz2 : (z2 + 1) * 2 ^ s ≤ 4294967296 := by
    rw [← hST, Nat.mul_comm (2 ^ s)] at ht ⊢
    exact Nat.mul_le_mul_right _ (Nat.lt_of_mul_lt_mul_right ht)
  have hbig : (z2 * 4294967296 + z1) * 2 ^ s + 2 ^ s ≤ 18446744073709551616 := by
    have h3 : (z2 * 4294967296 + z1 + 1) * 2 ^ s ≤ ((z2 + 1) * 4294967296) * 2 ^ s := Nat.mul_le_mul_right _ (by omega)
    have h4 : ((z2 + 1) * 4294967296) * 2 ^ s = ((z2 + 1) * 2 ^ s) * 4294967296 := by rw [Nat.mul_assoc, Nat.mul_comm 4294967296, ← Nat.mul_assoc]
    have h5 : ((z2 + 1) * 2 ^ s) * 4294967296 ≤ 4294967296 * 4294967296 := Nat.mul_le_mul_right _ hz2
    rw [Nat.add_mul (z2 * 4294967296 + z1) 1] at h3
    omega
  rw [e1, e2]
  have hwr : IntKind.u64.wrap (((z2 * 4294967296 + z1) * 2 ^ s : Nat) : Int) = (((z2 * 4294967296 + z1) * 2 ^ s : Nat) : Int) := by
    generalize (z2 * 4294967296 + z1) * 2 ^ s = y at *
    rw [IntKind.wrap_u64]; omega
  have hS1 : 2 ^ s ≤ 2147483648 := Nat.le_trans (Nat.pow_le_pow_right (by decide) hs) (by decide)
  rw [hwr, bits_or_u64_nat _ _ (by omega) (by omega)]
  have h6 := Nat.two_pow_add_eq_or_of_lt (i := s) (b := z0 / 2 ^ (32 - s)) hlow (z2 * 4294967296 + z1)
  rw [Nat.mul_comm (2 ^ s)] at h6
  rw [← h6]

set_option maxRecDepth 100000 in
set_option maxHeartbeats 1000000 in
theorem topWord_any (v : Value) (m : List Nat) (n s : Nat) (w : World) (h : Sl w v m) (hn : n ≤ 1000) (hn3 : 3 ≤ n) (hml : m.length ≤ n) (hs : s ≤ 31) (htop : m.getD (n - 1) 0 * 2 ^ s < 4294967296) :
    Calls Tryd.prog 70 #[v, .int .i64 (n : Int), .int .i64 (s : Int)] w fun e w' => e = .returned (.int .u64 ((topW m n s : Nat) : Int)) ∧ ∃ k, w' = w.drewN k := by
  have b2 := h.bd.getD (n - 1)
  have b1 := h.bd.getD (n - 2)
  have b0 := h.bd.getD (n - 3)
  have c2 := limbAt_any w h ((n : Int) - 1) (by omega) (by omega)
  have c1 := limbAt_any w h ((n : Int) - 2) (by omega) (by omega)
  have c0 := fun k => limbAt_any (w.drewN k) (h.drewN k) ((n : Int) - 3) (by omega) (by omega)
  rw [show ((n : Int) - 1).toNat = n - 1 by omega] at c2
  rw [show ((n : Int) - 2).toNat = n - 2 by omega] at c1
  rw [show ((n : Int) - 3).toNat = n - 3 by omega] at c0
  unfold topW
  obtain ⟨z2, hz2⟩ : ∃ z, z = m.getD (n - 1) 0 := ⟨_, rfl⟩
  obtain ⟨z1, hz1⟩ : ∃ z, z = m.getD (n - 2) 0 := ⟨_, rfl⟩
  obtain ⟨z0, hz0⟩ : ∃ z, z = m.getD (n - 3) 0 := ⟨_, rfl⟩
  rw [← hz2, ← hz1, ← hz0]
  rw [← hz2] at c2 b2 htop
  rw [← hz1] at c1 b1
  rw [← hz0] at c0 b0
  have C2 : Hid (Calls Tryd.prog 72 #[v, .int .i64 ((n : Int) - 1)] w fun e w' => e = .returned (.int .u64 (z2 : Int)) ∧ w' = w) := c2
  have C1 : Hid (Calls Tryd.prog 72 #[v, .int .i64 ((n : Int) - 2)] w fun e w' => e = .returned (.int .u64 (z1 : Int)) ∧ w' = w) := c1
  have C0 : Hid (∀ k, Calls Tryd.prog 72 #[v, .int .i64 ((n : Int) - 3)] (w.drewN k) fun e w' => e = .returned (.int .u64 (z0 : Int)) ∧ w' = w.drewN k) := c0
  have hor := or_low z2 z1 b2 b1
  have HT : Hid (z2 * 2 ^ s < 4294967296) := htop
  clear hz2 hz1 hz0 c2 c1 c0 htop h
  go_enter Tryd.func70, Tryd.ntmps70
  go_wp2_with fail
  refine C2.out.mono ?_
  rintro e w9 ⟨rfl, rfl⟩
  go_wp2_with fail
  refine C1.out.mono ?_
  rintro e w9 ⟨rfl, rfl⟩
  go_wp2_with fail
  go_quiet ((go_at_call 72; exact Calls.quiet_of_same (C0.out _)))
  rw [top_or b1 b0 hs HT.out]
  obtain ⟨z, hz⟩ : ∃ z, z = (z2 * 4294967296 + z1) * 2 ^ s + z0 / 2 ^ (32 - s) := ⟨_, rfl⟩
  rw [← hz]
  have HZ : Hid (z = (z2 * 4294967296 + z1) * 2 ^ s + z0 / 2 ^ (32 - s)) := hz
  clear hz
  go_wp2
  go_ret
  exact ⟨ret_u64 (by rw [HZ.out]), nq, rfl⟩

theorem topW_lt {z2 z1 z0 s : Nat} (h1 : z1 < 4294967296) (h0 : z0 < 4294967296) (hs : s ≤ 31) (ht : z2 * 2 ^ s < 4294967296) : (z2 * 4294967296 + z1) * 2 ^ s + z0 / 2 ^ (32 - s) < 18446744073709551616 := by
  have hST : 2 ^ s * 2 ^ (32 - s) = 4294967296 := by rw [← Nat.pow_add, show s + (32 - s) = 32 by omega]
  have hT0 : 0 < 2 ^ (32 - s) := Nat.two_pow_pos _
  have hlow : z0 / 2 ^ (32 - s) < 2 ^ s := by rw [Nat.div_lt_iff_lt_mul hT0, hST]; exact h0
  have hz2 : (z2 + 1) * 2 ^ s ≤ 4294967296 := by
    rw [← hST, Nat.mul_comm (2 ^ s)] at ht ⊢
    exact Nat.mul_le_mul_right _ (Nat.lt_of_mul_lt_mul_right ht)
  have h3 : (z2 * 4294967296 + z1 + 1) * 2 ^ s ≤ ((z2 + 1) * 4294967296) * 2 ^ s := Nat.mul_le_mul_right _ (by omega)
  have h4 : ((z2 + 1) * 4294967296) * 2 ^ s = ((z2 + 1) * 2 ^ s) * 4294967296 := by rw [Nat.mul_assoc, Nat.mul_comm 4294967296, ← Nat.mul_assoc]
  have h5 : ((z2 + 1) * 2 ^ s) * 4294967296 ≤ 4294967296 * 4294967296 := Nat.mul_le_mul_right _ hz2
  rw [Nat.add_mul (z2 * 4294967296 + z1) 1] at h3
  omega

/-- The top word is what is left of the number over K. -/
theorem topW_val {m : List Nat} {n s : Nat} (hb : M.Bd m) (hn3 : 3 ≤ n) (hml : m.length ≤ n) (hs : s ≤ 31) : ∃ p, p < 4294967296 ^ (n - 3) * 2 ^ (32 - s) ∧ M.val m = topW m n s * (4294967296 ^ (n - 3) * 2 ^ (32 - s)) + p := by
  have e : M.val m = M.val (m.take n) := by rw [List.take_of_length_le hml]
  obtain ⟨i, rfl⟩ : ∃ i, n = i + 3 := ⟨n - 3, by omega⟩
  rw [M.take_succ_getD, M.take_succ_getD, M.take_succ_getD] at e
  simp only [Nat.pow_succ] at e
  unfold topW
  rw [show i + 3 - 1 = i + 2 by omega, show i + 3 - 2 = i + 1 by omega, show i + 3 - 3 = i by omega]
  rw [show i + 1 + 1 = i + 2 by omega] at e
  have hlow := M.val_lt (hb.take i)
  have hlen : (m.take i).length ≤ i := by rw [List.length_take]; omega
  have hlow' : M.val (m.take i) < 4294967296 ^ i := Nat.lt_of_lt_of_le hlow (Nat.pow_le_pow_right (by decide) hlen)
  have hST : 4294967296 = 2 ^ s * 2 ^ (32 - s) := by rw [← Nat.pow_add, show s + (32 - s) = 32 by omega]
  have hT0 : 0 < 2 ^ (32 - s) := Nat.two_pow_pos _
  clear hlow hlen hml hb
  generalize 2 ^ s = S at *
  generalize 2 ^ (32 - s) = T at *
  generalize m.getD (i + 2) 0 = z2 at *
  generalize m.getD (i + 1) 0 = z1 at *
  generalize m.getD i 0 = z0 at *
  generalize M.val (m.take i) = low at *
  generalize 4294967296 ^ i = P at *
  generalize M.val m = X at *
  refine ⟨low + P * (z0 % T), ?_, ?_⟩
  · have h1 : P * (z0 % T + 1) ≤ P * T := Nat.mul_le_mul_left _ (Nat.mod_lt _ hT0)
    rw [Nat.mul_add] at h1
    omega
  · have e0 := Nat.div_add_mod z0 T
    generalize z0 / T = d0 at *
    generalize z0 % T = r0 at *
    rw [e, ← e0]
    rw [hST]
    clear e e0 hlow' hs hST
    grind

set_option maxRecDepth 100000 in
set_option maxHeartbeats 1000000 in
theorem leading_any (vx vy : Value) (x y : List Nat) (w : World) (hx : Sl w vx x) (hy : Sl w vy y) (hn : x.length ≤ 1000) (hn3 : 3 ≤ x.length) (hyl : y.length ≤ x.length) (tx : M.Tr x) (hyx : M.val y ≤ M.val x) :
    Calls Tryd.prog 58 #[vx, vy] w fun e w' => (∃ k, w' = w.drewN k) ∧ ∃ a b K : Nat, e = .returned (.tuple #[.int .u64 (a : Int), .int .u64 (b : Int)]) ∧ a < 18446744073709551616 ∧ b ≤ a ∧ Leh.Tops a b K (M.val x) (M.val y) := by
  have htx : 0 < x.getD (x.length - 1) 0 := by
    rcases tx with h | h <;> omega
  have htb := hx.bd.getD (x.length - 1)
  have hyt : y.getD (x.length - 1) 0 ≤ x.getD (x.length - 1) 0 := by
    apply Classical.byContradiction
    intro hn
    have h1 : M.val y = M.val (y.take x.length) := by rw [List.take_of_length_le hyl]
    have h2 := M.take_drop_val x (x.length - 1) (by omega)
    rw [M.drop_getD x (x.length - 1) (by omega), List.drop_of_length_le (by omega)] at h2
    simp only [M.val, Nat.mul_zero, Nat.add_zero] at h2
    obtain ⟨k, hk⟩ : ∃ k, x.length = k + 1 := ⟨x.length - 1, by omega⟩
    rw [hk, M.take_succ_getD] at h1
    rw [hk, Nat.add_sub_cancel] at h2 hn
    have h3 := M.val_lt (hx.bd.take k)
    rw [List.length_take, Nat.min_eq_left (by omega)] at h3
    have h4 : 4294967296 ^ k * (x.getD k 0 + 1) ≤ 4294967296 ^ k * y.getD k 0 := Nat.mul_le_mul_left _ (by omega)
    rw [Nat.mul_add] at h4
    omega
  have HX : Hid (Sl w vx x) := hx
  have HY : Hid (Sl w vy y) := hy
  obtain ⟨bdx, aox, capx, rfl, hcx⟩ := hx
  obtain ⟨_, bx, ox, rfl, _, hcx⟩ := hcx (by omega)
  have hck := hcx (x.length - 1) (by omega)
  obtain ⟨t, ht⟩ : ∃ t, t = x.getD (x.length - 1) 0 := ⟨_, rfl⟩
  rw [← ht] at hck htx htb hyt
  have HT : Hid (t = x.getD (x.length - 1) 0 ∧ y.getD (x.length - 1) 0 ≤ t) := ⟨ht, hyt⟩
  obtain ⟨n, hnn⟩ : ∃ n, n = x.length := ⟨_, rfl⟩
  rw [← hnn] at hck hn hn3 ⊢
  have HN : Hid (n = x.length ∧ y.length ≤ n) := ⟨hnn, by omega⟩
  have HYX : Hid (M.val y ≤ M.val x) := hyx
  have bdy := hy.bd
  clear hcx hy ht hyt hyl tx hyx hnn
  have hn1 : 1 ≤ n := by omega
  go_enter Tryd.func58, Tryd.ntmps58
  go_wp2_with fail
  refine (lz_any t _ htx htb).mono ?_
  rintro e w0 ⟨rfl, s, rfl, hs, hs1, hs2⟩
  have HS : Hid (t * 2 ^ s < 4294967296) := hs2
  clear hs1 hs2 hck
  go_wp2_with fail
  refine (topWord_any _ x n s _ (by have h9 := HX.out; rw [← HN.out.1] at h9; exact h9) hn hn3 (by rw [HN.out.1]; exact Nat.le_refl _) hs (by have h9 := HT.out.1; rw [← HN.out.1] at h9; rw [← h9]; exact HS.out)).mono ?_
  rintro e w1 ⟨rfl, k1, rfl⟩
  go_wp2_with fail
  refine (topWord_any vy y n s _ (HY.out.drewN k1) hn hn3 HN.out.2 hs (by have h9 := HT.out.2; rw [← HN.out.1] at h9; exact Nat.lt_of_le_of_lt (Nat.mul_le_mul_right _ h9) HS.out)).mono ?_
  rintro e w2 ⟨rfl, k2, rfl⟩
  obtain ⟨p, hp, hpx⟩ := topW_val (s := s) bdx hn3 (by rw [HN.out.1]; exact Nat.le_refl _) hs
  obtain ⟨q, hq, hqx⟩ := topW_val (s := s) bdy hn3 HN.out.2 hs
  have hA : topW x n s < 18446744073709551616 := by
    have h1 := HS.out
    have h2 := bdx.getD (n - 2)
    have h3 := bdx.getD (n - 3)
    have h4 := HT.out.1
    rw [← HN.out.1] at h4
    unfold topW
    rw [← h4]
    exact topW_lt h2 h3 hs h1
  obtain ⟨A, hAe⟩ : ∃ A, A = topW x n s := ⟨_, rfl⟩
  obtain ⟨B, hBe⟩ : ∃ B, B = topW y n s := ⟨_, rfl⟩
  rw [← hAe] at hpx hA ⊢
  rw [← hBe] at hqx ⊢
  have hBA : B ≤ A := by
    apply Classical.byContradiction
    intro hn'
    have h1 := HYX.out
    have h2 : (A + 1) * (4294967296 ^ (n - 3) * 2 ^ (32 - s)) ≤ B * (4294967296 ^ (n - 3) * 2 ^ (32 - s)) := Nat.mul_le_mul_right _ (by omega)
    rw [Nat.add_mul] at h2
    omega
  have HF : Hid (A < 18446744073709551616 ∧ B ≤ A ∧ Leh.Tops A B (4294967296 ^ (n - 3) * 2 ^ (32 - s)) (M.val x) (M.val y)) := ⟨hA, hBA, p, q, hp, hq, hpx, hqx⟩
  clear hA hBA hp hq hpx hqx hAe hBe
  go_wp2
  go_ret2
  exact ⟨⟨k1 + k2, rfl⟩, A, B, _, rfl, HF.out⟩

end Go.Proofs.YthijnnififodjaaDoor
