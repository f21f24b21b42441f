/- shuntref02.Faults: what a list of fractions is refused for. What RatOrder and RatRounds need: lists of three, Same of what differs, the sums' widths and signs. Plain mathematics of Round: a half away at most, just a half only where it is even; it never falls. The walk of RatRounds. -/
import Derived.Test.YtbingbnndmmjbaaFfault
import Derived.Test.YtbingbnndmmjbaaFawk
import Derived.Test.YtbingbnndmmjbaaGao
import Derived.Test.YtbingbnndmmjbaaGap
import Derived.Test.YtbingbnndmmjbaaGae
namespace Go.Proofs.Ytbingbnndmmjbaa
open Go.RowKit
namespace F

set_option maxHeartbeats 4000000 in
theorem Faults_any (ao : Option Addr) (b off N cap : Nat) (w : World) (m n : Nat → Bool) (aa ad : Nat → Option Addr) (ka ca kd cd : Nat → Nat) (a d : Nat → List Nat) (hao : 0 < N → ao = some ⟨b, off, none⟩) (hN : N ≤ 1000000) (H : RatAll w b off N m n aa ad ka ca kd cd a d) :
    Calls Try.prog 7 #[.slice ao N cap] w fun e w' => Kept w w' ∧ ∃ c : Int, e = .returned (.int .i64 c) ∧ ((c = 0 ∧ ∀ i, i < N → RatR (m i) (n i) (a i) (d i)) ∨ ((c = 10 ∨ c = 20) ∧ ∃ i, i < N ∧ ¬ RatR (m i) (n i) (a i) (d i))) := by
  have HH : Hid (RatAll w b off N m n aa ad ka ca kd cd a d ∧ (0 < N → ao = some ⟨b, off, none⟩)) := ⟨H, hao⟩
  clear H hao
  go_enter Try.func7, Try.ntmps7
  go_wp2_with fail
  go_loopw [3, 4] (fun ve vi wr => ∃ (k : Nat) (c : Int), k ≤ N ∧ vi = .int .i64 (k : Int) ∧ ve = .int .i64 c ∧ Hid (Kept w wr ∧ ((c = 0 ∧ ∀ i, i < k → RatR (m i) (n i) (a i) (d i)) ∨ (c = 20 ∧ ∃ i, i < k ∧ ¬ RatR (m i) (n i) (a i) (d i))))) (fun _ vi _ => N - (intOf vi).toNat)
  case atStart => exact ⟨0, 0, Nat.zero_le _, rfl, rfl, Kept.refl w, .inl ⟨rfl, fun i hi => by omega⟩⟩
  case round =>
    obtain ⟨k, c, hk, rfl, rfl, HK⟩ := hrel
    by_cases hlt : k < N
    · obtain ⟨⟨h0, h1, h2, h3⟩, h4⟩ := HH.out.1 k hlt
      obtain rfl := HH.out.2 (by omega)
      have h0 := cell_kept HK.out.1 h0
      have h1 := cell_kept HK.out.1 h1
      have h2 := cell_kept HK.out.1 h2
      have h3 := cell_kept HK.out.1 h3
      have H4 := hid' h4
      clear h4
      go_wp2_with fail
      refine (Fault_any (m k) (n k) (aa k) (ad k) (ka k) (ca k) (kd k) (cd k) (a k) (d k) _ (H4.out.1.kept HK.out.1) (H4.out.2.1.kept HK.out.1) H4.out.2.2.1 H4.out.2.2.2).mono ?_
      rintro e w1 ⟨hk1, f, rfl, hf⟩
      have HK1 : Hid (Kept w w1) := HK.out.1.trans hk1
      clear hk1 h0 h1 h2 h3
      rcases hf with ⟨rfl, hf⟩ | ⟨rfl, hf⟩ | ⟨rfl, hf⟩
      · have HF := hid' hf
        clear hf
        go_wp2
        go_ret
        exact ⟨HK1.out, 10, rfl, .inr ⟨.inl rfl, k, hlt, fun h => HF.out ⟨h.ra, h.rd⟩⟩⟩
      · have HF := hid' hf
        clear hf
        go_wp2_with fail
        go_roundw
        case rel => exact ⟨k + 1, 20, by omega, by go_num, rfl, HK1.out, .inr ⟨rfl, k, by omega, HF.out.2.2⟩⟩
        case measure => simp [intOf]; omega
      · have HF := hid' hf
        clear hf
        go_wp2_with fail
        go_roundw
        case rel => exact ⟨k + 1, c, by omega, by go_num, rfl, HK1.out, HK.out.2.imp (fun h => ⟨h.1, fun i hi => if e : i = k then by rw [e]; exact HF.out else h.2 i (by omega)⟩) (fun h => ⟨h.1, h.2.imp fun i hi => ⟨by omega, hi.2⟩⟩)⟩
        case measure => simp [intOf]; omega
    · go_wp2
      go_ret
      refine ⟨HK.out.1, c, rfl, HK.out.2.imp (fun h => ⟨h.1, fun i hi => h.2 i (by omega)⟩) (fun h => ⟨.inr h.1, h.2.imp fun i hi => ⟨by omega, hi.2⟩⟩)⟩

end F
end Go.Proofs.Ytbingbnndmmjbaa

namespace Go.Proofs.Ytbingbnndmmjbaa
open Go.RowKit
namespace F

def three {α : Type} (x y z : α) (i : Nat) : α := if i = 0 then x else if i = 1 then y else z

theorem RatAll.three {w : World} {b : Nat} {m n p q r s : Bool} {a1 a2 b1 b2 d1 d2 : Option Addr} {k1 c1 k2 c2 k3 c3 k4 c4 k5 c5 k6 c6 : Nat} {an ad bn bd cn cd : List Nat}
    (h : ∀ o v, (#[Value.bool m, .slice a1 k1 c1, .bool n, .slice a2 k2 c2, .bool p, .slice b1 k3 c3, .bool q, .slice b2 k4 c4, .bool r, .slice d1 k5 c5, .bool s, .slice d2 k6 c6])[o]? = some v → w.cell? ⟨b, o, none⟩ = some v)
    (s1 : Sl w (.slice a1 k1 c1) an) (s2 : Sl w (.slice a2 k2 c2) ad) (s3 : Sl w (.slice b1 k3 c3) bn) (s4 : Sl w (.slice b2 k4 c4) bd) (s5 : Sl w (.slice d1 k5 c5) cn) (s6 : Sl w (.slice d2 k6 c6) cd)
    (l1 : an.length ≤ 9223372036854775807) (l2 : ad.length ≤ 9223372036854775807) (l3 : bn.length ≤ 9223372036854775807) (l4 : bd.length ≤ 9223372036854775807) (l5 : cn.length ≤ 9223372036854775807) (l6 : cd.length ≤ 9223372036854775807) :
    RatAll w b 0 3 (F.three m p r) (F.three n q s) (F.three a1 b1 d1) (F.three a2 b2 d2) (F.three k1 k3 k5) (F.three c1 c3 c5) (F.three k2 k4 k6) (F.three c2 c4 c6) (F.three an bn cn) (F.three ad bd cd) := by
  intro i hi
  match i, hi with
  | 0, _ => exact ⟨⟨h 0 _ rfl, h 1 _ rfl, h 2 _ rfl, h 3 _ rfl⟩, s1, s2, l1, l2⟩
  | 1, _ => exact ⟨⟨h 4 _ rfl, h 5 _ rfl, h 6 _ rfl, h 7 _ rfl⟩, s3, s4, l3, l4⟩
  | 2, _ => exact ⟨⟨h 8 _ rfl, h 9 _ rfl, h 10 _ rfl, h 11 _ rfl⟩, s5, s6, l5, l6⟩

set_option maxHeartbeats 2000000 in
theorem same_f (m n p q : Bool) (va vb vc vd : Value) (a b c d : List Nat) (w : World) (ha : Sl w va a) (hb : Sl w vb b) (hc : Sl w vc c) (hd : Sl w vd d) (hla : a.length ≤ 1000) (hlb : b.length ≤ 1000) (hlc : c.length ≤ 1000) (hld : d.length ≤ 1000) (hn : ¬ ((m = p ∧ a = c) ∧ (n = q ∧ b = d))) :
    Calls Try.prog 39 #[.agg #[.bool m, va, .bool n, vb], .agg #[.bool p, vc, .bool q, vd]] w fun e w' => e = .returned (.bool false) ∧ Kept w w' := by
  have HA : Hid (Sl w va a ∧ Sl w vb b ∧ Sl w vc c ∧ Sl w vd d ∧ a.length ≤ 1000 ∧ b.length ≤ 1000 ∧ c.length ≤ 1000 ∧ d.length ≤ 1000) := ⟨ha, hb, hc, hd, hla, hlb, hlc, hld⟩
  clear ha hb hc hd hla hlb hlc hld
  have K2 : ∀ x y, Kept w ((w.alloc x).alloc y) := fun x y => ((Kept.refl w).alloc x).alloc y
  by_cases h1 : m = p ∧ a = c
  · have H2 : Hid (¬ (n = q ∧ b = d)) := fun h => hn ⟨h1, h⟩
    have H1 := hid' h1
    clear hn h1
    go_enter Try.func39, Try.ntmps39
    go_wp2_with fail
    refine (same_yes m p va vc a c _ (HA.out.1.kept (K2 _ _)) (HA.out.2.2.1.kept (K2 _ _)) (by have := HA.out.2.2.2.2.1; omega) H1.out.1 H1.out.2).mono ?_
    rintro e w1 ⟨rfl, hk⟩
    have HK : Hid (Kept w w1) := (K2 _ _).trans hk
    have c2 : w1.cell? ⟨w.heap.size, 2, none⟩ = some (.bool n) := by rw [hk.cells _ _ (by simp; omega)]; simp
    have c3 : w1.cell? ⟨w.heap.size, 3, none⟩ = some vb := by rw [hk.cells _ _ (by simp; omega)]; simp
    have d2 : w1.cell? ⟨w.heap.size + 1, 2, none⟩ = some (.bool q) := by rw [hk.cells _ _ (by simp)]; simp
    have d3 : w1.cell? ⟨w.heap.size + 1, 3, none⟩ = some vd := by rw [hk.cells _ _ (by simp)]; simp
    clear hk K2
    go_wp2_with fail
    refine (same_no n q vb vd b d _ (HA.out.2.1.kept HK.out) (HA.out.2.2.2.1.kept HK.out) (by have := HA.out.2.2.2.2.2.1; omega) (by have := HA.out.2.2.2.2.2.2.2; omega) H2.out).mono ?_
    rintro e w2 ⟨rfl, hk2⟩
    have HK2 : Hid (Kept w w2) := HK.out.trans hk2
    clear hk2
    go_wp2
    go_ret
    exact ⟨rfl, HK2.out⟩
  · have H1 := hid' h1
    clear hn h1
    go_enter Try.func39, Try.ntmps39
    go_wp2_with fail
    refine (same_no m p va vc a c _ (HA.out.1.kept (K2 _ _)) (HA.out.2.2.1.kept (K2 _ _)) (by have := HA.out.2.2.2.2.1; omega) (by have := HA.out.2.2.2.2.2.2.1; omega) H1.out).mono ?_
    rintro e w1 ⟨rfl, hk⟩
    have HK : Hid (Kept w w1) := (K2 _ _).trans hk
    clear hk K2
    go_wp2
    go_ret
    exact ⟨rfl, HK.out⟩

set_option maxHeartbeats 1000000 in
theorem lsame_f (m n p q : Bool) (va vb vc vd : Value) (a b c d : List Nat) (w : World) (ha : Sl w va a) (hb : Sl w vb b) (hc : Sl w vc c) (hd : Sl w vd d) (hla : a.length ≤ 1000) (hlb : b.length ≤ 1000) (hlc : c.length ≤ 1000) (hld : d.length ≤ 1000) (hn : ¬ ((m = p ∧ a = c) ∧ (n = q ∧ b = d))) :
    Calls Try.prog 16 #[.agg #[.bool m, va, .bool n, vb], .agg #[.bool p, vc, .bool q, vd]] w fun e w' => e = .returned (.bool false) ∧ Kept w w' := by
  have HA : Hid (Sl w va a ∧ Sl w vb b ∧ Sl w vc c ∧ Sl w vd d ∧ a.length ≤ 1000 ∧ b.length ≤ 1000 ∧ c.length ≤ 1000 ∧ d.length ≤ 1000 ∧ ¬ ((m = p ∧ a = c) ∧ (n = q ∧ b = d))) := ⟨ha, hb, hc, hd, hla, hlb, hlc, hld, hn⟩
  clear ha hb hc hd hla hlb hlc hld hn
  have K2 : ∀ x y, Kept w ((w.alloc x).alloc y) := fun x y => ((Kept.refl w).alloc x).alloc y
  go_enter Try.func16, Try.ntmps16
  go_wp2_with fail
  obtain ⟨g1, g2, g3, g4, g5, g6, g7, g8, g9⟩ := HA.out
  refine (same_f m n p q va vb vc vd a b c d _ (g1.kept (K2 _ _)) (g2.kept (K2 _ _)) (g3.kept (K2 _ _)) (g4.kept (K2 _ _)) g5 g6 g7 g8 g9).mono ?_
  rintro e w1 ⟨rfl, hk⟩
  have HK : Hid (Kept w w1) := (K2 _ _).trans hk
  clear hk K2 g1 g2 g3 g4 g5 g6 g7 g8 g9
  go_wp2
  go_ret
  exact ⟨rfl, HK.out⟩

/-- The sum's denominator divides the product, its numerator the sum across. -/
theorem IsSum.le {x x' N : Int} {y y' D : Nat} (h : IsSum x y x' y' N D) (hy : 0 < y) (hy' : 0 < y') : D ≤ y * y' ∧ N.natAbs ≤ (x * y' + x' * y).natAbs := by
  have e := congrArg Int.natAbs h.eq
  rw [Int.natAbs_mul, Int.natAbs_mul, Int.natAbs_mul, Int.natAbs_natCast, Int.natAbs_natCast, Int.natAbs_natCast] at e
  have p := Nat.mul_pos hy hy'
  constructor
  · exact Nat.le_of_dvd p (h.low.symm.dvd_of_dvd_mul_left (by rw [e]; exact Nat.dvd_mul_left _ _))
  · have hd : N.natAbs ∣ (x * y' + x' * y).natAbs := h.low.dvd_of_dvd_mul_right (by rw [← e]; exact Nat.dvd_mul_right _ _)
    rcases Nat.eq_zero_or_pos (x * y' + x' * y).natAbs with h0 | h0
    · rw [h0, Nat.zero_mul] at e
      rcases Nat.mul_eq_zero.1 e with h1 | h1
      · omega
      · omega
    · exact Nat.le_of_dvd h0 hd

theorem IsSum.sign {x x' N : Int} {y y' D : Nat} (h : IsSum x y x' y' N D) (hy : 0 < y) (hy' : 0 < y') : (N < 0 ↔ x * y' + x' * y < 0) ∧ (N = 0 ↔ x * y' + x' * y = 0) := by
  have e := h.eq
  have p : (0 : Int) < (y : Int) * y' := Int.mul_pos (by omega) (by omega)
  have q : (0 : Int) < (D : Int) := by have := h.pos; omega
  generalize x * (y' : Int) + x' * y = S at *
  generalize (y : Int) * y' = P at *
  generalize (D : Int) = Q at *
  have a1 : N < 0 → N * P < 0 := fun h => Int.mul_neg_of_neg_of_pos h p
  have a2 : 0 < N → 0 < N * P := fun h => Int.mul_pos h p
  have b1 : S < 0 → S * Q < 0 := fun h => Int.mul_neg_of_neg_of_pos h q
  have b2 : 0 < S → 0 < S * Q := fun h => Int.mul_pos h q
  have a3 : N = 0 → N * P = 0 := fun h => by rw [h]; simp
  have b3 : S = 0 → S * Q = 0 := fun h => by rw [h]; simp
  rw [e] at a1 a2 a3
  constructor <;> constructor <;> intro hh
  · rcases Int.lt_trichotomy S 0 with k | k | k
    · exact k
    · have := a1 hh; have := b3 k; omega
    · have := a1 hh; have := b2 k; omega
  · rcases Int.lt_trichotomy N 0 with k | k | k
    · exact k
    · have := a3 k; have := b1 hh; omega
    · have := a2 k; have := b1 hh; omega
  · rcases Int.lt_trichotomy S 0 with k | k | k
    · have := a3 hh; have := b1 k; omega
    · exact k
    · have := a3 hh; have := b2 k; omega
  · rcases Int.lt_trichotomy N 0 with k | k | k
    · have := a1 k; have := b3 hh; omega
    · exact k
    · have := a2 k; have := b3 hh; omega

theorem isgn_scale {P Q A B K L : Int} (hK : 0 < K) (hL : 0 < L) (h : (P - Q) * K = (A - B) * L) : isgn P Q = isgn A B := by
  have a1 : P - Q < 0 → (P - Q) * K < 0 := fun h => Int.mul_neg_of_neg_of_pos h hK
  have a2 : 0 < P - Q → 0 < (P - Q) * K := fun h => Int.mul_pos h hK
  have b1 : A - B < 0 → (A - B) * L < 0 := fun h => Int.mul_neg_of_neg_of_pos h hL
  have b2 : 0 < A - B → 0 < (A - B) * L := fun h => Int.mul_pos h hL
  have a3 : P - Q = 0 → (P - Q) * K = 0 := fun h => by rw [h]; simp
  have b3 : A - B = 0 → (A - B) * L = 0 := fun h => by rw [h]; simp
  rw [h] at a1 a2 a3
  generalize (A - B) * L = Z at *
  unfold isgn
  rcases Int.lt_trichotomy (P - Q) 0 with k | k | k <;> rcases Int.lt_trichotomy (A - B) 0 with k' | k' | k'
  all_goals first
    | (exfalso; have := a1; have := a2; have := a3; have := b1; have := b2; have := b3; omega)
    | (split <;> (try split) <;> (try split) <;> (try split) <;> omega)

/-- Both with the same added. -/
theorem order_kept {x x' x'' N N' : Int} {y y' y'' D D' : Nat} (h : IsSum x y x'' y'' N D) (h' : IsSum x' y' x'' y'' N' D') (hy : 0 < y) (hy' : 0 < y') (hy'' : 0 < y'') : isgn (N * D') (N' * D) = isgn (x * y') (x' * y) := by
  have e := h.eq
  have e' := h'.eq
  have q1 : (0 : Int) < D := by have := h.pos; omega
  have q2 : (0 : Int) < D' := by have := h'.pos; omega
  have p1 : (0 : Int) < y := by omega
  have p2 : (0 : Int) < y' := by omega
  have p3 : (0 : Int) < y'' := by omega
  refine isgn_scale (K := (y : Int) * y'' * (y' * y'')) (L := (D : Int) * D' * (y'' * y'')) (Int.mul_pos (Int.mul_pos p1 p3) (Int.mul_pos p2 p3)) (Int.mul_pos (Int.mul_pos q1 q2) (Int.mul_pos p3 p3)) ?_
  have f1 : N * D' * (y * y'' * (y' * y'')) = (x * y'' + x'' * y) * D * D' * (y' * y'') := by
    calc N * D' * (y * y'' * (y' * y'')) = (N * (y * y'')) * D' * (y' * y'') := by simp only [Int.mul_assoc, Int.mul_comm, Int.mul_left_comm]
      _ = _ := by rw [e]
  have f2 : N' * D * (y * y'' * (y' * y'')) = (x' * y'' + x'' * y') * D' * D * (y * y'') := by
    calc N' * D * (y * y'' * (y' * y'')) = (N' * (y' * y'')) * D * (y * y'') := by simp only [Int.mul_assoc, Int.mul_comm, Int.mul_left_comm]
      _ = _ := by rw [e']
  rw [Int.sub_mul, f1, f2]
  clear f1 f2 e e' q1 q2 p1 p2 p3 h h' hy hy' hy''
  grind

theorem val_len_lt {l : List Nat} (hb : M.Bd l) {n : Nat} (h : l.length ≤ n) : M.val l < 4294967296 ^ n := Nat.lt_of_lt_of_le (M.val_lt hb) (Nat.pow_le_pow_right (by decide) h)

/-- Two fractions of few limbs: their sum isn't too wide. -/
theorem sum_fits {m n : Bool} {an ad bn bd : List Nat} {N : Int} {D : Nat} (h : IsSum (M.int m an) (M.val ad) (M.int n bn) (M.val bd) N D) (ba : M.Bd an) (bad : M.Bd ad) (bb : M.Bd bn) (bbd : M.Bd bd) (hA : 0 < M.val ad) (hB : 0 < M.val bd) (hl : an.length + ad.length + bn.length + bd.length ≤ 60) : N.natAbs < M.W72 ∧ D < M.W72 := by
  obtain ⟨h1, h2⟩ := h.le hA hB
  have p : ∀ {x y : List Nat}, M.Bd x → M.Bd y → x.length + y.length ≤ 60 → M.val x * M.val y ≤ 4294967296 ^ 60 := by
    intro x y hx hy hh
    have h1 := Nat.mul_le_mul (Nat.le_of_lt (M.val_lt hx)) (Nat.le_of_lt (M.val_lt hy))
    rw [← Nat.pow_add] at h1
    exact Nat.le_trans h1 (Nat.pow_le_pow_right (by decide) hh)
  have q1 := p bad bbd (by omega)
  have q2 := p ba bbd (by omega)
  have q3 := p bb bad (by omega)
  have h3 : 2 * 4294967296 ^ 60 < M.W72 := by unfold M.W72; decide
  have e1 : (M.int m an * (M.val bd : Int)).natAbs = M.val an * M.val bd := by rw [Int.natAbs_mul, M.natAbs_int, Int.natAbs_natCast]
  have e2 : (M.int n bn * (M.val ad : Int)).natAbs = M.val bn * M.val ad := by rw [Int.natAbs_mul, M.natAbs_int, Int.natAbs_natCast]
  have h4 := Int.natAbs_add_le (M.int m an * (M.val bd : Int)) (M.int n bn * (M.val ad : Int))
  generalize 4294967296 ^ 60 = B at *
  omega

/-- One value, one fraction. -/
theorem lowest_one {m n p q : Bool} {an ad bn bd : List Nat} (hA : RatR m n an ad) (hB : RatR p q bn bd) (ba : M.Bd an) (bad : M.Bd ad) (bb : M.Bd bn) (bbd : M.Bd bd) : M.int m an * M.val bd = M.int p bn * M.val ad ↔ ((m = p ∧ an = bn) ∧ (n = q ∧ ad = bd)) := by
  constructor
  · intro e
    have e1 := congrArg Int.natAbs e
    rw [Int.natAbs_mul, Int.natAbs_mul, M.natAbs_int, M.natAbs_int, Int.natAbs_natCast, Int.natAbs_natCast] at e1
    have c1 : Nat.Coprime (M.val an) (M.val ad) := hA.low
    have c2 : Nat.Coprime (M.val bn) (M.val bd) := hB.low
    have d1 : M.val ad ∣ M.val bd := c1.symm.dvd_of_dvd_mul_left (by rw [e1]; exact Nat.dvd_mul_left _ _)
    have d2 : M.val bd ∣ M.val ad := c2.symm.dvd_of_dvd_mul_left (by rw [← e1]; exact Nat.dvd_mul_left _ _)
    have hv : M.val ad = M.val bd := Nat.dvd_antisymm d1 d2
    have hp := hA.vpos
    rw [hv] at e
    have hx : M.int m an = M.int p bn := Int.eq_of_mul_eq_mul_right (by have := hB.vpos; omega) e
    exact ⟨M.int_inj (hA.ra.right ba) (hB.ra.right bb) hx, M.int_inj (hA.rd.right bad) (hB.rd.right bbd) (by rw [hA.val, hB.val, hv])⟩
  · rintro ⟨⟨rfl, rfl⟩, _, rfl⟩
    rfl

end F
end Go.Proofs.Ytbingbnndmmjbaa

namespace Go.Proofs.Ytbingbnndmmjbaa
open Go.RowKit
namespace F

theorem near_cut (n : Int) {d : Nat} (hd : 0 < d) : -(d : Int) ≤ 2 * (n - near n d * d) ∧ 2 * (n - near n d * d) ≤ d ∧ (2 * (n - near n d * d) = d ∨ 2 * (n - near n d * d) = -(d : Int) → near n d % 2 = 0) := by
  have c := FM.cut_of n hd
  obtain ⟨e, hl, hp, hn⟩ := c
  unfold near
  generalize Int.tdiv n d = q at *
  generalize Int.tmod n d = r at *
  have h1 : isgn ((r.natAbs : Nat) : Int) ((d : Int) - r.natAbs) = 1 ↔ (d : Int) < 2 * r.natAbs := by unfold isgn; split <;> (try split) <;> omega
  have h0 : isgn ((r.natAbs : Nat) : Int) ((d : Int) - r.natAbs) = 0 ↔ (d : Int) = 2 * r.natAbs := by unfold isgn; split <;> (try split) <;> omega
  have hs : isgn r 0 = if r < 0 then -1 else if r = 0 then 0 else 1 := rfl
  split
  · rename_i hc
    rw [h1, h0] at hc
    clear h1 h0
    rcases Int.lt_trichotomy r 0 with k | k | k
    · rw [hs, if_pos k, Int.add_mul]
      generalize q * (d : Int) = Q at *
      refine ⟨by omega, by omega, fun h => by omega⟩
    · exfalso; subst k; simp at hc; omega
    · rw [hs, if_neg (by omega), if_neg (by omega), Int.add_mul]
      generalize q * (d : Int) = Q at *
      refine ⟨by omega, by omega, fun h => by omega⟩
  · rename_i hc
    rw [h1, h0] at hc
    clear h1 h0 hs
    generalize q * (d : Int) = Q at *
    refine ⟨by omega, by omega, fun h => ?_⟩
    by_cases hq : q % 2 = 0
    · exact hq
    · exfalso; apply hc; right; constructor <;> omega

theorem near_mono {x x' : Int} {y y' : Nat} (hy : 0 < y) (hy' : 0 < y') (h : x * y' < x' * y) : near x y ≤ near x' y' := by
  obtain ⟨a1, a2, _⟩ := near_cut x hy
  obtain ⟨b1, b2, _⟩ := near_cut x' hy'
  generalize near x y = z at *
  generalize near x' y' = z' at *
  apply Classical.byContradiction
  intro hn
  have hz : z' + 1 ≤ z := by omega
  have p1 : (0 : Int) < y := by omega
  have p2 : (0 : Int) < y' := by omega
  have c1 : (2 * z - 1) * y ≤ 2 * x := by rw [Int.sub_mul, Int.mul_assoc]; omega
  have c2 : 2 * x' ≤ (2 * z' + 1) * y' := by rw [Int.add_mul, Int.mul_assoc]; omega
  have c3 := Int.mul_le_mul_of_nonneg_right c1 (Int.le_of_lt p2)
  have c4 := Int.mul_le_mul_of_nonneg_right c2 (Int.le_of_lt p1)
  have c5 : (2 * z' + 1) * y' * y ≤ (2 * z - 1) * y * y' := by
    have e1 : (2 * z' + 1) * y' * y = (2 * z' + 1) * (y * y') := by simp only [Int.mul_assoc, Int.mul_comm]
    have e2 : (2 * z - 1) * y * y' = (2 * z - 1) * (y * y') := by simp only [Int.mul_assoc]
    rw [e1, e2]
    exact Int.mul_le_mul_of_nonneg_right (by omega) (Int.le_of_lt (Int.mul_pos p1 p2))
  have e3 : 2 * x * y' = 2 * (x * y') := Int.mul_assoc _ _ _
  have e4 : 2 * x' * y = 2 * (x' * y) := Int.mul_assoc _ _ _
  omega

/-- What is off the grid lies beyond it. -/
theorem off_up {x : Int} {y : Nat} (hy : 0 < y) (h : 1000000000000000000 < near x y) : isgn (x * 1) (1000000000000000000 * y) = 1 := by
  obtain ⟨a1, _, _⟩ := near_cut x hy
  generalize near x y = z at *
  have p1 : (0 : Int) < y := by omega
  have c1 := Int.mul_le_mul_of_nonneg_right (show (1000000000000000001 : Int) ≤ z by omega) (Int.le_of_lt p1)
  unfold isgn
  generalize z * (y : Int) = Z at *
  rw [if_neg (by omega), if_neg (by omega)]

theorem off_down {x : Int} {y : Nat} (hy : 0 < y) (h : near x y < -1000000000000000000) : isgn (x * 1) (1000000000000000000 * y) = -1 ∧ isgn (x * 1) (-1000000000000000000 * y) = -1 := by
  obtain ⟨_, a2, _⟩ := near_cut x hy
  generalize near x y = z at *
  have p1 : (0 : Int) < y := by omega
  have c1 := Int.mul_le_mul_of_nonneg_right (show z ≤ (-1000000000000000001 : Int) by omega) (Int.le_of_lt p1)
  unfold isgn
  generalize z * (y : Int) = Z at *
  rw [if_pos (by omega), if_pos (by omega)]
  exact ⟨rfl, rfl⟩

/-- The rest held against a half and against minus a half. -/
theorem rest_half {x N : Int} {y D : Nat} (hy : 0 < y) (h : IsSum x y (-near x y) 1 N D) :
    (isgn (N * 2) (1 * D) = -1 ∧ isgn (N * 2) (-1 * D) = 1) ∨ (isgn (N * 2) (1 * D) = 0 ∧ isgn (N * 2) (-1 * D) = 1 ∧ near x y % 2 = 0) ∨ (isgn (N * 2) (1 * D) = -1 ∧ isgn (N * 2) (-1 * D) = 0 ∧ near x y % 2 = 0) := by
  obtain ⟨a1, a2, a3⟩ := near_cut x hy
  have e := h.eq
  have hD := h.pos
  have e1 : isgn (N * 2) (1 * D) = isgn (2 * (x - near x y * y)) y := by
    refine isgn_scale (K := y) (L := D) (by omega) (by omega) ?_
    have e' : N * y = (x - near x y * y) * D := by
      have : ((1 : Nat) : Int) = 1 := rfl
      rw [this, Int.mul_one, Int.mul_one, Int.neg_mul] at e
      exact e
    rw [Int.sub_mul, Int.sub_mul, Int.mul_comm N 2, Int.mul_assoc, e', Int.one_mul, Int.mul_assoc, Int.mul_comm (D : Int) y]
  have e2 : isgn (N * 2) (-1 * D) = isgn (2 * (x - near x y * y)) (-(y : Int)) := by
    refine isgn_scale (K := y) (L := D) (by omega) (by omega) ?_
    have e' : N * y = (x - near x y * y) * D := by
      have : ((1 : Nat) : Int) = 1 := rfl
      rw [this, Int.mul_one, Int.mul_one, Int.neg_mul] at e
      exact e
    rw [Int.sub_mul, Int.sub_mul, Int.mul_comm N 2, Int.mul_assoc, e', Int.neg_mul, Int.one_mul, Int.neg_mul, Int.neg_mul, Int.mul_comm (D : Int) y, Int.mul_assoc]
  rw [e1, e2]
  generalize 2 * (x - near x y * y) = Z at *
  generalize near x y % 2 = P at *
  have p1 : (0 : Int) < y := by omega
  generalize (y : Int) = Y at *
  unfold isgn
  rcases Int.lt_trichotomy Z Y with k | k | k
  · rcases Int.lt_trichotomy Z (-Y) with k' | k' | k'
    · omega
    · exact .inr (.inr ⟨by rw [if_pos k], by rw [if_neg (by omega), if_pos k'], a3 (.inr k')⟩)
    · exact .inl ⟨by rw [if_pos k], by rw [if_neg (by omega), if_neg (by omega)]⟩
  · exact .inr (.inl ⟨by rw [if_neg (by omega), if_pos k], by rw [if_neg (by omega), if_neg (by omega)], a3 (.inl k)⟩)
  · omega

theorem rest_fits {m : Bool} {an ad : List Nat} {z N : Int} {D : Nat} (h : IsSum (M.int m an) (M.val ad) (-z) 1 N D) (ba : M.Bd an) (bad : M.Bd ad) (hA : 0 < M.val ad) (hz : -1000000000000000000 ≤ z ∧ z ≤ 1000000000000000000) (hl : an.length + ad.length ≤ 60) : N.natAbs < M.W72 ∧ D < M.W72 := by
  obtain ⟨h1, h2⟩ := h.le hA (by decide)
  have q1 := val_len_lt ba (show an.length ≤ 60 by omega)
  have q2 := val_len_lt bad (show ad.length ≤ 60 by omega)
  have h3 : 2000000000000000000 * 4294967296 ^ 60 < M.W72 := by unfold M.W72; decide
  have e1 : (M.int m an * ((1 : Nat) : Int)).natAbs = M.val an := by rw [Int.natAbs_mul, M.natAbs_int]; simp
  have e2 : (-z * (M.val ad : Int)).natAbs = z.natAbs * M.val ad := by rw [Int.natAbs_mul, Int.natAbs_neg, Int.natAbs_natCast]
  have h4 := Int.natAbs_add_le (M.int m an * ((1 : Nat) : Int)) (-z * (M.val ad : Int))
  have h5 : z.natAbs * M.val ad ≤ 1000000000000000000 * M.val ad := Nat.mul_le_mul_right _ (by omega)
  have h6 := Nat.mul_le_mul_left 1000000000000000000 (Nat.le_of_lt q2)
  generalize 4294967296 ^ 60 = B at *
  omega

theorem grid_zero {z : Int} (h : gridE z = 0) : (-1000000000000000000 ≤ z ∧ z ≤ 1000000000000000000) ∧ gridV z = z := by
  unfold gridE at h
  unfold gridV
  split at h
  · rename_i hc; exact ⟨hc, by rw [if_pos hc]⟩
  · simp at h

theorem grid_off {z : Int} (h : ¬ (-1000000000000000000 ≤ z ∧ z ≤ 1000000000000000000)) : gridE z = 4 ∧ gridV z = 0 := by
  unfold gridE gridV; rw [if_neg h, if_neg h]; exact ⟨rfl, rfl⟩

theorem grid_on {z : Int} (h : -1000000000000000000 ≤ z ∧ z ≤ 1000000000000000000) : gridE z = 0 ∧ gridV z = z := by
  unfold gridE gridV; rw [if_pos h, if_pos h]; exact ⟨rfl, rfl⟩

/-- of x over a small power of two. -/
theorem of_int (x : Int) (w : World) (x1 : -9223372036854775808 ≤ x) (x2 : x ≤ 9223372036854775807) :
    Calls Try.prog 10 #[.int .i64 x, .int .i64 1] w fun e w' => Kept w w' ∧ ∃ s ao k c l t ap k' c' l', e = .returned (.agg #[.bool s, .slice ao k c, .bool t, .slice ap k' c']) ∧ Sl w' (.slice ao k c) l ∧ Sl w' (.slice ap k' c') l' ∧ RatR s t l l' ∧ M.int s l = x ∧ M.val l' = 1 := by
  refine (of_ok x 1 w x1 x2 (by omega) (by omega) (by omega)).mono ?_
  rintro e w' ⟨hk, v, X, Y, rfl, ⟨s, ao, k, c, l, t, ap, k', c', l', rfl, n1, r1, i1, n2, r2, i2, R1⟩, g, hg, hx, hy, hs⟩
  have eg : g = 1 := by rw [show (1 : Int).natAbs = 1 from rfl, Nat.gcd_one_right] at hg; omega
  subst eg
  exact ⟨hk, s, ao, k, c, l, t, ap, k', c', l', rfl, n1.sl, n2.sl, R1, by omega, by have := R1.val; omega⟩

theorem of_half (x : Int) (w : World) (hx : x = 1 ∨ x = -1) :
    Calls Try.prog 10 #[.int .i64 x, .int .i64 2] w fun e w' => Kept w w' ∧ ∃ s ao k c l t ap k' c' l', e = .returned (.agg #[.bool s, .slice ao k c, .bool t, .slice ap k' c']) ∧ Sl w' (.slice ao k c) l ∧ Sl w' (.slice ap k' c') l' ∧ RatR s t l l' ∧ M.int s l = x ∧ M.val l' = 2 := by
  refine (of_ok x 2 w (by omega) (by omega) (by omega) (by omega) (by omega)).mono ?_
  rintro e w' ⟨hk, v, X, Y, rfl, ⟨s, ao, k, c, l, t, ap, k', c', l', rfl, n1, r1, i1, n2, r2, i2, R1⟩, g, hg, hx', hy, hs⟩
  have eg : g = 1 := by
    have h1 : x.natAbs = 1 := by omega
    rw [h1, Nat.gcd_one_left] at hg; omega
  subst eg
  exact ⟨hk, s, ao, k, c, l, t, ap, k', c', l', rfl, n1.sl, n2.sl, R1, by omega, by have := R1.val; omega⟩

end F
end Go.Proofs.Ytbingbnndmmjbaa

namespace Go.Proofs.Ytbingbnndmmjbaa
open Go.RowKit
namespace F

theorem lt_cross {A B : Int} (h : isgn A B = -1) : A < B := by
  unfold isgn at h
  split at h
  · assumption
  · split at h <;> omega
theorem gt_cross {A B : Int} (h : isgn A B = 1) : B < A := by
  unfold isgn at h
  split at h
  · omega
  · split at h <;> omega
theorem eq_cross' {A B : Int} (h : isgn A B = 0) : A = B := by
  unfold isgn at h
  split at h
  · omega
  · split at h <;> omega
theorem hx3 (A B : Int) : isgn A B = -1 ∨ isgn A B = 0 ∨ isgn A B = 1 := by unfold isgn; split <;> (try split) <;> simp
theorem near_one {m n p q : Bool} {an ad bn bd : List Nat} (hA : RatR m n an ad) (hB : RatR p q bn bd) (ba : M.Bd an) (bad : M.Bd ad) (bb : M.Bd bn) (bbd : M.Bd bd) (h : M.int m an * M.val bd = M.int p bn * M.val ad) : near (M.int m an) (M.val ad) = near (M.int p bn) (M.val bd) := by
  obtain ⟨⟨rfl, rfl⟩, rfl, rfl⟩ := (lowest_one hA hB ba bad bb bbd).1 h
  rfl

set_option maxRecDepth 100000 in
set_option maxHeartbeats 16000000 in
theorem rrnd_any (m n p q : Bool) (a1 a2 b1 b2 : Option Addr) (k1 c1 k2 c2 k3 c3 k4 c4 : Nat) (an ad bn bd : List Nat) (w : World) (s1 : Sl w (.slice a1 k1 c1) an) (s2 : Sl w (.slice a2 k2 c2) ad) (s3 : Sl w (.slice b1 k3 c3) bn) (s4 : Sl w (.slice b2 k4 c4) bd) (l1 : an.length ≤ 9223372036854775807) (l2 : ad.length ≤ 9223372036854775807) (l3 : bn.length ≤ 9223372036854775807) (l4 : bd.length ≤ 9223372036854775807) :
    Calls Try.prog 3 #[.agg #[.bool m, .slice a1 k1 c1, .bool n, .slice a2 k2 c2], .agg #[.bool p, .slice b1 k3 c3, .bool q, .slice b2 k4 c4]] w fun e w' => e = .returned (.bool true) ∧ Kept w w' := by
  have HA : Hid ((Sl w (.slice a1 k1 c1) an ∧ Sl w (.slice a2 k2 c2) ad) ∧ (Sl w (.slice b1 k3 c3) bn ∧ Sl w (.slice b2 k4 c4) bd)) := ⟨⟨s1, s2⟩, s3, s4⟩
  have HL : Hid ((an.length ≤ 9223372036854775807 ∧ ad.length ≤ 9223372036854775807) ∧ (bn.length ≤ 9223372036854775807 ∧ bd.length ≤ 9223372036854775807)) := ⟨⟨l1, l2⟩, l3, l4⟩
  have HE : Hid (k1 = an.length ∧ k2 = ad.length ∧ k3 = bn.length ∧ k4 = bd.length) := ⟨s1.len, s2.len, s3.len, s4.len⟩
  clear s1 s2 s3 s4 l1 l2 l3 l4
  go_enter Try.func3, Try.ntmps3
  go_wp2_with fail
  refine (awake_yes _).mono ?_
  rintro e w1 ⟨rfl, hk⟩
  have Ha := hid' ((RRow.alloc w (.bool m) (.slice a1 k1 c1) (.bool n) (.slice a2 k2 c2)).kept (((Kept.refl _).alloc _).trans hk))
  have Hb0 := (RRow.alloc (w.alloc (.cells #[.bool m, .slice a1 k1 c1, .bool n, .slice a2 k2 c2] 26)) (.bool p) (.slice b1 k3 c3) (.bool q) (.slice b2 k4 c4)).kept hk
  simp only [World.size_alloc] at Hb0
  have Hb := hid' Hb0
  have HK := hid' ((((Kept.refl w).alloc _).alloc _).trans hk)
  clear hk Hb0
  have f0 := Ha.out.c0
  have f1 := Ha.out.c1
  have f2 := Ha.out.c2
  have f3 := Ha.out.c3
  have f4 := Hb.out.c0
  have f5 := Hb.out.c1
  have f6 := Hb.out.c2
  have f7 := Hb.out.c3
  go_wp2_with fail
  refine (Faults_any _ w1.heap.size 0 2 2 _ _ _ _ _ _ _ _ _ _ _ (fun _ => rfl) (by omega) (RatAll.two (m := m) (n := n) (p := p) (q := q) (a1 := a1) (a2 := a2) (b1 := b1) (b2 := b2) (k1 := k1) (c1 := c1) (k2 := k2) (c2 := c2) (k3 := k3) (c3 := c3) (k4 := k4) (c4 := c4) (by rw [World.cell?_alloc_at _ _ _ _ rfl]; rfl) (by rw [World.cell?_alloc_at _ _ _ _ rfl]; rfl) (by rw [World.cell?_alloc_at _ _ _ _ rfl]; rfl) (by rw [World.cell?_alloc_at _ _ _ _ rfl]; rfl) (by rw [World.cell?_alloc_at _ _ _ _ rfl]; rfl) (by rw [World.cell?_alloc_at _ _ _ _ rfl]; rfl) (by rw [World.cell?_alloc_at _ _ _ _ rfl]; rfl) (by rw [World.cell?_alloc_at _ _ _ _ rfl]; rfl) (HA.out.1.1.kept (HK.out.alloc _)) (HA.out.1.2.kept (HK.out.alloc _)) (HA.out.2.1.kept (HK.out.alloc _)) (HA.out.2.2.kept (HK.out.alloc _)) HL.out.1.1 HL.out.1.2 HL.out.2.1 HL.out.2.2)).mono ?_
  rintro e w2 ⟨hk, c, rfl, hc⟩
  clear f0 f1 f2 f3 f4 f5 f6 f7
  have Ha := hid' (Ha.out.kept (((Kept.refl w1).alloc _).trans hk))
  have Hb := hid' (Hb.out.kept (((Kept.refl w1).alloc _).trans hk))
  have HK := hid' (HK.out.trans (((Kept.refl w1).alloc _).trans hk))
  clear hk
  rcases hc with ⟨rfl, hc⟩ | ⟨hc, hn⟩
  · have HR : Hid (RatR m n an ad ∧ RatR p q bn bd) := ⟨hc 0 (by omega), hc 1 (by omega)⟩
    clear hc
    have b1' : k1 ≤ 72 := by rw [HE.out.1]; exact HR.out.1.ra.1
    have b2' : k2 ≤ 72 := by rw [HE.out.2.1]; exact HR.out.1.rd.1
    have b3' : k3 ≤ 72 := by rw [HE.out.2.2.1]; exact HR.out.2.ra.1
    have b4' : k4 ≤ 72 := by rw [HE.out.2.2.2]; exact HR.out.2.rd.1
    have f100 := Ha.out.c0
    have f101 := Ha.out.c1
    have f102 := Ha.out.c2
    have f103 := Ha.out.c3
    have f104 := Hb.out.c0
    have f105 := Hb.out.c1
    have f106 := Hb.out.c2
    have f107 := Hb.out.c3
    by_cases hs : 60 < k1 + k2 + k3 + k4
    · go_wp2
      go_ret
      exact ⟨rfl, HK.out⟩
    have h24 : k1 + k2 + k3 + k4 ≤ 60 := by omega
    have HS : Hid (an.length + ad.length ≤ 60) := by have h := HE.out; show _ ≤ _; omega
    clear hs
    clear f100 f101 f102 f103 f104 f105 f106 f107
    have f108 := Ha.out.c0
    have f109 := Ha.out.c1
    have f110 := Ha.out.c2
    have f111 := Ha.out.c3
    have f112 := Hb.out.c0
    have f113 := Hb.out.c1
    have f114 := Hb.out.c2
    have f115 := Hb.out.c3
    go_wp2_with fail
    refine (Round_ok m n a1 a2 k1 c1 k2 c2 an ad _ (HA.out.1.1.kept (HK.out.trans (Kept.refl w2))) (HA.out.1.2.kept (HK.out.trans (Kept.refl w2))) HR.out.1).mono ?_
    rintro e w3 ⟨rfl, hk⟩
    clear f108 f109 f110 f111 f112 f113 f114 f115
    have Ha := hid' (Ha.out.kept ((Kept.refl w2).trans hk))
    have Hb := hid' (Hb.out.kept ((Kept.refl w2).trans hk))
    have HK := hid' (HK.out.trans ((Kept.refl w2).trans hk))
    clear hk
    have f116 := Ha.out.c0
    have f117 := Ha.out.c1
    have f118 := Ha.out.c2
    have f119 := Ha.out.c3
    have f120 := Hb.out.c0
    have f121 := Hb.out.c1
    have f122 := Hb.out.c2
    have f123 := Hb.out.c3
    go_wp2_with fail
    refine (Round_ok p q b1 b2 k3 c3 k4 c4 bn bd _ (HA.out.2.1.kept (HK.out.trans (Kept.refl w3))) (HA.out.2.2.kept (HK.out.trans (Kept.refl w3))) HR.out.2).mono ?_
    rintro e w4 ⟨rfl, hk⟩
    clear f116 f117 f118 f119 f120 f121 f122 f123
    have Ha := hid' (Ha.out.kept ((Kept.refl w3).trans hk))
    have Hb := hid' (Hb.out.kept ((Kept.refl w3).trans hk))
    have HK := hid' (HK.out.trans ((Kept.refl w3).trans hk))
    clear hk
    obtain ⟨z, HZ⟩ : ∃ z, Hid (near (M.int m an) (M.val ad) = z) := ⟨_, rfl⟩
    obtain ⟨z', HZ'⟩ : ∃ z, Hid (near (M.int p bn) (M.val bd) = z) := ⟨_, rfl⟩
    rw [HZ.out, HZ'.out]
    by_cases hin : -1000000000000000000 ≤ z ∧ z ≤ 1000000000000000000
    · obtain ⟨ge, gv⟩ := grid_on hin
      rw [ge, gv]
      have HIN := hid' hin
      clear ge gv hin
      have q0 := Ha.out.c0
      have q1 := Ha.out.c1
      have q2 := Ha.out.c2
      have q3 := Ha.out.c3
      go_upto_region 11 with fail
      go_cut [13, 14] (fun s13 s14 wc => ∃ (p13 : Nat) (y0 y2 : Bool) (z1 z3 : Option Addr) (j1 e1 j3 e3 : Nat), s13 = .pointer (some ⟨p13, 0, none⟩) ∧ s14 = .int .i64 0 ∧ Hid (Kept w4 wc ∧ RRow wc p13 (.bool y0) (.slice z1 j1 e1) (.bool y2) (.slice z3 j3 e3) ∧ ∃ (N : Int) (D : Nat) (x y : List Nat), Sl wc (.slice z1 j1 e1) x ∧ Sl wc (.slice z3 j3 e3) y ∧ RatR y0 y2 x y ∧ M.int y0 x = N ∧ M.val y = D ∧ IsSum (M.int m an) (M.val ad) (-z) 1 N D))
      case first =>
        have KT : Kept w4 w4.drew := (Kept.refl _).drew
        refine wp_region_held_drew (S := fun w' => w'.cell? ⟨w.heap.size, 0, none⟩ = some (.bool m) ∧ w'.cell? ⟨w.heap.size, 1, none⟩ = some (.slice a1 k1 c1) ∧ w'.cell? ⟨w.heap.size, 2, none⟩ = some (.bool n) ∧ w'.cell? ⟨w.heap.size, 3, none⟩ = some (.slice a2 k2 c2)) (by kernel_rfl) ⟨(Ha.out.kept KT).c0, (Ha.out.kept KT).c1, (Ha.out.kept KT).c2, (Ha.out.kept KT).c3⟩ (fun hHeld => ?_)
        generalize w4.drew = Wd at KT hHeld ⊢
        refine wpAnyH_take (i := 0) (v := ?vrx0x1) rfl (by kernel_rfl) (by kernel_rfl) (by kernel_rfl) (fun _ _ _ h => h) (Or.inl ⟨by rfl, ?yrx0x1⟩) hHeld ?rrx0x1
        case yrx0x1 =>
          intro w' hSw
          obtain ⟨hSw0, hSw1, hSw2, hSw3⟩ := hSw
          go_simp
          with_reducible rfl
        case rrx0x1 =>
        refine wpAnyH_take (i := 1) (v := ?vrx1x2) rfl (by kernel_rfl) (by kernel_rfl) (by kernel_rfl) (fun _ _ _ h => h) (Or.inl ⟨by rfl, ?yrx1x2⟩) hHeld ?rrx1x2
        case yrx1x2 =>
          intro w' hSw
          obtain ⟨hSw0, hSw1, hSw2, hSw3⟩ := hSw
          go_simp
          with_reducible rfl
        case rrx1x2 =>
        refine wpAnyH_ready (rs := [2, 7]) (by kernel_rfl) (by simp) ?_
        refine AllReadyH.cons rfl (fun K hK => ?_) ?_
        · go_simp
          refine (of_int z _ (by have := HIN.out; omega) (by have := HIN.out; omega)).mono ?_
          rintro e wo ⟨hko, sO, ao, ko, co, lo, tO, aq, kq, cq, lq, rfl, no, nq, Ro, io, iq⟩
          have HO := hid' (And.intro Ro (And.intro io iq))
          clear Ro io iq
          refine hK.out _ _ ⟨(Ha.out.kept (KT.trans hko)).c0, (Ha.out.kept (KT.trans hko)).c1, (Ha.out.kept (KT.trans hko)).c2, (Ha.out.kept (KT.trans hko)).c3⟩ (fun hHeld => ?_)
          clear hK K
          have KT := KT.trans hko
          refine wpAnyH_ready (rs := [3, 7]) (by kernel_rfl) (by simp) ?_
          refine AllReadyH.cons rfl (fun K hK => ?_) ?_
          · go_simp
            refine (Sub_ok m n sO tO a1 a2 ao aq k1 c1 k2 c2 ko co kq cq an ad lo lq _ (HA.out.1.1.kept (HK.out.trans KT)) (HA.out.1.2.kept (HK.out.trans KT)) no nq HR.out.1 HO.out.1).mono ?_
            rw [HO.out.2.1, HO.out.2.2]
            rintro e ws ⟨hks, N, D, hS, hR⟩
            obtain ⟨vv, rfl, hq⟩ := hR.resolve_right (fun h => h.2 (rest_fits hS HA.out.1.1.bd HA.out.1.2.bd HR.out.1.vpos HIN.out HS.out))
            obtain ⟨y0, z1, j1, e1, xx, y2, z3, j3, e3, yy, rfl, n1, r1, i1, n2, r2, i2, R1⟩ := hq.right (by have := hS.pos; omega) (by rw [Int.natAbs_natCast]; exact hS.low)
            have n1 := n1.mono KT.size
            have n2 := n2.mono KT.size
            have HQ := hid' (And.intro R1 (And.intro i1 (And.intro (show M.val yy = D by have := R1.val; omega) hS)))
            clear hS hR hq R1 i1 i2 r1 r2
            refine hK.out _ _ ⟨(Ha.out.kept (KT.trans hks)).c0, (Ha.out.kept (KT.trans hks)).c1, (Ha.out.kept (KT.trans hks)).c2, (Ha.out.kept (KT.trans hks)).c3⟩ (fun hHeld => ?_)
            clear hK K
            have no := no.kept hks
            have nq := nq.kept hks
            have KT := KT.trans hks
            refine wpAnyH_take (i := 4) (v := ?vrx4x3) rfl (by kernel_rfl) (by kernel_rfl) (by kernel_rfl) (fun _ _ _ h => h) (Or.inl ⟨by rfl, ?yrx4x3⟩) hHeld ?rrx4x3
            case yrx4x3 =>
              intro w' hSw
              obtain ⟨hSw0, hSw1, hSw2, hSw3⟩ := hSw
              go_simp
              with_reducible rfl
            case rrx4x3 =>
            refine wpAnyH_take (i := 5) (v := ?vrx5x4) rfl (by kernel_rfl) (by kernel_rfl) (by kernel_rfl) (fun _ _ _ h => h) (Or.inl ⟨by rfl, ?yrx5x4⟩) hHeld ?rrx5x4
            case yrx5x4 =>
              intro w' hSw
              obtain ⟨hSw0, hSw1, hSw2, hSw3⟩ := hSw
              go_simp
              with_reducible rfl
            case rrx5x4 =>
            refine wpAnyH_take (i := 6) (v := ?vrx6x5) rfl (by kernel_rfl) (by kernel_rfl) (by kernel_rfl) (fun _ _ _ h => h) (Or.inl ⟨by rfl, ?yrx6x5⟩) hHeld ?rrx6x5
            case yrx6x5 =>
              intro w' hSw
              obtain ⟨hSw0, hSw1, hSw2, hSw3⟩ := hSw
              go_simp
              with_reducible rfl
            case rrx6x5 =>
            refine wpAnyH_ready (rs := [7]) (by kernel_rfl) (by simp) ?_
            refine AllReadyH.cons rfl (fun K hK => ?_) AllReadyH.nil
            go_simp
            refine hK.out _ _ ⟨(Ha.out.kept (KT.alloc (.cells #[.bool false, .slice none 0 0, .bool false, .slice none 0 0] 26))).c0, (Ha.out.kept (KT.alloc (.cells #[.bool false, .slice none 0 0, .bool false, .slice none 0 0] 26))).c1, (Ha.out.kept (KT.alloc (.cells #[.bool false, .slice none 0 0, .bool false, .slice none 0 0] 26))).c2, (Ha.out.kept (KT.alloc (.cells #[.bool false, .slice none 0 0, .bool false, .slice none 0 0] 26))).c3⟩ (fun hHeld => ?_)
            clear hK K
            have zp := RRow.alloc ws (.bool false) (.slice none 0 0) (.bool false) (.slice none 0 0)
            have gp : w4.heap.size ≤ ws.heap.size := KT.size
            have no := no.kept ((Kept.refl ws).alloc (.cells #[.bool false, .slice none 0 0, .bool false, .slice none 0 0] 26))
            have nq := nq.kept ((Kept.refl ws).alloc (.cells #[.bool false, .slice none 0 0, .bool false, .slice none 0 0] 26))
            have n1 := n1.kept ((Kept.refl ws).alloc (.cells #[.bool false, .slice none 0 0, .bool false, .slice none 0 0] 26))
            have n2 := n2.kept ((Kept.refl ws).alloc (.cells #[.bool false, .slice none 0 0, .bool false, .slice none 0 0] 26))
            have KT := KT.alloc (.cells #[.bool false, .slice none 0 0, .bool false, .slice none 0 0] 26)
            obtain ⟨p13, hp13⟩ : ∃ p, p = ws.heap.size := ⟨_, rfl⟩
            rw [← hp13] at zp gp ⊢
            generalize ws.alloc (.cells #[.bool false, .slice none 0 0, .bool false, .slice none 0 0] 26) = Wz at zp no nq n1 n2 KT hHeld ⊢
            clear hp13
            have cz0 := zp.c0
            have cz1 := zp.c1
            have cz2 := zp.c2
            have cz3 := zp.c3
            have o0 := zp.fz 0
            have o1 := zp.fz 1
            have o2 := zp.fz 2
            have o3 := zp.fz 3
            refine wpAnyH_ready (rs := [8]) (by kernel_rfl) (by simp) ?_
            refine AllReadyH.cons rfl (fun K hK => ?_) AllReadyH.nil
            go_simp
            have KU := Kept.set4 KT gp (.bool y0) (.slice z1 j1 e1) (.bool y2) (.slice z3 j3 e3)
            refine hK.out _ _ ⟨(Ha.out.kept KU).c0, (Ha.out.kept KU).c1, (Ha.out.kept KU).c2, (Ha.out.kept KU).c3⟩ (fun hHeld => ?_)
            clear hK K
            have zq := zp.set (.bool y0) (.slice z1 j1 e1) (.bool y2) (.slice z3 j3 e3)
            have m1 := (Ok.row4 (w := w4) (.inr n1) zp (.bool y0) (.slice z1 j1 e1) (.bool y2) (.slice z3 j3 e3))
            have m2 := (Ok.row4 (w := w4) (.inr n2) zp (.bool y0) (.slice z1 j1 e1) (.bool y2) (.slice z3 j3 e3))
            have m1 := m1.sl KU
            have m2 := m2.sl KU
            clear cz0 cz1 cz2 cz3 o0 o1 o2 o3 KT zp n1 n2
            generalize ((((Wz.setCell ⟨p13, 0, none⟩ (.bool y0)).setCell ⟨p13, 1, none⟩ (.slice z1 j1 e1)).setCell ⟨p13, 2, none⟩ (.bool y2)).setCell ⟨p13, 3, none⟩ (.slice z3 j3 e3)) = Ws at KU zq m1 m2 hHeld ⊢
            refine wpAnyH_take (i := 9) (v := ?vrx9x6) rfl (by kernel_rfl) (by kernel_rfl) (by kernel_rfl) (fun _ _ _ h => h) (Or.inl ⟨by rfl, ?yrx9x6⟩) hHeld ?rrx9x6
            case yrx9x6 =>
              intro w' hSw
              obtain ⟨hSw0, hSw1, hSw2, hSw3⟩ := hSw
              go_simp
              with_reducible rfl
            case rrx9x6 =>
            refine wpAnyH_done (by kernel_rfl) ?_ _
            go_wp2_with fail
            go_meet
            case rel => exact ⟨p13, y0, y2, z1, z3, j1, e1, j3, e3, rfl, rfl, KU, zq, N, D, xx, yy, m1, m2, HQ.out.1, HQ.out.2.1, HQ.out.2.2.1, HQ.out.2.2.2⟩
          refine AllReadyH.cons rfl (fun K hK => ?_) AllReadyH.nil
          go_simp
          refine hK.out _ _ ⟨(Ha.out.kept (KT.alloc (.cells #[.bool false, .slice none 0 0, .bool false, .slice none 0 0] 26))).c0, (Ha.out.kept (KT.alloc (.cells #[.bool false, .slice none 0 0, .bool false, .slice none 0 0] 26))).c1, (Ha.out.kept (KT.alloc (.cells #[.bool false, .slice none 0 0, .bool false, .slice none 0 0] 26))).c2, (Ha.out.kept (KT.alloc (.cells #[.bool false, .slice none 0 0, .bool false, .slice none 0 0] 26))).c3⟩ (fun hHeld => ?_)
          clear hK K
          have zp := RRow.alloc wo (.bool false) (.slice none 0 0) (.bool false) (.slice none 0 0)
          have gp : w4.heap.size ≤ wo.heap.size := KT.size
          have no := no.kept ((Kept.refl wo).alloc (.cells #[.bool false, .slice none 0 0, .bool false, .slice none 0 0] 26))
          have nq := nq.kept ((Kept.refl wo).alloc (.cells #[.bool false, .slice none 0 0, .bool false, .slice none 0 0] 26))
          have KT := KT.alloc (.cells #[.bool false, .slice none 0 0, .bool false, .slice none 0 0] 26)
          obtain ⟨p13, hp13⟩ : ∃ p, p = wo.heap.size := ⟨_, rfl⟩
          rw [← hp13] at zp gp ⊢
          generalize wo.alloc (.cells #[.bool false, .slice none 0 0, .bool false, .slice none 0 0] 26) = Wz at zp no nq KT hHeld ⊢
          clear hp13
          refine wpAnyH_ready (rs := [3]) (by kernel_rfl) (by simp) ?_
          refine AllReadyH.cons rfl (fun K hK => ?_) AllReadyH.nil
          go_simp
          refine (Sub_ok m n sO tO a1 a2 ao aq k1 c1 k2 c2 ko co kq cq an ad lo lq _ (HA.out.1.1.kept (HK.out.trans KT)) (HA.out.1.2.kept (HK.out.trans KT)) no nq HR.out.1 HO.out.1).mono ?_
          rw [HO.out.2.1, HO.out.2.2]
          rintro e ws ⟨hks, N, D, hS, hR⟩
          obtain ⟨vv, rfl, hq⟩ := hR.resolve_right (fun h => h.2 (rest_fits hS HA.out.1.1.bd HA.out.1.2.bd HR.out.1.vpos HIN.out HS.out))
          obtain ⟨y0, z1, j1, e1, xx, y2, z3, j3, e3, yy, rfl, n1, r1, i1, n2, r2, i2, R1⟩ := hq.right (by have := hS.pos; omega) (by rw [Int.natAbs_natCast]; exact hS.low)
          have n1 := n1.mono KT.size
          have n2 := n2.mono KT.size
          have HQ := hid' (And.intro R1 (And.intro i1 (And.intro (show M.val yy = D by have := R1.val; omega) hS)))
          clear hS hR hq R1 i1 i2 r1 r2
          refine hK.out _ _ ⟨(Ha.out.kept (KT.trans hks)).c0, (Ha.out.kept (KT.trans hks)).c1, (Ha.out.kept (KT.trans hks)).c2, (Ha.out.kept (KT.trans hks)).c3⟩ (fun hHeld => ?_)
          clear hK K
          have zp := zp.kept hks
          have no := no.kept hks
          have nq := nq.kept hks
          have KT := KT.trans hks
          refine wpAnyH_take (i := 4) (v := ?vrx4x7) rfl (by kernel_rfl) (by kernel_rfl) (by kernel_rfl) (fun _ _ _ h => h) (Or.inl ⟨by rfl, ?yrx4x7⟩) hHeld ?rrx4x7
          case yrx4x7 =>
            intro w' hSw
            obtain ⟨hSw0, hSw1, hSw2, hSw3⟩ := hSw
            go_simp
            with_reducible rfl
          case rrx4x7 =>
          refine wpAnyH_take (i := 5) (v := ?vrx5x8) rfl (by kernel_rfl) (by kernel_rfl) (by kernel_rfl) (fun _ _ _ h => h) (Or.inl ⟨by rfl, ?yrx5x8⟩) hHeld ?rrx5x8
          case yrx5x8 =>
            intro w' hSw
            obtain ⟨hSw0, hSw1, hSw2, hSw3⟩ := hSw
            go_simp
            with_reducible rfl
          case rrx5x8 =>
          refine wpAnyH_take (i := 6) (v := ?vrx6x9) rfl (by kernel_rfl) (by kernel_rfl) (by kernel_rfl) (fun _ _ _ h => h) (Or.inl ⟨by rfl, ?yrx6x9⟩) hHeld ?rrx6x9
          case yrx6x9 =>
            intro w' hSw
            obtain ⟨hSw0, hSw1, hSw2, hSw3⟩ := hSw
            go_simp
            with_reducible rfl
          case rrx6x9 =>
          have cz0 := zp.c0
          have cz1 := zp.c1
          have cz2 := zp.c2
          have cz3 := zp.c3
          have o0 := zp.fz 0
          have o1 := zp.fz 1
          have o2 := zp.fz 2
          have o3 := zp.fz 3
          refine wpAnyH_ready (rs := [8]) (by kernel_rfl) (by simp) ?_
          refine AllReadyH.cons rfl (fun K hK => ?_) AllReadyH.nil
          go_simp
          have KU := Kept.set4 KT gp (.bool y0) (.slice z1 j1 e1) (.bool y2) (.slice z3 j3 e3)
          refine hK.out _ _ ⟨(Ha.out.kept KU).c0, (Ha.out.kept KU).c1, (Ha.out.kept KU).c2, (Ha.out.kept KU).c3⟩ (fun hHeld => ?_)
          clear hK K
          have zq := zp.set (.bool y0) (.slice z1 j1 e1) (.bool y2) (.slice z3 j3 e3)
          have m1 := (Ok.row4 (w := w4) (.inr n1) zp (.bool y0) (.slice z1 j1 e1) (.bool y2) (.slice z3 j3 e3))
          have m2 := (Ok.row4 (w := w4) (.inr n2) zp (.bool y0) (.slice z1 j1 e1) (.bool y2) (.slice z3 j3 e3))
          have m1 := m1.sl KU
          have m2 := m2.sl KU
          clear cz0 cz1 cz2 cz3 o0 o1 o2 o3 KT zp n1 n2
          generalize ((((ws.setCell ⟨p13, 0, none⟩ (.bool y0)).setCell ⟨p13, 1, none⟩ (.slice z1 j1 e1)).setCell ⟨p13, 2, none⟩ (.bool y2)).setCell ⟨p13, 3, none⟩ (.slice z3 j3 e3)) = Ws at KU zq m1 m2 hHeld ⊢
          refine wpAnyH_take (i := 9) (v := ?vrx9x10) rfl (by kernel_rfl) (by kernel_rfl) (by kernel_rfl) (fun _ _ _ h => h) (Or.inl ⟨by rfl, ?yrx9x10⟩) hHeld ?rrx9x10
          case yrx9x10 =>
            intro w' hSw
            obtain ⟨hSw0, hSw1, hSw2, hSw3⟩ := hSw
            go_simp
            with_reducible rfl
          case rrx9x10 =>
          refine wpAnyH_done (by kernel_rfl) ?_ _
          go_wp2_with fail
          go_meet
          case rel => exact ⟨p13, y0, y2, z1, z3, j1, e1, j3, e3, rfl, rfl, KU, zq, N, D, xx, yy, m1, m2, HQ.out.1, HQ.out.2.1, HQ.out.2.2.1, HQ.out.2.2.2⟩
        refine AllReadyH.cons rfl (fun K hK => ?_) AllReadyH.nil
        go_simp
        refine hK.out _ _ ⟨(Ha.out.kept (KT.alloc (.cells #[.bool false, .slice none 0 0, .bool false, .slice none 0 0] 26))).c0, (Ha.out.kept (KT.alloc (.cells #[.bool false, .slice none 0 0, .bool false, .slice none 0 0] 26))).c1, (Ha.out.kept (KT.alloc (.cells #[.bool false, .slice none 0 0, .bool false, .slice none 0 0] 26))).c2, (Ha.out.kept (KT.alloc (.cells #[.bool false, .slice none 0 0, .bool false, .slice none 0 0] 26))).c3⟩ (fun hHeld => ?_)
        clear hK K
        have zp := RRow.alloc Wd (.bool false) (.slice none 0 0) (.bool false) (.slice none 0 0)
        have gp : w4.heap.size ≤ Wd.heap.size := KT.size
        have KT := KT.alloc (.cells #[.bool false, .slice none 0 0, .bool false, .slice none 0 0] 26)
        obtain ⟨p13, hp13⟩ : ∃ p, p = Wd.heap.size := ⟨_, rfl⟩
        rw [← hp13] at zp gp ⊢
        generalize Wd.alloc (.cells #[.bool false, .slice none 0 0, .bool false, .slice none 0 0] 26) = Wz at zp  KT hHeld ⊢
        clear hp13
        refine wpAnyH_ready (rs := [2]) (by kernel_rfl) (by simp) ?_
        refine AllReadyH.cons rfl (fun K hK => ?_) AllReadyH.nil
        go_simp
        refine (of_int z _ (by have := HIN.out; omega) (by have := HIN.out; omega)).mono ?_
        rintro e wo ⟨hko, sO, ao, ko, co, lo, tO, aq, kq, cq, lq, rfl, no, nq, Ro, io, iq⟩
        have HO := hid' (And.intro Ro (And.intro io iq))
        clear Ro io iq
        refine hK.out _ _ ⟨(Ha.out.kept (KT.trans hko)).c0, (Ha.out.kept (KT.trans hko)).c1, (Ha.out.kept (KT.trans hko)).c2, (Ha.out.kept (KT.trans hko)).c3⟩ (fun hHeld => ?_)
        clear hK K
        have zp := zp.kept hko
        have KT := KT.trans hko
        refine wpAnyH_ready (rs := [3]) (by kernel_rfl) (by simp) ?_
        refine AllReadyH.cons rfl (fun K hK => ?_) AllReadyH.nil
        go_simp
        refine (Sub_ok m n sO tO a1 a2 ao aq k1 c1 k2 c2 ko co kq cq an ad lo lq _ (HA.out.1.1.kept (HK.out.trans KT)) (HA.out.1.2.kept (HK.out.trans KT)) no nq HR.out.1 HO.out.1).mono ?_
        rw [HO.out.2.1, HO.out.2.2]
        rintro e ws ⟨hks, N, D, hS, hR⟩
        obtain ⟨vv, rfl, hq⟩ := hR.resolve_right (fun h => h.2 (rest_fits hS HA.out.1.1.bd HA.out.1.2.bd HR.out.1.vpos HIN.out HS.out))
        obtain ⟨y0, z1, j1, e1, xx, y2, z3, j3, e3, yy, rfl, n1, r1, i1, n2, r2, i2, R1⟩ := hq.right (by have := hS.pos; omega) (by rw [Int.natAbs_natCast]; exact hS.low)
        have n1 := n1.mono KT.size
        have n2 := n2.mono KT.size
        have HQ := hid' (And.intro R1 (And.intro i1 (And.intro (show M.val yy = D by have := R1.val; omega) hS)))
        clear hS hR hq R1 i1 i2 r1 r2
        refine hK.out _ _ ⟨(Ha.out.kept (KT.trans hks)).c0, (Ha.out.kept (KT.trans hks)).c1, (Ha.out.kept (KT.trans hks)).c2, (Ha.out.kept (KT.trans hks)).c3⟩ (fun hHeld => ?_)
        clear hK K
        have zp := zp.kept hks
        have no := no.kept hks
        have nq := nq.kept hks
        have KT := KT.trans hks
        refine wpAnyH_take (i := 4) (v := ?vrx4x11) rfl (by kernel_rfl) (by kernel_rfl) (by kernel_rfl) (fun _ _ _ h => h) (Or.inl ⟨by rfl, ?yrx4x11⟩) hHeld ?rrx4x11
        case yrx4x11 =>
          intro w' hSw
          obtain ⟨hSw0, hSw1, hSw2, hSw3⟩ := hSw
          go_simp
          with_reducible rfl
        case rrx4x11 =>
        refine wpAnyH_take (i := 5) (v := ?vrx5x12) rfl (by kernel_rfl) (by kernel_rfl) (by kernel_rfl) (fun _ _ _ h => h) (Or.inl ⟨by rfl, ?yrx5x12⟩) hHeld ?rrx5x12
        case yrx5x12 =>
          intro w' hSw
          obtain ⟨hSw0, hSw1, hSw2, hSw3⟩ := hSw
          go_simp
          with_reducible rfl
        case rrx5x12 =>
        refine wpAnyH_take (i := 6) (v := ?vrx6x13) rfl (by kernel_rfl) (by kernel_rfl) (by kernel_rfl) (fun _ _ _ h => h) (Or.inl ⟨by rfl, ?yrx6x13⟩) hHeld ?rrx6x13
        case yrx6x13 =>
          intro w' hSw
          obtain ⟨hSw0, hSw1, hSw2, hSw3⟩ := hSw
          go_simp
          with_reducible rfl
        case rrx6x13 =>
        have cz0 := zp.c0
        have cz1 := zp.c1
        have cz2 := zp.c2
        have cz3 := zp.c3
        have o0 := zp.fz 0
        have o1 := zp.fz 1
        have o2 := zp.fz 2
        have o3 := zp.fz 3
        refine wpAnyH_ready (rs := [8]) (by kernel_rfl) (by simp) ?_
        refine AllReadyH.cons rfl (fun K hK => ?_) AllReadyH.nil
        go_simp
        have KU := Kept.set4 KT gp (.bool y0) (.slice z1 j1 e1) (.bool y2) (.slice z3 j3 e3)
        refine hK.out _ _ ⟨(Ha.out.kept KU).c0, (Ha.out.kept KU).c1, (Ha.out.kept KU).c2, (Ha.out.kept KU).c3⟩ (fun hHeld => ?_)
        clear hK K
        have zq := zp.set (.bool y0) (.slice z1 j1 e1) (.bool y2) (.slice z3 j3 e3)
        have m1 := (Ok.row4 (w := w4) (.inr n1) zp (.bool y0) (.slice z1 j1 e1) (.bool y2) (.slice z3 j3 e3))
        have m2 := (Ok.row4 (w := w4) (.inr n2) zp (.bool y0) (.slice z1 j1 e1) (.bool y2) (.slice z3 j3 e3))
        have m1 := m1.sl KU
        have m2 := m2.sl KU
        clear cz0 cz1 cz2 cz3 o0 o1 o2 o3 KT zp n1 n2
        generalize ((((ws.setCell ⟨p13, 0, none⟩ (.bool y0)).setCell ⟨p13, 1, none⟩ (.slice z1 j1 e1)).setCell ⟨p13, 2, none⟩ (.bool y2)).setCell ⟨p13, 3, none⟩ (.slice z3 j3 e3)) = Ws at KU zq m1 m2 hHeld ⊢
        refine wpAnyH_take (i := 9) (v := ?vrx9x14) rfl (by kernel_rfl) (by kernel_rfl) (by kernel_rfl) (fun _ _ _ h => h) (Or.inl ⟨by rfl, ?yrx9x14⟩) hHeld ?rrx9x14
        case yrx9x14 =>
          intro w' hSw
          obtain ⟨hSw0, hSw1, hSw2, hSw3⟩ := hSw
          go_simp
          with_reducible rfl
        case rrx9x14 =>
        refine wpAnyH_done (by kernel_rfl) ?_ _
        go_wp2_with fail
        go_meet
        case rel => exact ⟨p13, y0, y2, z1, z3, j1, e1, j3, e3, rfl, rfl, KU, zq, N, D, xx, yy, m1, m2, HQ.out.1, HQ.out.2.1, HQ.out.2.2.1, HQ.out.2.2.2⟩
      case rest =>
        obtain ⟨p13, y0, y2, z1, z3, j1, e1, j3, e3, rfl, rfl, HC⟩ := hcut
        obtain ⟨KT, hd13, N, D, xx, yy, hN⟩ := HC.out
        have Hd := hid' hd13
        have HN := hid' hN
        have HK := hid' (HK.out.trans KT)
        have Ha := hid' (Ha.out.kept KT)
        have Hb := hid' (Hb.out.kept KT)
        have hrh := rest_half HR.out.1.vpos (by rw [HZ.out]; exact HN.out.2.2.2.2.2)
        rw [HZ.out] at hrh
        clear KT hd13 hN HC q0 q1 q2 q3
        have HKD : Hid (Kept wc wc) := Kept.refl _
        obtain ⟨up, HUP⟩ : ∃ u, Hid (isgn (N * 2) (1 * D) = u) := ⟨_, rfl⟩
        obtain ⟨dn, HDN⟩ : ∃ u, Hid (isgn (N * 2) (-1 * D) = u) := ⟨_, rfl⟩
        rw [HUP.out, HDN.out] at hrh
        have HRH := hid' hrh
        clear hrh
        have HU8 : Hid (isgn (M.int y0 xx * (2 : Nat)) (1 * M.val yy) = up) := by show _ = _; rw [HN.out.2.2.2.1, HN.out.2.2.2.2.1]; exact HUP.out
        have HD9 : Hid (isgn (M.int y0 xx * (2 : Nat)) (-1 * M.val yy) = dn) := by show _ = _; rw [HN.out.2.2.2.1, HN.out.2.2.2.2.1]; exact HDN.out
        have q0 := Hd.out.c0
        have q1 := Hd.out.c1
        have q2 := Hd.out.c2
        have q3 := Hd.out.c3
        go_wp2_with fail
        go_region_held3 (fun w' => w'.cell? ⟨p13, 0, none⟩ = some (.bool y0) ∧ w'.cell? ⟨p13, 1, none⟩ = some (.slice z1 j1 e1) ∧ w'.cell? ⟨p13, 2, none⟩ = some (.bool y2) ∧ w'.cell? ⟨p13, 3, none⟩ = some (.slice z3 j3 e3)) (go_keep) (first
          | (go_at_call 10; refine (of_half 1 _ (.inl rfl)).mono ?_; rintro e woC ⟨hko, soC, aoC, koC, coC, loC, toC, aqC, kqC, cqC, lqC, rfl, noC, nqC, RoC, ioC, iqC⟩; have KoC := (Kept.refl wc).drew.trans hko; have HOC := hid' (And.intro noC (And.intro nqC (And.intro RoC (And.intro ioC iqC)))); clear noC nqC RoC ioC iqC; have dC0 := (Hd.out.kept KoC).c0; have dC1 := (Hd.out.kept KoC).c1; have dC2 := (Hd.out.kept KoC).c2; have dC3 := (Hd.out.kept KoC).c3)
          | (go_at_call 9; refine (Cmp_ok y0 y2 soC toC z1 z3 aoC aqC j1 e1 j3 e3 koC coC kqC cqC xx yy loC lqC _ (HN.out.1.kept (HKD.out.trans KoC)) (HN.out.2.1.kept (HKD.out.trans KoC)) HOC.out.1 HOC.out.2.1 HN.out.2.2.1 HOC.out.2.2.1).mono ?_; rw [HOC.out.2.2.2.1, HOC.out.2.2.2.2, HU8.out]; rintro e wpC ⟨rfl, hkp⟩; have KpC := KoC.trans hkp; have jC0 := (Hd.out.kept KpC).c0; have jC1 := (Hd.out.kept KpC).c1; have jC2 := (Hd.out.kept KpC).c2; have jC3 := (Hd.out.kept KpC).c3))
        have HKD := hid' (HKD.out.trans KpC)
        have HK := hid' (HK.out.trans KpC)
        have Ha := hid' (Ha.out.kept KpC)
        have Hb := hid' (Hb.out.kept KpC)
        have Hd := hid' (Hd.out.kept KpC)
        clear q0 q1 q2 q3 dC0 dC1 dC2 dC3 jC0 jC1 jC2 jC3 hko hkp HOC KoC KpC
        have q0 := Hd.out.c0
        have q1 := Hd.out.c1
        have q2 := Hd.out.c2
        have q3 := Hd.out.c3
        go_wp2_with fail
        go_region_held3 (fun w' => w'.cell? ⟨p13, 0, none⟩ = some (.bool y0) ∧ w'.cell? ⟨p13, 1, none⟩ = some (.slice z1 j1 e1) ∧ w'.cell? ⟨p13, 2, none⟩ = some (.bool y2) ∧ w'.cell? ⟨p13, 3, none⟩ = some (.slice z3 j3 e3)) (go_keep) (first
          | (go_at_call 10; refine (of_half (-1) _ (.inr rfl)).mono ?_; rintro e woD ⟨hko, soD, aoD, koD, coD, loD, toD, aqD, kqD, cqD, lqD, rfl, noD, nqD, RoD, ioD, iqD⟩; have KoD := (Kept.refl wpC).drew.trans hko; have HOD := hid' (And.intro noD (And.intro nqD (And.intro RoD (And.intro ioD iqD)))); clear noD nqD RoD ioD iqD; have dD0 := (Hd.out.kept KoD).c0; have dD1 := (Hd.out.kept KoD).c1; have dD2 := (Hd.out.kept KoD).c2; have dD3 := (Hd.out.kept KoD).c3)
          | (go_at_call 9; refine (Cmp_ok y0 y2 soD toD z1 z3 aoD aqD j1 e1 j3 e3 koD coD kqD cqD xx yy loD lqD _ (HN.out.1.kept (HKD.out.trans KoD)) (HN.out.2.1.kept (HKD.out.trans KoD)) HOD.out.1 HOD.out.2.1 HN.out.2.2.1 HOD.out.2.2.1).mono ?_; rw [HOD.out.2.2.2.1, HOD.out.2.2.2.2, HD9.out]; rintro e wpD ⟨rfl, hkp⟩; have KpD := KoD.trans hkp; have jD0 := (Hd.out.kept KpD).c0; have jD1 := (Hd.out.kept KpD).c1; have jD2 := (Hd.out.kept KpD).c2; have jD3 := (Hd.out.kept KpD).c3))
        have HK := hid' (HK.out.trans KpD)
        have Ha := hid' (Ha.out.kept KpD)
        have Hb := hid' (Hb.out.kept KpD)
        clear q0 q1 q2 q3 dD0 dD1 dD2 dD3 jD0 jD1 jD2 jD3 hko hkp HOD KoD KpD
        rcases HRH.out with ⟨rfl, rfl⟩ | ⟨rfl, rfl, hev⟩ | ⟨rfl, rfl, hev⟩
        · by_cases hon : -1000000000000000000 ≤ z' ∧ z' ≤ 1000000000000000000
          · obtain ⟨ge', gv'⟩ := grid_on hon
            rw [ge', gv']
            clear ge' gv' hon
            rcases hx3 (M.int m an * M.val bd) (M.int p bn * M.val ad) with hcc | hcc | hcc
            · have HCC := hid' hcc
              clear hcc
              have hle : z ≤ z' := by rw [← HZ.out, ← HZ'.out]; exact near_mono HR.out.1.vpos HR.out.2.vpos (lt_cross HCC.out)
              have f300 := Ha.out.c0
              have f301 := Ha.out.c1
              have f302 := Ha.out.c2
              have f303 := Ha.out.c3
              have f304 := Hb.out.c0
              have f305 := Hb.out.c1
              have f306 := Hb.out.c2
              have f307 := Hb.out.c3
              go_wp2_with fail
              refine (Cmp_ok m n p q a1 a2 b1 b2 k1 c1 k2 c2 k3 c3 k4 c4 an ad bn bd _ (HA.out.1.1.kept (HK.out.trans (Kept.refl wpD))) (HA.out.1.2.kept (HK.out.trans (Kept.refl wpD))) (HA.out.2.1.kept (HK.out.trans (Kept.refl wpD))) (HA.out.2.2.kept (HK.out.trans (Kept.refl wpD))) HR.out.1 HR.out.2).mono ?_
              rw [HCC.out]
              rintro e wz ⟨rfl, hk⟩
              clear f300 f301 f302 f303 f304 f305 f306 f307
              have Ha := hid' (Ha.out.kept ((Kept.refl wpD).trans hk))
              have Hb := hid' (Hb.out.kept ((Kept.refl wpD).trans hk))
              have HK := hid' (HK.out.trans ((Kept.refl wpD).trans hk))
              clear hk
              go_wp2
              go_ret
              exact ⟨rfl, HK.out⟩
            · have HCC := hid' hcc
              clear hcc
              have hle : (z == z') = true := by rw [beq_iff_eq, ← HZ.out, ← HZ'.out]; exact near_one HR.out.1 HR.out.2 HA.out.1.1.bd HA.out.1.2.bd HA.out.2.1.bd HA.out.2.2.bd (eq_cross' HCC.out)
              have f300 := Ha.out.c0
              have f301 := Ha.out.c1
              have f302 := Ha.out.c2
              have f303 := Ha.out.c3
              have f304 := Hb.out.c0
              have f305 := Hb.out.c1
              have f306 := Hb.out.c2
              have f307 := Hb.out.c3
              go_wp2_with fail
              refine (Cmp_ok m n p q a1 a2 b1 b2 k1 c1 k2 c2 k3 c3 k4 c4 an ad bn bd _ (HA.out.1.1.kept (HK.out.trans (Kept.refl wpD))) (HA.out.1.2.kept (HK.out.trans (Kept.refl wpD))) (HA.out.2.1.kept (HK.out.trans (Kept.refl wpD))) (HA.out.2.2.kept (HK.out.trans (Kept.refl wpD))) HR.out.1 HR.out.2).mono ?_
              rw [HCC.out]
              rintro e wz ⟨rfl, hk⟩
              clear f300 f301 f302 f303 f304 f305 f306 f307
              have Ha := hid' (Ha.out.kept ((Kept.refl wpD).trans hk))
              have Hb := hid' (Hb.out.kept ((Kept.refl wpD).trans hk))
              have HK := hid' (HK.out.trans ((Kept.refl wpD).trans hk))
              clear hk
              go_wp2
              go_ret
              exact ⟨rfl, HK.out⟩
            · have HCC := hid' hcc
              clear hcc
              have hle : z' ≤ z := by rw [← HZ.out, ← HZ'.out]; exact near_mono HR.out.2.vpos HR.out.1.vpos (gt_cross HCC.out)
              have f300 := Ha.out.c0
              have f301 := Ha.out.c1
              have f302 := Ha.out.c2
              have f303 := Ha.out.c3
              have f304 := Hb.out.c0
              have f305 := Hb.out.c1
              have f306 := Hb.out.c2
              have f307 := Hb.out.c3
              go_wp2_with fail
              refine (Cmp_ok m n p q a1 a2 b1 b2 k1 c1 k2 c2 k3 c3 k4 c4 an ad bn bd _ (HA.out.1.1.kept (HK.out.trans (Kept.refl wpD))) (HA.out.1.2.kept (HK.out.trans (Kept.refl wpD))) (HA.out.2.1.kept (HK.out.trans (Kept.refl wpD))) (HA.out.2.2.kept (HK.out.trans (Kept.refl wpD))) HR.out.1 HR.out.2).mono ?_
              rw [HCC.out]
              rintro e wz ⟨rfl, hk⟩
              clear f300 f301 f302 f303 f304 f305 f306 f307
              have Ha := hid' (Ha.out.kept ((Kept.refl wpD).trans hk))
              have Hb := hid' (Hb.out.kept ((Kept.refl wpD).trans hk))
              have HK := hid' (HK.out.trans ((Kept.refl wpD).trans hk))
              clear hk
              go_wp2
              go_ret
              exact ⟨rfl, HK.out⟩
          · obtain ⟨ge', gv'⟩ := grid_off hon
            rw [ge', gv']
            clear ge' gv' hon
            have f300 := Ha.out.c0
            have f301 := Ha.out.c1
            have f302 := Ha.out.c2
            have f303 := Ha.out.c3
            have f304 := Hb.out.c0
            have f305 := Hb.out.c1
            have f306 := Hb.out.c2
            have f307 := Hb.out.c3
            go_wp2_with fail
            refine (Cmp_ok m n p q a1 a2 b1 b2 k1 c1 k2 c2 k3 c3 k4 c4 an ad bn bd _ (HA.out.1.1.kept (HK.out.trans (Kept.refl wpD))) (HA.out.1.2.kept (HK.out.trans (Kept.refl wpD))) (HA.out.2.1.kept (HK.out.trans (Kept.refl wpD))) (HA.out.2.2.kept (HK.out.trans (Kept.refl wpD))) HR.out.1 HR.out.2).mono ?_
            rintro e wz ⟨rfl, hk⟩
            clear f300 f301 f302 f303 f304 f305 f306 f307
            have Ha := hid' (Ha.out.kept ((Kept.refl wpD).trans hk))
            have Hb := hid' (Hb.out.kept ((Kept.refl wpD).trans hk))
            have HK := hid' (HK.out.trans ((Kept.refl wpD).trans hk))
            clear hk
            go_wp2
            go_ret
            exact ⟨rfl, HK.out⟩
        · have hm : (Int.tmod z 2 != 0) = false := by rw [even_tmod.2 hev]; rfl
          clear hev
          by_cases hon : -1000000000000000000 ≤ z' ∧ z' ≤ 1000000000000000000
          · obtain ⟨ge', gv'⟩ := grid_on hon
            rw [ge', gv']
            clear ge' gv' hon
            rcases hx3 (M.int m an * M.val bd) (M.int p bn * M.val ad) with hcc | hcc | hcc
            · have HCC := hid' hcc
              clear hcc
              have hle : z ≤ z' := by rw [← HZ.out, ← HZ'.out]; exact near_mono HR.out.1.vpos HR.out.2.vpos (lt_cross HCC.out)
              have f340 := Ha.out.c0
              have f341 := Ha.out.c1
              have f342 := Ha.out.c2
              have f343 := Ha.out.c3
              have f344 := Hb.out.c0
              have f345 := Hb.out.c1
              have f346 := Hb.out.c2
              have f347 := Hb.out.c3
              go_wp2_with fail
              refine (Cmp_ok m n p q a1 a2 b1 b2 k1 c1 k2 c2 k3 c3 k4 c4 an ad bn bd _ (HA.out.1.1.kept (HK.out.trans (Kept.refl wpD))) (HA.out.1.2.kept (HK.out.trans (Kept.refl wpD))) (HA.out.2.1.kept (HK.out.trans (Kept.refl wpD))) (HA.out.2.2.kept (HK.out.trans (Kept.refl wpD))) HR.out.1 HR.out.2).mono ?_
              rw [HCC.out]
              rintro e wz ⟨rfl, hk⟩
              clear f340 f341 f342 f343 f344 f345 f346 f347
              have Ha := hid' (Ha.out.kept ((Kept.refl wpD).trans hk))
              have Hb := hid' (Hb.out.kept ((Kept.refl wpD).trans hk))
              have HK := hid' (HK.out.trans ((Kept.refl wpD).trans hk))
              clear hk
              go_wp2
              go_ret
              exact ⟨rfl, HK.out⟩
            · have HCC := hid' hcc
              clear hcc
              have hle : (z == z') = true := by rw [beq_iff_eq, ← HZ.out, ← HZ'.out]; exact near_one HR.out.1 HR.out.2 HA.out.1.1.bd HA.out.1.2.bd HA.out.2.1.bd HA.out.2.2.bd (eq_cross' HCC.out)
              have f340 := Ha.out.c0
              have f341 := Ha.out.c1
              have f342 := Ha.out.c2
              have f343 := Ha.out.c3
              have f344 := Hb.out.c0
              have f345 := Hb.out.c1
              have f346 := Hb.out.c2
              have f347 := Hb.out.c3
              go_wp2_with fail
              refine (Cmp_ok m n p q a1 a2 b1 b2 k1 c1 k2 c2 k3 c3 k4 c4 an ad bn bd _ (HA.out.1.1.kept (HK.out.trans (Kept.refl wpD))) (HA.out.1.2.kept (HK.out.trans (Kept.refl wpD))) (HA.out.2.1.kept (HK.out.trans (Kept.refl wpD))) (HA.out.2.2.kept (HK.out.trans (Kept.refl wpD))) HR.out.1 HR.out.2).mono ?_
              rw [HCC.out]
              rintro e wz ⟨rfl, hk⟩
              clear f340 f341 f342 f343 f344 f345 f346 f347
              have Ha := hid' (Ha.out.kept ((Kept.refl wpD).trans hk))
              have Hb := hid' (Hb.out.kept ((Kept.refl wpD).trans hk))
              have HK := hid' (HK.out.trans ((Kept.refl wpD).trans hk))
              clear hk
              go_wp2
              go_ret
              exact ⟨rfl, HK.out⟩
            · have HCC := hid' hcc
              clear hcc
              have hle : z' ≤ z := by rw [← HZ.out, ← HZ'.out]; exact near_mono HR.out.2.vpos HR.out.1.vpos (gt_cross HCC.out)
              have f340 := Ha.out.c0
              have f341 := Ha.out.c1
              have f342 := Ha.out.c2
              have f343 := Ha.out.c3
              have f344 := Hb.out.c0
              have f345 := Hb.out.c1
              have f346 := Hb.out.c2
              have f347 := Hb.out.c3
              go_wp2_with fail
              refine (Cmp_ok m n p q a1 a2 b1 b2 k1 c1 k2 c2 k3 c3 k4 c4 an ad bn bd _ (HA.out.1.1.kept (HK.out.trans (Kept.refl wpD))) (HA.out.1.2.kept (HK.out.trans (Kept.refl wpD))) (HA.out.2.1.kept (HK.out.trans (Kept.refl wpD))) (HA.out.2.2.kept (HK.out.trans (Kept.refl wpD))) HR.out.1 HR.out.2).mono ?_
              rw [HCC.out]
              rintro e wz ⟨rfl, hk⟩
              clear f340 f341 f342 f343 f344 f345 f346 f347
              have Ha := hid' (Ha.out.kept ((Kept.refl wpD).trans hk))
              have Hb := hid' (Hb.out.kept ((Kept.refl wpD).trans hk))
              have HK := hid' (HK.out.trans ((Kept.refl wpD).trans hk))
              clear hk
              go_wp2
              go_ret
              exact ⟨rfl, HK.out⟩
          · obtain ⟨ge', gv'⟩ := grid_off hon
            rw [ge', gv']
            clear ge' gv' hon
            have f340 := Ha.out.c0
            have f341 := Ha.out.c1
            have f342 := Ha.out.c2
            have f343 := Ha.out.c3
            have f344 := Hb.out.c0
            have f345 := Hb.out.c1
            have f346 := Hb.out.c2
            have f347 := Hb.out.c3
            go_wp2_with fail
            refine (Cmp_ok m n p q a1 a2 b1 b2 k1 c1 k2 c2 k3 c3 k4 c4 an ad bn bd _ (HA.out.1.1.kept (HK.out.trans (Kept.refl wpD))) (HA.out.1.2.kept (HK.out.trans (Kept.refl wpD))) (HA.out.2.1.kept (HK.out.trans (Kept.refl wpD))) (HA.out.2.2.kept (HK.out.trans (Kept.refl wpD))) HR.out.1 HR.out.2).mono ?_
            rintro e wz ⟨rfl, hk⟩
            clear f340 f341 f342 f343 f344 f345 f346 f347
            have Ha := hid' (Ha.out.kept ((Kept.refl wpD).trans hk))
            have Hb := hid' (Hb.out.kept ((Kept.refl wpD).trans hk))
            have HK := hid' (HK.out.trans ((Kept.refl wpD).trans hk))
            clear hk
            go_wp2
            go_ret
            exact ⟨rfl, HK.out⟩
        · have hm : (Int.tmod z 2 != 0) = false := by rw [even_tmod.2 hev]; rfl
          clear hev
          by_cases hon : -1000000000000000000 ≤ z' ∧ z' ≤ 1000000000000000000
          · obtain ⟨ge', gv'⟩ := grid_on hon
            rw [ge', gv']
            clear ge' gv' hon
            rcases hx3 (M.int m an * M.val bd) (M.int p bn * M.val ad) with hcc | hcc | hcc
            · have HCC := hid' hcc
              clear hcc
              have hle : z ≤ z' := by rw [← HZ.out, ← HZ'.out]; exact near_mono HR.out.1.vpos HR.out.2.vpos (lt_cross HCC.out)
              have f380 := Ha.out.c0
              have f381 := Ha.out.c1
              have f382 := Ha.out.c2
              have f383 := Ha.out.c3
              have f384 := Hb.out.c0
              have f385 := Hb.out.c1
              have f386 := Hb.out.c2
              have f387 := Hb.out.c3
              go_wp2_with fail
              refine (Cmp_ok m n p q a1 a2 b1 b2 k1 c1 k2 c2 k3 c3 k4 c4 an ad bn bd _ (HA.out.1.1.kept (HK.out.trans (Kept.refl wpD))) (HA.out.1.2.kept (HK.out.trans (Kept.refl wpD))) (HA.out.2.1.kept (HK.out.trans (Kept.refl wpD))) (HA.out.2.2.kept (HK.out.trans (Kept.refl wpD))) HR.out.1 HR.out.2).mono ?_
              rw [HCC.out]
              rintro e wz ⟨rfl, hk⟩
              clear f380 f381 f382 f383 f384 f385 f386 f387
              have Ha := hid' (Ha.out.kept ((Kept.refl wpD).trans hk))
              have Hb := hid' (Hb.out.kept ((Kept.refl wpD).trans hk))
              have HK := hid' (HK.out.trans ((Kept.refl wpD).trans hk))
              clear hk
              go_wp2
              go_ret
              exact ⟨rfl, HK.out⟩
            · have HCC := hid' hcc
              clear hcc
              have hle : (z == z') = true := by rw [beq_iff_eq, ← HZ.out, ← HZ'.out]; exact near_one HR.out.1 HR.out.2 HA.out.1.1.bd HA.out.1.2.bd HA.out.2.1.bd HA.out.2.2.bd (eq_cross' HCC.out)
              have f380 := Ha.out.c0
              have f381 := Ha.out.c1
              have f382 := Ha.out.c2
              have f383 := Ha.out.c3
              have f384 := Hb.out.c0
              have f385 := Hb.out.c1
              have f386 := Hb.out.c2
              have f387 := Hb.out.c3
              go_wp2_with fail
              refine (Cmp_ok m n p q a1 a2 b1 b2 k1 c1 k2 c2 k3 c3 k4 c4 an ad bn bd _ (HA.out.1.1.kept (HK.out.trans (Kept.refl wpD))) (HA.out.1.2.kept (HK.out.trans (Kept.refl wpD))) (HA.out.2.1.kept (HK.out.trans (Kept.refl wpD))) (HA.out.2.2.kept (HK.out.trans (Kept.refl wpD))) HR.out.1 HR.out.2).mono ?_
              rw [HCC.out]
              rintro e wz ⟨rfl, hk⟩
              clear f380 f381 f382 f383 f384 f385 f386 f387
              have Ha := hid' (Ha.out.kept ((Kept.refl wpD).trans hk))
              have Hb := hid' (Hb.out.kept ((Kept.refl wpD).trans hk))
              have HK := hid' (HK.out.trans ((Kept.refl wpD).trans hk))
              clear hk
              go_wp2
              go_ret
              exact ⟨rfl, HK.out⟩
            · have HCC := hid' hcc
              clear hcc
              have hle : z' ≤ z := by rw [← HZ.out, ← HZ'.out]; exact near_mono HR.out.2.vpos HR.out.1.vpos (gt_cross HCC.out)
              have f380 := Ha.out.c0
              have f381 := Ha.out.c1
              have f382 := Ha.out.c2
              have f383 := Ha.out.c3
              have f384 := Hb.out.c0
              have f385 := Hb.out.c1
              have f386 := Hb.out.c2
              have f387 := Hb.out.c3
              go_wp2_with fail
              refine (Cmp_ok m n p q a1 a2 b1 b2 k1 c1 k2 c2 k3 c3 k4 c4 an ad bn bd _ (HA.out.1.1.kept (HK.out.trans (Kept.refl wpD))) (HA.out.1.2.kept (HK.out.trans (Kept.refl wpD))) (HA.out.2.1.kept (HK.out.trans (Kept.refl wpD))) (HA.out.2.2.kept (HK.out.trans (Kept.refl wpD))) HR.out.1 HR.out.2).mono ?_
              rw [HCC.out]
              rintro e wz ⟨rfl, hk⟩
              clear f380 f381 f382 f383 f384 f385 f386 f387
              have Ha := hid' (Ha.out.kept ((Kept.refl wpD).trans hk))
              have Hb := hid' (Hb.out.kept ((Kept.refl wpD).trans hk))
              have HK := hid' (HK.out.trans ((Kept.refl wpD).trans hk))
              clear hk
              go_wp2
              go_ret
              exact ⟨rfl, HK.out⟩
          · obtain ⟨ge', gv'⟩ := grid_off hon
            rw [ge', gv']
            clear ge' gv' hon
            have f380 := Ha.out.c0
            have f381 := Ha.out.c1
            have f382 := Ha.out.c2
            have f383 := Ha.out.c3
            have f384 := Hb.out.c0
            have f385 := Hb.out.c1
            have f386 := Hb.out.c2
            have f387 := Hb.out.c3
            go_wp2_with fail
            refine (Cmp_ok m n p q a1 a2 b1 b2 k1 c1 k2 c2 k3 c3 k4 c4 an ad bn bd _ (HA.out.1.1.kept (HK.out.trans (Kept.refl wpD))) (HA.out.1.2.kept (HK.out.trans (Kept.refl wpD))) (HA.out.2.1.kept (HK.out.trans (Kept.refl wpD))) (HA.out.2.2.kept (HK.out.trans (Kept.refl wpD))) HR.out.1 HR.out.2).mono ?_
            rintro e wz ⟨rfl, hk⟩
            clear f380 f381 f382 f383 f384 f385 f386 f387
            have Ha := hid' (Ha.out.kept ((Kept.refl wpD).trans hk))
            have Hb := hid' (Hb.out.kept ((Kept.refl wpD).trans hk))
            have HK := hid' (HK.out.trans ((Kept.refl wpD).trans hk))
            clear hk
            go_wp2
            go_ret
            exact ⟨rfl, HK.out⟩
    · obtain ⟨ge, gv⟩ := grid_off hin
      rw [ge, gv]
      clear ge gv
      by_cases hup : 1000000000000000000 < z
      · have HC8 : Hid (isgn (M.int m an * (1 : Nat)) (1000000000000000000 * M.val ad) = 1) := off_up HR.out.1.vpos (by rw [HZ.out]; exact hup)
        obtain ⟨cx, HC9⟩ : ∃ cx, Hid (isgn (M.int m an * (1 : Nat)) (-1000000000000000000 * M.val ad) = cx) := ⟨_, rfl⟩
        clear hin hup
        have q0 := Ha.out.c0
        have q1 := Ha.out.c1
        have q2 := Ha.out.c2
        have q3 := Ha.out.c3
        go_wp2_with fail
        go_region_held3 (fun w' => w'.cell? ⟨w.heap.size, 0, none⟩ = some (.bool m) ∧ w'.cell? ⟨w.heap.size, 1, none⟩ = some (.slice a1 k1 c1) ∧ w'.cell? ⟨w.heap.size, 2, none⟩ = some (.bool n) ∧ w'.cell? ⟨w.heap.size, 3, none⟩ = some (.slice a2 k2 c2)) (go_keep) (first
          | (go_at_call 10; refine (of_int 1000000000000000000 _ (by omega) (by omega)).mono ?_; rintro e woA ⟨hko, soA, aoA, koA, coA, loA, toA, aqA, kqA, cqA, lqA, rfl, noA, nqA, RoA, ioA, iqA⟩; have KoA := (Kept.refl w4).drew.trans hko; have HOA := hid' (And.intro noA (And.intro nqA (And.intro RoA (And.intro ioA iqA)))); clear noA nqA RoA ioA iqA; have dA0 := (Ha.out.kept KoA).c0; have dA1 := (Ha.out.kept KoA).c1; have dA2 := (Ha.out.kept KoA).c2; have dA3 := (Ha.out.kept KoA).c3)
          | (go_at_call 9; refine (Cmp_ok m n soA toA a1 a2 aoA aqA k1 c1 k2 c2 koA coA kqA cqA an ad loA lqA _ (HA.out.1.1.kept (HK.out.trans KoA)) (HA.out.1.2.kept (HK.out.trans KoA)) HOA.out.1 HOA.out.2.1 HR.out.1 HOA.out.2.2.1).mono ?_; rw [HOA.out.2.2.2.1, HOA.out.2.2.2.2, HC8.out]; rintro e wpA ⟨rfl, hkp⟩; have KpA := KoA.trans hkp; have jA0 := (Ha.out.kept KpA).c0; have jA1 := (Ha.out.kept KpA).c1; have jA2 := (Ha.out.kept KpA).c2; have jA3 := (Ha.out.kept KpA).c3))
        have HK := hid' (HK.out.trans KpA)
        have Ha := hid' (Ha.out.kept KpA)
        clear q0 q1 q2 q3 dA0 dA1 dA2 dA3 jA0 jA1 jA2 jA3 hko hkp HOA KoA KpA
        have q0 := Ha.out.c0
        have q1 := Ha.out.c1
        have q2 := Ha.out.c2
        have q3 := Ha.out.c3
        go_wp2_with fail
        go_region_held3 (fun w' => w'.cell? ⟨w.heap.size, 0, none⟩ = some (.bool m) ∧ w'.cell? ⟨w.heap.size, 1, none⟩ = some (.slice a1 k1 c1) ∧ w'.cell? ⟨w.heap.size, 2, none⟩ = some (.bool n) ∧ w'.cell? ⟨w.heap.size, 3, none⟩ = some (.slice a2 k2 c2)) (go_keep) (first
          | (go_at_call 10; refine (of_int (-1000000000000000000) _ (by omega) (by omega)).mono ?_; rintro e woB ⟨hko, soB, aoB, koB, coB, loB, toB, aqB, kqB, cqB, lqB, rfl, noB, nqB, RoB, ioB, iqB⟩; have KoB := (Kept.refl wpA).drew.trans hko; have HOB := hid' (And.intro noB (And.intro nqB (And.intro RoB (And.intro ioB iqB)))); clear noB nqB RoB ioB iqB; have dB0 := (Ha.out.kept KoB).c0; have dB1 := (Ha.out.kept KoB).c1; have dB2 := (Ha.out.kept KoB).c2; have dB3 := (Ha.out.kept KoB).c3)
          | (go_at_call 9; refine (Cmp_ok m n soB toB a1 a2 aoB aqB k1 c1 k2 c2 koB coB kqB cqB an ad loB lqB _ (HA.out.1.1.kept (HK.out.trans KoB)) (HA.out.1.2.kept (HK.out.trans KoB)) HOB.out.1 HOB.out.2.1 HR.out.1 HOB.out.2.2.1).mono ?_; rw [HOB.out.2.2.2.1, HOB.out.2.2.2.2, HC9.out]; rintro e wpB ⟨rfl, hkp⟩; have KpB := KoB.trans hkp; have jB0 := (Ha.out.kept KpB).c0; have jB1 := (Ha.out.kept KpB).c1; have jB2 := (Ha.out.kept KpB).c2; have jB3 := (Ha.out.kept KpB).c3))
        have HK := hid' (HK.out.trans KpB)
        have Ha := hid' (Ha.out.kept KpB)
        clear q0 q1 q2 q3 dB0 dB1 dB2 dB3 jB0 jB1 jB2 jB3 hko hkp HOB KoB KpB
        go_wp2
        go_ret
        exact ⟨rfl, HK.out⟩
      · have hdn : z < -1000000000000000000 := by omega
        have HC8 : Hid (isgn (M.int m an * (1 : Nat)) (1000000000000000000 * M.val ad) = -1) := (off_down HR.out.1.vpos (by rw [HZ.out]; exact hdn)).1
        have HC9 : Hid (isgn (M.int m an * (1 : Nat)) (-1000000000000000000 * M.val ad) = -1) := (off_down HR.out.1.vpos (by rw [HZ.out]; exact hdn)).2
        clear hin hup hdn
        have q0 := Ha.out.c0
        have q1 := Ha.out.c1
        have q2 := Ha.out.c2
        have q3 := Ha.out.c3
        go_wp2_with fail
        go_region_held3 (fun w' => w'.cell? ⟨w.heap.size, 0, none⟩ = some (.bool m) ∧ w'.cell? ⟨w.heap.size, 1, none⟩ = some (.slice a1 k1 c1) ∧ w'.cell? ⟨w.heap.size, 2, none⟩ = some (.bool n) ∧ w'.cell? ⟨w.heap.size, 3, none⟩ = some (.slice a2 k2 c2)) (go_keep) (first
          | (go_at_call 10; refine (of_int 1000000000000000000 _ (by omega) (by omega)).mono ?_; rintro e woA ⟨hko, soA, aoA, koA, coA, loA, toA, aqA, kqA, cqA, lqA, rfl, noA, nqA, RoA, ioA, iqA⟩; have KoA := (Kept.refl w4).drew.trans hko; have HOA := hid' (And.intro noA (And.intro nqA (And.intro RoA (And.intro ioA iqA)))); clear noA nqA RoA ioA iqA; have dA0 := (Ha.out.kept KoA).c0; have dA1 := (Ha.out.kept KoA).c1; have dA2 := (Ha.out.kept KoA).c2; have dA3 := (Ha.out.kept KoA).c3)
          | (go_at_call 9; refine (Cmp_ok m n soA toA a1 a2 aoA aqA k1 c1 k2 c2 koA coA kqA cqA an ad loA lqA _ (HA.out.1.1.kept (HK.out.trans KoA)) (HA.out.1.2.kept (HK.out.trans KoA)) HOA.out.1 HOA.out.2.1 HR.out.1 HOA.out.2.2.1).mono ?_; rw [HOA.out.2.2.2.1, HOA.out.2.2.2.2, HC8.out]; rintro e wpA ⟨rfl, hkp⟩; have KpA := KoA.trans hkp; have jA0 := (Ha.out.kept KpA).c0; have jA1 := (Ha.out.kept KpA).c1; have jA2 := (Ha.out.kept KpA).c2; have jA3 := (Ha.out.kept KpA).c3))
        have HK := hid' (HK.out.trans KpA)
        have Ha := hid' (Ha.out.kept KpA)
        clear q0 q1 q2 q3 dA0 dA1 dA2 dA3 jA0 jA1 jA2 jA3 hko hkp HOA KoA KpA
        have q0 := Ha.out.c0
        have q1 := Ha.out.c1
        have q2 := Ha.out.c2
        have q3 := Ha.out.c3
        go_wp2_with fail
        go_region_held3 (fun w' => w'.cell? ⟨w.heap.size, 0, none⟩ = some (.bool m) ∧ w'.cell? ⟨w.heap.size, 1, none⟩ = some (.slice a1 k1 c1) ∧ w'.cell? ⟨w.heap.size, 2, none⟩ = some (.bool n) ∧ w'.cell? ⟨w.heap.size, 3, none⟩ = some (.slice a2 k2 c2)) (go_keep) (first
          | (go_at_call 10; refine (of_int (-1000000000000000000) _ (by omega) (by omega)).mono ?_; rintro e woB ⟨hko, soB, aoB, koB, coB, loB, toB, aqB, kqB, cqB, lqB, rfl, noB, nqB, RoB, ioB, iqB⟩; have KoB := (Kept.refl wpA).drew.trans hko; have HOB := hid' (And.intro noB (And.intro nqB (And.intro RoB (And.intro ioB iqB)))); clear noB nqB RoB ioB iqB; have dB0 := (Ha.out.kept KoB).c0; have dB1 := (Ha.out.kept KoB).c1; have dB2 := (Ha.out.kept KoB).c2; have dB3 := (Ha.out.kept KoB).c3)
          | (go_at_call 9; refine (Cmp_ok m n soB toB a1 a2 aoB aqB k1 c1 k2 c2 koB coB kqB cqB an ad loB lqB _ (HA.out.1.1.kept (HK.out.trans KoB)) (HA.out.1.2.kept (HK.out.trans KoB)) HOB.out.1 HOB.out.2.1 HR.out.1 HOB.out.2.2.1).mono ?_; rw [HOB.out.2.2.2.1, HOB.out.2.2.2.2, HC9.out]; rintro e wpB ⟨rfl, hkp⟩; have KpB := KoB.trans hkp; have jB0 := (Ha.out.kept KpB).c0; have jB1 := (Ha.out.kept KpB).c1; have jB2 := (Ha.out.kept KpB).c2; have jB3 := (Ha.out.kept KpB).c3))
        have HK := hid' (HK.out.trans KpB)
        have Ha := hid' (Ha.out.kept KpB)
        clear q0 q1 q2 q3 dB0 dB1 dB2 dB3 jB0 jB1 jB2 jB3 hko hkp HOB KoB KpB
        go_wp2
        go_ret
        exact ⟨rfl, HK.out⟩
  · clear hn
    rcases hc with rfl | rfl
    · go_wp2
      go_ret
      exact ⟨rfl, HK.out⟩
    · go_wp2
      go_ret
      exact ⟨rfl, HK.out⟩

end F
end Go.Proofs.Ytbingbnndmmjbaa
