/- shuntref02.Faults: what a list of fractions is refused for. What RatOrder and RatRounds need: lists of three, Same of what differs, the sums' widths and signs. The walk of RatOrder. -/
import Derived.Test.YtbingbnndmmjbaaFfault
import Derived.Test.YtbingbnndmmjbaaFawk
import Derived.Test.YtbingbnndmmjbaaGao
import Derived.Test.YtbingbnndmmjbaaGap
import Derived.Test.YtbingbnndmmjbaaGae
namespace Go.Proofs.Ytbingbnndmmjbaa
open Go.RowKit
namespace F

set_option maxHeartbeats 4000000 in
theorem Faults_any (ao : Option Addr) (b off N cap : Nat) (w : World) (m n : Nat → Bool) (aa ad : Nat → Option Addr) (ka ca kd cd : Nat → Nat) (a d : Nat → List Nat) (hao : 0 < N → ao = some ⟨b, off, none⟩) (hN : N ≤ 1000000) (H : RatAll w b off N m n aa ad ka ca kd cd a d) :
    Calls Try.prog 7 #[.slice ao N cap] w fun e w' => Kept w w' ∧ ∃ c : Int, e = .returned (.int .i64 c) ∧ ((c = 0 ∧ ∀ i, i < N → RatR (m i) (n i) (a i) (d i)) ∨ ((c = 10 ∨ c = 20) ∧ ∃ i, i < N ∧ ¬ RatR (m i) (n i) (a i) (d i))) := by
  have HH : Hid (RatAll w b off N m n aa ad ka ca kd cd a d ∧ (0 < N → ao = some ⟨b, off, none⟩)) := ⟨H, hao⟩
  clear H hao
  go_enter Try.func7, Try.ntmps7
  go_wp2_with fail
  go_loopw [3, 4] (fun ve vi wr => ∃ (k : Nat) (c : Int), k ≤ N ∧ vi = .int .i64 (k : Int) ∧ ve = .int .i64 c ∧ Hid (Kept w wr ∧ ((c = 0 ∧ ∀ i, i < k → RatR (m i) (n i) (a i) (d i)) ∨ (c = 20 ∧ ∃ i, i < k ∧ ¬ RatR (m i) (n i) (a i) (d i))))) (fun _ vi _ => N - (intOf vi).toNat)
  case atStart => exact ⟨0, 0, Nat.zero_le _, rfl, rfl, Kept.refl w, .inl ⟨rfl, fun i hi => by omega⟩⟩
  case round =>
    obtain ⟨k, c, hk, rfl, rfl, HK⟩ := hrel
    by_cases hlt : k < N
    · obtain ⟨⟨h0, h1, h2, h3⟩, h4⟩ := HH.out.1 k hlt
      obtain rfl := HH.out.2 (by omega)
      have h0 := cell_kept HK.out.1 h0
      have h1 := cell_kept HK.out.1 h1
      have h2 := cell_kept HK.out.1 h2
      have h3 := cell_kept HK.out.1 h3
      have H4 := hid' h4
      clear h4
      go_wp2_with fail
      refine (Fault_any (m k) (n k) (aa k) (ad k) (ka k) (ca k) (kd k) (cd k) (a k) (d k) _ (H4.out.1.kept HK.out.1) (H4.out.2.1.kept HK.out.1) H4.out.2.2.1 H4.out.2.2.2).mono ?_
      rintro e w1 ⟨hk1, f, rfl, hf⟩
      have HK1 : Hid (Kept w w1) := HK.out.1.trans hk1
      clear hk1 h0 h1 h2 h3
      rcases hf with ⟨rfl, hf⟩ | ⟨rfl, hf⟩ | ⟨rfl, hf⟩
      · have HF := hid' hf
        clear hf
        go_wp2
        go_ret
        exact ⟨HK1.out, 10, rfl, .inr ⟨.inl rfl, k, hlt, fun h => HF.out ⟨h.ra, h.rd⟩⟩⟩
      · have HF := hid' hf
        clear hf
        go_wp2_with fail
        go_roundw
        case rel => exact ⟨k + 1, 20, by omega, by go_num, rfl, HK1.out, .inr ⟨rfl, k, by omega, HF.out.2.2⟩⟩
        case measure => simp [intOf]; omega
      · have HF := hid' hf
        clear hf
        go_wp2_with fail
        go_roundw
        case rel => exact ⟨k + 1, c, by omega, by go_num, rfl, HK1.out, HK.out.2.imp (fun h => ⟨h.1, fun i hi => if e : i = k then by rw [e]; exact HF.out else h.2 i (by omega)⟩) (fun h => ⟨h.1, h.2.imp fun i hi => ⟨by omega, hi.2⟩⟩)⟩
        case measure => simp [intOf]; omega
    · go_wp2
      go_ret
      refine ⟨HK.out.1, c, rfl, HK.out.2.imp (fun h => ⟨h.1, fun i hi => h.2 i (by omega)⟩) (fun h => ⟨.inr h.1, h.2.imp fun i hi => ⟨by omega, hi.2⟩⟩)⟩

end F
end Go.Proofs.Ytbingbnndmmjbaa

namespace Go.Proofs.Ytbingbnndmmjbaa
open Go.RowKit
namespace F

def three {α : Type} (x y z : α) (i : Nat) : α := if i = 0 then x else if i = 1 then y else z

theorem RatAll.three {w : World} {b : Nat} {m n p q r s : Bool} {a1 a2 b1 b2 d1 d2 : Option Addr} {k1 c1 k2 c2 k3 c3 k4 c4 k5 c5 k6 c6 : Nat} {an ad bn bd cn cd : List Nat}
    (h : ∀ o v, (#[Value.bool m, .slice a1 k1 c1, .bool n, .slice a2 k2 c2, .bool p, .slice b1 k3 c3, .bool q, .slice b2 k4 c4, .bool r, .slice d1 k5 c5, .bool s, .slice d2 k6 c6])[o]? = some v → w.cell? ⟨b, o, none⟩ = some v)
    (s1 : Sl w (.slice a1 k1 c1) an) (s2 : Sl w (.slice a2 k2 c2) ad) (s3 : Sl w (.slice b1 k3 c3) bn) (s4 : Sl w (.slice b2 k4 c4) bd) (s5 : Sl w (.slice d1 k5 c5) cn) (s6 : Sl w (.slice d2 k6 c6) cd)
    (l1 : an.length ≤ 9223372036854775807) (l2 : ad.length ≤ 9223372036854775807) (l3 : bn.length ≤ 9223372036854775807) (l4 : bd.length ≤ 9223372036854775807) (l5 : cn.length ≤ 9223372036854775807) (l6 : cd.length ≤ 9223372036854775807) :
    RatAll w b 0 3 (F.three m p r) (F.three n q s) (F.three a1 b1 d1) (F.three a2 b2 d2) (F.three k1 k3 k5) (F.three c1 c3 c5) (F.three k2 k4 k6) (F.three c2 c4 c6) (F.three an bn cn) (F.three ad bd cd) := by
  intro i hi
  match i, hi with
  | 0, _ => exact ⟨⟨h 0 _ rfl, h 1 _ rfl, h 2 _ rfl, h 3 _ rfl⟩, s1, s2, l1, l2⟩
  | 1, _ => exact ⟨⟨h 4 _ rfl, h 5 _ rfl, h 6 _ rfl, h 7 _ rfl⟩, s3, s4, l3, l4⟩
  | 2, _ => exact ⟨⟨h 8 _ rfl, h 9 _ rfl, h 10 _ rfl, h 11 _ rfl⟩, s5, s6, l5, l6⟩

set_option maxHeartbeats 2000000 in
theorem same_f (m n p q : Bool) (va vb vc vd : Value) (a b c d : List Nat) (w : World) (ha : Sl w va a) (hb : Sl w vb b) (hc : Sl w vc c) (hd : Sl w vd d) (hla : a.length ≤ 1000) (hlb : b.length ≤ 1000) (hlc : c.length ≤ 1000) (hld : d.length ≤ 1000) (hn : ¬ ((m = p ∧ a = c) ∧ (n = q ∧ b = d))) :
    Calls Try.prog 39 #[.agg #[.bool m, va, .bool n, vb], .agg #[.bool p, vc, .bool q, vd]] w fun e w' => e = .returned (.bool false) ∧ Kept w w' := by
  have HA : Hid (Sl w va a ∧ Sl w vb b ∧ Sl w vc c ∧ Sl w vd d ∧ a.length ≤ 1000 ∧ b.length ≤ 1000 ∧ c.length ≤ 1000 ∧ d.length ≤ 1000) := ⟨ha, hb, hc, hd, hla, hlb, hlc, hld⟩
  clear ha hb hc hd hla hlb hlc hld
  have K2 : ∀ x y, Kept w ((w.alloc x).alloc y) := fun x y => ((Kept.refl w).alloc x).alloc y
  by_cases h1 : m = p ∧ a = c
  · have H2 : Hid (¬ (n = q ∧ b = d)) := fun h => hn ⟨h1, h⟩
    have H1 := hid' h1
    clear hn h1
    go_enter Try.func39, Try.ntmps39
    go_wp2_with fail
    refine (same_yes m p va vc a c _ (HA.out.1.kept (K2 _ _)) (HA.out.2.2.1.kept (K2 _ _)) (by have := HA.out.2.2.2.2.1; omega) H1.out.1 H1.out.2).mono ?_
    rintro e w1 ⟨rfl, hk⟩
    have HK : Hid (Kept w w1) := (K2 _ _).trans hk
    have c2 : w1.cell? ⟨w.heap.size, 2, none⟩ = some (.bool n) := by rw [hk.cells _ _ (by simp; omega)]; simp
    have c3 : w1.cell? ⟨w.heap.size, 3, none⟩ = some vb := by rw [hk.cells _ _ (by simp; omega)]; simp
    have d2 : w1.cell? ⟨w.heap.size + 1, 2, none⟩ = some (.bool q) := by rw [hk.cells _ _ (by simp)]; simp
    have d3 : w1.cell? ⟨w.heap.size + 1, 3, none⟩ = some vd := by rw [hk.cells _ _ (by simp)]; simp
    clear hk K2
    go_wp2_with fail
    refine (same_no n q vb vd b d _ (HA.out.2.1.kept HK.out) (HA.out.2.2.2.1.kept HK.out) (by have := HA.out.2.2.2.2.2.1; omega) (by have := HA.out.2.2.2.2.2.2.2; omega) H2.out).mono ?_
    rintro e w2 ⟨rfl, hk2⟩
    have HK2 : Hid (Kept w w2) := HK.out.trans hk2
    clear hk2
    go_wp2
    go_ret
    exact ⟨rfl, HK2.out⟩
  · have H1 := hid' h1
    clear hn h1
    go_enter Try.func39, Try.ntmps39
    go_wp2_with fail
    refine (same_no m p va vc a c _ (HA.out.1.kept (K2 _ _)) (HA.out.2.2.1.kept (K2 _ _)) (by have := HA.out.2.2.2.2.1; omega) (by have := HA.out.2.2.2.2.2.2.1; omega) H1.out).mono ?_
    rintro e w1 ⟨rfl, hk⟩
    have HK : Hid (Kept w w1) := (K2 _ _).trans hk
    clear hk K2
    go_wp2
    go_ret
    exact ⟨rfl, HK.out⟩

set_option maxHeartbeats 1000000 in
theorem lsame_f (m n p q : Bool) (va vb vc vd : Value) (a b c d : List Nat) (w : World) (ha : Sl w va a) (hb : Sl w vb b) (hc : Sl w vc c) (hd : Sl w vd d) (hla : a.length ≤ 1000) (hlb : b.length ≤ 1000) (hlc : c.length ≤ 1000) (hld : d.length ≤ 1000) (hn : ¬ ((m = p ∧ a = c) ∧ (n = q ∧ b = d))) :
    Calls Try.prog 16 #[.agg #[.bool m, va, .bool n, vb], .agg #[.bool p, vc, .bool q, vd]] w fun e w' => e = .returned (.bool false) ∧ Kept w w' := by
  have HA : Hid (Sl w va a ∧ Sl w vb b ∧ Sl w vc c ∧ Sl w vd d ∧ a.length ≤ 1000 ∧ b.length ≤ 1000 ∧ c.length ≤ 1000 ∧ d.length ≤ 1000 ∧ ¬ ((m = p ∧ a = c) ∧ (n = q ∧ b = d))) := ⟨ha, hb, hc, hd, hla, hlb, hlc, hld, hn⟩
  clear ha hb hc hd hla hlb hlc hld hn
  have K2 : ∀ x y, Kept w ((w.alloc x).alloc y) := fun x y => ((Kept.refl w).alloc x).alloc y
  go_enter Try.func16, Try.ntmps16
  go_wp2_with fail
  obtain ⟨g1, g2, g3, g4, g5, g6, g7, g8, g9⟩ := HA.out
  refine (same_f m n p q va vb vc vd a b c d _ (g1.kept (K2 _ _)) (g2.kept (K2 _ _)) (g3.kept (K2 _ _)) (g4.kept (K2 _ _)) g5 g6 g7 g8 g9).mono ?_
  rintro e w1 ⟨rfl, hk⟩
  have HK : Hid (Kept w w1) := (K2 _ _).trans hk
  clear hk K2 g1 g2 g3 g4 g5 g6 g7 g8 g9
  go_wp2
  go_ret
  exact ⟨rfl, HK.out⟩

/-- The sum's denominator divides the product, its numerator the sum across. -/
theorem IsSum.le {x x' N : Int} {y y' D : Nat} (h : IsSum x y x' y' N D) (hy : 0 < y) (hy' : 0 < y') : D ≤ y * y' ∧ N.natAbs ≤ (x * y' + x' * y).natAbs := by
  have e := congrArg Int.natAbs h.eq
  rw [Int.natAbs_mul, Int.natAbs_mul, Int.natAbs_mul, Int.natAbs_natCast, Int.natAbs_natCast, Int.natAbs_natCast] at e
  have p := Nat.mul_pos hy hy'
  constructor
  · exact Nat.le_of_dvd p (h.low.symm.dvd_of_dvd_mul_left (by rw [e]; exact Nat.dvd_mul_left _ _))
  · have hd : N.natAbs ∣ (x * y' + x' * y).natAbs := h.low.dvd_of_dvd_mul_right (by rw [← e]; exact Nat.dvd_mul_right _ _)
    rcases Nat.eq_zero_or_pos (x * y' + x' * y).natAbs with h0 | h0
    · rw [h0, Nat.zero_mul] at e
      rcases Nat.mul_eq_zero.1 e with h1 | h1
      · omega
      · omega
    · exact Nat.le_of_dvd h0 hd

theorem IsSum.sign {x x' N : Int} {y y' D : Nat} (h : IsSum x y x' y' N D) (hy : 0 < y) (hy' : 0 < y') : (N < 0 ↔ x * y' + x' * y < 0) ∧ (N = 0 ↔ x * y' + x' * y = 0) := by
  have e := h.eq
  have p : (0 : Int) < (y : Int) * y' := Int.mul_pos (by omega) (by omega)
  have q : (0 : Int) < (D : Int) := by have := h.pos; omega
  generalize x * (y' : Int) + x' * y = S at *
  generalize (y : Int) * y' = P at *
  generalize (D : Int) = Q at *
  have a1 : N < 0 → N * P < 0 := fun h => Int.mul_neg_of_neg_of_pos h p
  have a2 : 0 < N → 0 < N * P := fun h => Int.mul_pos h p
  have b1 : S < 0 → S * Q < 0 := fun h => Int.mul_neg_of_neg_of_pos h q
  have b2 : 0 < S → 0 < S * Q := fun h => Int.mul_pos h q
  have a3 : N = 0 → N * P = 0 := fun h => by rw [h]; simp
  have b3 : S = 0 → S * Q = 0 := fun h => by rw [h]; simp
  rw [e] at a1 a2 a3
  constructor <;> constructor <;> intro hh
  · rcases Int.lt_trichotomy S 0 with k | k | k
    · exact k
    · have := a1 hh; have := b3 k; omega
    · have := a1 hh; have := b2 k; omega
  · rcases Int.lt_trichotomy N 0 with k | k | k
    · exact k
    · have := a3 k; have := b1 hh; omega
    · have := a2 k; have := b1 hh; omega
  · rcases Int.lt_trichotomy S 0 with k | k | k
    · have := a3 hh; have := b1 k; omega
    · exact k
    · have := a3 hh; have := b2 k; omega
  · rcases Int.lt_trichotomy N 0 with k | k | k
    · have := a1 k; have := b3 hh; omega
    · exact k
    · have := a2 k; have := b3 hh; omega

theorem isgn_scale {P Q A B K L : Int} (hK : 0 < K) (hL : 0 < L) (h : (P - Q) * K = (A - B) * L) : isgn P Q = isgn A B := by
  have a1 : P - Q < 0 → (P - Q) * K < 0 := fun h => Int.mul_neg_of_neg_of_pos h hK
  have a2 : 0 < P - Q → 0 < (P - Q) * K := fun h => Int.mul_pos h hK
  have b1 : A - B < 0 → (A - B) * L < 0 := fun h => Int.mul_neg_of_neg_of_pos h hL
  have b2 : 0 < A - B → 0 < (A - B) * L := fun h => Int.mul_pos h hL
  have a3 : P - Q = 0 → (P - Q) * K = 0 := fun h => by rw [h]; simp
  have b3 : A - B = 0 → (A - B) * L = 0 := fun h => by rw [h]; simp
  rw [h] at a1 a2 a3
  generalize (A - B) * L = Z at *
  unfold isgn
  rcases Int.lt_trichotomy (P - Q) 0 with k | k | k <;> rcases Int.lt_trichotomy (A - B) 0 with k' | k' | k'
  all_goals first
    | (exfalso; have := a1; have := a2; have := a3; have := b1; have := b2; have := b3; omega)
    | (split <;> (try split) <;> (try split) <;> (try split) <;> omega)

/-- Both with the same added. -/
theorem order_kept {x x' x'' N N' : Int} {y y' y'' D D' : Nat} (h : IsSum x y x'' y'' N D) (h' : IsSum x' y' x'' y'' N' D') (hy : 0 < y) (hy' : 0 < y') (hy'' : 0 < y'') : isgn (N * D') (N' * D) = isgn (x * y') (x' * y) := by
  have e := h.eq
  have e' := h'.eq
  have q1 : (0 : Int) < D := by have := h.pos; omega
  have q2 : (0 : Int) < D' := by have := h'.pos; omega
  have p1 : (0 : Int) < y := by omega
  have p2 : (0 : Int) < y' := by omega
  have p3 : (0 : Int) < y'' := by omega
  refine isgn_scale (K := (y : Int) * y'' * (y' * y'')) (L := (D : Int) * D' * (y'' * y'')) (Int.mul_pos (Int.mul_pos p1 p3) (Int.mul_pos p2 p3)) (Int.mul_pos (Int.mul_pos q1 q2) (Int.mul_pos p3 p3)) ?_
  have f1 : N * D' * (y * y'' * (y' * y'')) = (x * y'' + x'' * y) * D * D' * (y' * y'') := by
    calc N * D' * (y * y'' * (y' * y'')) = (N * (y * y'')) * D' * (y' * y'') := by simp only [Int.mul_assoc, Int.mul_comm, Int.mul_left_comm]
      _ = _ := by rw [e]
  have f2 : N' * D * (y * y'' * (y' * y'')) = (x' * y'' + x'' * y') * D' * D * (y * y'') := by
    calc N' * D * (y * y'' * (y' * y'')) = (N' * (y' * y'')) * D * (y * y'') := by simp only [Int.mul_assoc, Int.mul_comm, Int.mul_left_comm]
      _ = _ := by rw [e']
  rw [Int.sub_mul, f1, f2]
  clear f1 f2 e e' q1 q2 p1 p2 p3 h h' hy hy' hy''
  grind

theorem val_len_lt {l : List Nat} (hb : M.Bd l) {n : Nat} (h : l.length ≤ n) : M.val l < 4294967296 ^ n := Nat.lt_of_lt_of_le (M.val_lt hb) (Nat.pow_le_pow_right (by decide) h)

/-- Two fractions of few limbs: their sum isn't too wide. -/
theorem sum_fits {m n : Bool} {an ad bn bd : List Nat} {N : Int} {D : Nat} (h : IsSum (M.int m an) (M.val ad) (M.int n bn) (M.val bd) N D) (ba : M.Bd an) (bad : M.Bd ad) (bb : M.Bd bn) (bbd : M.Bd bd) (hA : 0 < M.val ad) (hB : 0 < M.val bd) (hl : an.length + ad.length + bn.length + bd.length ≤ 60) : N.natAbs < M.W72 ∧ D < M.W72 := by
  obtain ⟨h1, h2⟩ := h.le hA hB
  have p : ∀ {x y : List Nat}, M.Bd x → M.Bd y → x.length + y.length ≤ 60 → M.val x * M.val y ≤ 4294967296 ^ 60 := by
    intro x y hx hy hh
    have h1 := Nat.mul_le_mul (Nat.le_of_lt (M.val_lt hx)) (Nat.le_of_lt (M.val_lt hy))
    rw [← Nat.pow_add] at h1
    exact Nat.le_trans h1 (Nat.pow_le_pow_right (by decide) hh)
  have q1 := p bad bbd (by omega)
  have q2 := p ba bbd (by omega)
  have q3 := p bb bad (by omega)
  have h3 : 2 * 4294967296 ^ 60 < M.W72 := by unfold M.W72; decide
  have e1 : (M.int m an * (M.val bd : Int)).natAbs = M.val an * M.val bd := by rw [Int.natAbs_mul, M.natAbs_int, Int.natAbs_natCast]
  have e2 : (M.int n bn * (M.val ad : Int)).natAbs = M.val bn * M.val ad := by rw [Int.natAbs_mul, M.natAbs_int, Int.natAbs_natCast]
  have h4 := Int.natAbs_add_le (M.int m an * (M.val bd : Int)) (M.int n bn * (M.val ad : Int))
  generalize 4294967296 ^ 60 = B at *
  omega

/-- One value, one fraction. -/
theorem lowest_one {m n p q : Bool} {an ad bn bd : List Nat} (hA : RatR m n an ad) (hB : RatR p q bn bd) (ba : M.Bd an) (bad : M.Bd ad) (bb : M.Bd bn) (bbd : M.Bd bd) : M.int m an * M.val bd = M.int p bn * M.val ad ↔ ((m = p ∧ an = bn) ∧ (n = q ∧ ad = bd)) := by
  constructor
  · intro e
    have e1 := congrArg Int.natAbs e
    rw [Int.natAbs_mul, Int.natAbs_mul, M.natAbs_int, M.natAbs_int, Int.natAbs_natCast, Int.natAbs_natCast] at e1
    have c1 : Nat.Coprime (M.val an) (M.val ad) := hA.low
    have c2 : Nat.Coprime (M.val bn) (M.val bd) := hB.low
    have d1 : M.val ad ∣ M.val bd := c1.symm.dvd_of_dvd_mul_left (by rw [e1]; exact Nat.dvd_mul_left _ _)
    have d2 : M.val bd ∣ M.val ad := c2.symm.dvd_of_dvd_mul_left (by rw [← e1]; exact Nat.dvd_mul_left _ _)
    have hv : M.val ad = M.val bd := Nat.dvd_antisymm d1 d2
    have hp := hA.vpos
    rw [hv] at e
    have hx : M.int m an = M.int p bn := Int.eq_of_mul_eq_mul_right (by have := hB.vpos; omega) e
    exact ⟨M.int_inj (hA.ra.right ba) (hB.ra.right bb) hx, M.int_inj (hA.rd.right bad) (hB.rd.right bbd) (by rw [hA.val, hB.val, hv])⟩
  · rintro ⟨⟨rfl, rfl⟩, _, rfl⟩
    rfl

end F
end Go.Proofs.Ytbingbnndmmjbaa

namespace Go.Proofs.Ytbingbnndmmjbaa
open Go.RowKit
namespace F

theorem sgn_t {s : Bool} {l : List Nat} (h : M.Right s l) (hn : M.int s l < 0) : s = true := (neg_len (R.of_right h) hn).1
theorem sgn_ff {s : Bool} {l : List Nat} (h : M.Right s l) (hn : ¬ M.int s l < 0) : s = false := by
  cases s
  · rfl
  · exact absurd (int_neg_lt (R.of_right h)) hn
theorem sgn_z {s : Bool} {l : List Nat} (h : M.Right s l) (hz : M.int s l = 0) : s = false ∧ l = [] :=
  M.int_inj h (n := false) (b := []) ⟨M.Bd_nil, by simp [M.Tr], by simp, fun _ => rfl⟩ (by rw [hz]; simp [M.int, M.val])
theorem len_ne {s : Bool} {l : List Nat} (h : M.int s l ≠ 0) : l.length ≠ 0 := by
  intro e
  have : l = [] := List.length_eq_zero_iff.1 e
  subst this
  apply h
  cases s <;> simp [M.int, M.val]
theorem dif_neg {a b : Int} {y y' : Nat} (h : isgn (a * y') (b * y) = -1) : a * y' + -b * y < 0 := by
  unfold isgn at h
  rw [Int.neg_mul]
  split at h
  · omega
  · split at h <;> omega
theorem dif_zero {a b : Int} {y y' : Nat} (h : isgn (a * y') (b * y) = 0) : a * y' + -b * y = 0 := by
  unfold isgn at h
  rw [Int.neg_mul]
  split at h
  · omega
  · split at h <;> omega
theorem dif_pos' {a b : Int} {y y' : Nat} (h : isgn (a * y') (b * y) = 1) : 0 < a * y' + -b * y := by
  unfold isgn at h
  rw [Int.neg_mul]
  split at h
  · omega
  · split at h <;> omega
theorem eq_cross {A B : Int} (h : isgn A B = 0) : A = B := by
  unfold isgn at h
  split at h
  · omega
  · split at h <;> omega
theorem ne_cross {A B : Int} {k : Int} (h : isgn A B = k) (hk : k ≠ 0) (e : A = B) : False := by
  rw [e] at h
  unfold isgn at h
  simp at h
  omega
theorem sub_fits {m n : Bool} {an ad bn bd : List Nat} {N : Int} {D : Nat} (h : IsSum (M.int m an) (M.val ad) (-M.int n bn) (M.val bd) N D) (ba : M.Bd an) (bad : M.Bd ad) (bb : M.Bd bn) (bbd : M.Bd bd) (hA : 0 < M.val ad) (hB : 0 < M.val bd) (hl : an.length + ad.length + bn.length + bd.length ≤ 60) : N.natAbs < M.W72 ∧ D < M.W72 :=
  sum_fits (n := !n) (by rw [show M.int (!n) bn = -M.int n bn by cases n <;> simp [M.int]]; exact h) ba bad bb bbd hA hB hl

set_option maxHeartbeats 8000000 in
theorem rord_lt (m n p q r s : Bool) (a1 a2 b1 b2 d1 d2 : Option Addr) (k1 c1 k2 c2 k3 c3 k4 c4 k5 c5 k6 c6 : Nat) (an ad bn bd cn cd : List Nat) (w : World) (s1 : Sl w (.slice a1 k1 c1) an) (s2 : Sl w (.slice a2 k2 c2) ad) (s3 : Sl w (.slice b1 k3 c3) bn) (s4 : Sl w (.slice b2 k4 c4) bd) (s5 : Sl w (.slice d1 k5 c5) cn) (s6 : Sl w (.slice d2 k6 c6) cd) (l1 : an.length ≤ 9223372036854775807) (l2 : ad.length ≤ 9223372036854775807) (l3 : bn.length ≤ 9223372036854775807) (l4 : bd.length ≤ 9223372036854775807) (l5 : cn.length ≤ 9223372036854775807) (l6 : cd.length ≤ 9223372036854775807) (hkk : isgn (M.int m an * M.val bd) (M.int p bn * M.val ad) = (-1)) :
    Calls Try.prog 5 #[.agg #[.bool m, .slice a1 k1 c1, .bool n, .slice a2 k2 c2], .agg #[.bool p, .slice b1 k3 c3, .bool q, .slice b2 k4 c4], .agg #[.bool r, .slice d1 k5 c5, .bool s, .slice d2 k6 c6]] w fun e w' => e = .returned (.bool true) ∧ Kept w w' := by
  have HKK := hid' hkk
  clear hkk
  have HA : Hid ((Sl w (.slice a1 k1 c1) an ∧ Sl w (.slice a2 k2 c2) ad) ∧ (Sl w (.slice b1 k3 c3) bn ∧ Sl w (.slice b2 k4 c4) bd) ∧ (Sl w (.slice d1 k5 c5) cn ∧ Sl w (.slice d2 k6 c6) cd)) := ⟨⟨s1, s2⟩, ⟨s3, s4⟩, s5, s6⟩
  have HL : Hid ((an.length ≤ 9223372036854775807 ∧ ad.length ≤ 9223372036854775807) ∧ (bn.length ≤ 9223372036854775807 ∧ bd.length ≤ 9223372036854775807) ∧ (cn.length ≤ 9223372036854775807 ∧ cd.length ≤ 9223372036854775807)) := ⟨⟨l1, l2⟩, ⟨l3, l4⟩, l5, l6⟩
  have HE : Hid (k1 = an.length ∧ k2 = ad.length ∧ k3 = bn.length ∧ k4 = bd.length ∧ k5 = cn.length ∧ k6 = cd.length) := ⟨s1.len, s2.len, s3.len, s4.len, s5.len, s6.len⟩
  clear s1 s2 s3 s4 s5 s6 l1 l2 l3 l4 l5 l6
  go_enter Try.func5, Try.ntmps5
  go_wp2_with fail
  refine (awake_yes _).mono ?_
  rintro e w1 ⟨rfl, hk⟩
  have Ha := hid' ((RRow.alloc w (.bool m) (.slice a1 k1 c1) (.bool n) (.slice a2 k2 c2)).kept ((((Kept.refl _).alloc _).alloc _).trans hk))
  have Hb0 := (RRow.alloc (w.alloc (.cells #[.bool m, .slice a1 k1 c1, .bool n, .slice a2 k2 c2] 26)) (.bool p) (.slice b1 k3 c3) (.bool q) (.slice b2 k4 c4)).kept (((Kept.refl _).alloc _).trans hk)
  have Hc0 := (RRow.alloc ((w.alloc (.cells #[.bool m, .slice a1 k1 c1, .bool n, .slice a2 k2 c2] 26)).alloc (.cells #[.bool p, .slice b1 k3 c3, .bool q, .slice b2 k4 c4] 26)) (.bool r) (.slice d1 k5 c5) (.bool s) (.slice d2 k6 c6)).kept hk
  simp only [World.size_alloc] at Hb0 Hc0
  have Hb := hid' Hb0
  have Hc := hid' Hc0
  have HK := hid' (((((Kept.refl w).alloc _).alloc _).alloc _).trans hk)
  clear hk Hb0 Hc0
  have f0 := Ha.out.c0
  have f1 := Ha.out.c1
  have f2 := Ha.out.c2
  have f3 := Ha.out.c3
  have f4 := Hb.out.c0
  have f5 := Hb.out.c1
  have f6 := Hb.out.c2
  have f7 := Hb.out.c3
  have f8 := Hc.out.c0
  have f9 := Hc.out.c1
  have f10 := Hc.out.c2
  have f11 := Hc.out.c3
  go_wp2_with fail
  refine (Faults_any _ w1.heap.size 0 3 3 _ _ _ _ _ _ _ _ _ _ _ (fun _ => rfl) (by omega) (RatAll.three (m := m) (n := n) (p := p) (q := q) (r := r) (s := s) (a1 := a1) (a2 := a2) (b1 := b1) (b2 := b2) (d1 := d1) (d2 := d2) (k1 := k1) (c1 := c1) (k2 := k2) (c2 := c2) (k3 := k3) (c3 := c3) (k4 := k4) (c4 := c4) (k5 := k5) (c5 := c5) (k6 := k6) (c6 := c6) (fun o v h => (World.cell?_alloc_at _ _ _ _ rfl).trans h) (HA.out.1.1.kept (HK.out.alloc _)) (HA.out.1.2.kept (HK.out.alloc _)) (HA.out.2.1.1.kept (HK.out.alloc _)) (HA.out.2.1.2.kept (HK.out.alloc _)) (HA.out.2.2.1.kept (HK.out.alloc _)) (HA.out.2.2.2.kept (HK.out.alloc _)) HL.out.1.1 HL.out.1.2 HL.out.2.1.1 HL.out.2.1.2 HL.out.2.2.1 HL.out.2.2.2)).mono ?_
  rintro e w2 ⟨hk, c, rfl, hc⟩
  clear f0 f1 f2 f3 f4 f5 f6 f7 f8 f9 f10 f11
  have Ha := hid' (Ha.out.kept (((Kept.refl w1).alloc _).trans hk))
  have Hb := hid' (Hb.out.kept (((Kept.refl w1).alloc _).trans hk))
  have Hc := hid' (Hc.out.kept (((Kept.refl w1).alloc _).trans hk))
  have HK := hid' (HK.out.trans (((Kept.refl w1).alloc _).trans hk))
  clear hk
  rcases hc with ⟨rfl, hc⟩ | ⟨hc, hn⟩
  · have HR : Hid (RatR m n an ad ∧ RatR p q bn bd ∧ RatR r s cn cd) := ⟨hc 0 (by omega), hc 1 (by omega), hc 2 (by omega)⟩
    clear hc
    have b1' : k1 ≤ 72 := by rw [HE.out.1]; exact HR.out.1.ra.1
    have b2' : k2 ≤ 72 := by rw [HE.out.2.1]; exact HR.out.1.rd.1
    have b3' : k3 ≤ 72 := by rw [HE.out.2.2.1]; exact HR.out.2.1.ra.1
    have b4' : k4 ≤ 72 := by rw [HE.out.2.2.2.1]; exact HR.out.2.1.rd.1
    have b5' : k5 ≤ 72 := by rw [HE.out.2.2.2.2.1]; exact HR.out.2.2.ra.1
    have b6' : k6 ≤ 72 := by rw [HE.out.2.2.2.2.2]; exact HR.out.2.2.rd.1
    have f100 := Ha.out.c0
    have f101 := Ha.out.c1
    have f102 := Ha.out.c2
    have f103 := Ha.out.c3
    have f104 := Hb.out.c0
    have f105 := Hb.out.c1
    have f106 := Hb.out.c2
    have f107 := Hb.out.c3
    have f108 := Hc.out.c0
    have f109 := Hc.out.c1
    have f110 := Hc.out.c2
    have f111 := Hc.out.c3
    by_cases hs : 24 < k1 + k2 + k3 + k4 + k5 + k6
    · go_wp2
      go_ret
      exact ⟨rfl, HK.out⟩
    have h24 : k1 + k2 + k3 + k4 + k5 + k6 ≤ 24 := by omega
    have HS : Hid (an.length + ad.length + bn.length + bd.length ≤ 60 ∧ an.length + ad.length + cn.length + cd.length ≤ 60 ∧ bn.length + bd.length + cn.length + cd.length ≤ 60) := by have h := HE.out; show _ ∧ _; omega
    clear hs
    clear f100 f101 f102 f103 f104 f105 f106 f107 f108 f109 f110 f111
    have f200 := Ha.out.c0
    have f201 := Ha.out.c1
    have f202 := Ha.out.c2
    have f203 := Ha.out.c3
    have f204 := Hb.out.c0
    have f205 := Hb.out.c1
    have f206 := Hb.out.c2
    have f207 := Hb.out.c3
    have f208 := Hc.out.c0
    have f209 := Hc.out.c1
    have f210 := Hc.out.c2
    have f211 := Hc.out.c3
    go_wp2_with fail
    refine (Cmp_ok m n p q a1 a2 b1 b2 k1 c1 k2 c2 k3 c3 k4 c4 an ad bn bd _ (HA.out.1.1.kept (HK.out.trans (Kept.refl w2))) (HA.out.1.2.kept (HK.out.trans (Kept.refl w2))) (HA.out.2.1.1.kept (HK.out.trans (Kept.refl w2))) (HA.out.2.1.2.kept (HK.out.trans (Kept.refl w2))) HR.out.1 HR.out.2.1).mono ?_
    rw [HKK.out]
    rintro e w3 ⟨rfl, hk⟩
    clear f200 f201 f202 f203 f204 f205 f206 f207 f208 f209 f210 f211
    have Ha := hid' (Ha.out.kept ((Kept.refl w2).trans hk))
    have Hb := hid' (Hb.out.kept ((Kept.refl w2).trans hk))
    have Hc := hid' (Hc.out.kept ((Kept.refl w2).trans hk))
    have HK := hid' (HK.out.trans ((Kept.refl w2).trans hk))
    clear hk
    have f212 := Ha.out.c0
    have f213 := Ha.out.c1
    have f214 := Ha.out.c2
    have f215 := Ha.out.c3
    have f216 := Hb.out.c0
    have f217 := Hb.out.c1
    have f218 := Hb.out.c2
    have f219 := Hb.out.c3
    have f220 := Hc.out.c0
    have f221 := Hc.out.c1
    have f222 := Hc.out.c2
    have f223 := Hc.out.c3
    go_wp2_with fail
    refine (Sub_ok m n p q a1 a2 b1 b2 k1 c1 k2 c2 k3 c3 k4 c4 an ad bn bd _ (HA.out.1.1.kept (HK.out.trans (Kept.refl w3))) (HA.out.1.2.kept (HK.out.trans (Kept.refl w3))) (HA.out.2.1.1.kept (HK.out.trans (Kept.refl w3))) (HA.out.2.1.2.kept (HK.out.trans (Kept.refl w3))) HR.out.1 HR.out.2.1).mono ?_
    rintro e w4 ⟨hk, N4, D4, hS4, hR4⟩
    clear f212 f213 f214 f215 f216 f217 f218 f219 f220 f221 f222 f223
    have Ha := hid' (Ha.out.kept ((Kept.refl w3).trans hk))
    have Hb := hid' (Hb.out.kept ((Kept.refl w3).trans hk))
    have Hc := hid' (Hc.out.kept ((Kept.refl w3).trans hk))
    have HK := hid' (HK.out.trans ((Kept.refl w3).trans hk))
    obtain ⟨v4, rfl, s4, ao4, k4', c4', x4, t4, ap4, k4'', c4'', y4, rfl, n4, r4, i4, n4', r4', i4'⟩ := hR4.resolve_right (fun h => h.2 (sub_fits hS4 HA.out.1.1.bd HA.out.1.2.bd HA.out.2.1.1.bd HA.out.2.1.2.bd HR.out.1.vpos HR.out.2.1.vpos HS.out.1))
    have sg4 := hS4.sign HR.out.1.vpos HR.out.2.1.vpos
    have hl4 := n4.len
    obtain rfl : s4 = true := sgn_t r4 (by rw [i4]; exact sg4.1.2 (dif_neg HKK.out))
    have hk4 : ((k4' : Int) == 0) = false := by have := len_ne (s := true) (l := x4) (by rw [i4]; intro h; have := sg4.1.2 (dif_neg HKK.out); omega); simp; omega
    clear hS4 hR4 n4 r4 i4 n4' r4' i4' sg4 hl4
    clear hk
    have f224 := fun x => (Ha.out.kept ((Kept.refl w4).alloc x)).c0
    have f225 := fun x => (Ha.out.kept ((Kept.refl w4).alloc x)).c1
    have f226 := fun x => (Ha.out.kept ((Kept.refl w4).alloc x)).c2
    have f227 := fun x => (Ha.out.kept ((Kept.refl w4).alloc x)).c3
    have f228 := fun x => (Hb.out.kept ((Kept.refl w4).alloc x)).c0
    have f229 := fun x => (Hb.out.kept ((Kept.refl w4).alloc x)).c1
    have f230 := fun x => (Hb.out.kept ((Kept.refl w4).alloc x)).c2
    have f231 := fun x => (Hb.out.kept ((Kept.refl w4).alloc x)).c3
    have f232 := fun x => (Hc.out.kept ((Kept.refl w4).alloc x)).c0
    have f233 := fun x => (Hc.out.kept ((Kept.refl w4).alloc x)).c1
    have f234 := fun x => (Hc.out.kept ((Kept.refl w4).alloc x)).c2
    have f235 := fun x => (Hc.out.kept ((Kept.refl w4).alloc x)).c3
    go_wp2_with fail
    refine (Add_ok m n r s a1 a2 d1 d2 k1 c1 k2 c2 k5 c5 k6 c6 an ad cn cd _ (HA.out.1.1.kept (HK.out.trans ((Kept.refl w4).alloc _))) (HA.out.1.2.kept (HK.out.trans ((Kept.refl w4).alloc _))) (HA.out.2.2.1.kept (HK.out.trans ((Kept.refl w4).alloc _))) (HA.out.2.2.2.kept (HK.out.trans ((Kept.refl w4).alloc _))) HR.out.1 HR.out.2.2).mono ?_
    rintro e w5 ⟨hk, N5, D5, hS5, hR5⟩
    clear f224 f225 f226 f227 f228 f229 f230 f231 f232 f233 f234 f235
    have Hd := hid' ((RRow.alloc w4 (.bool true) (.slice ao4 k4' c4') (.bool t4) (.slice ap4 k4'' c4'')).kept hk)
    have Ha := hid' (Ha.out.kept (((Kept.refl w4).alloc _).trans hk))
    have Hb := hid' (Hb.out.kept (((Kept.refl w4).alloc _).trans hk))
    have Hc := hid' (Hc.out.kept (((Kept.refl w4).alloc _).trans hk))
    have HK := hid' (HK.out.trans (((Kept.refl w4).alloc _).trans hk))
    obtain ⟨v5, rfl, hq5⟩ := hR5.resolve_right (fun h => h.2 (sum_fits hS5 HA.out.1.1.bd HA.out.1.2.bd HA.out.2.2.1.bd HA.out.2.2.2.bd HR.out.1.vpos HR.out.2.2.vpos HS.out.2.1))
    obtain ⟨s5, ao5, k5', c5', x5, t5, ap5, k5'', c5'', y5, rfl, n5, r5, i5, n5', r5', i5', R5⟩ := hq5.right (by have := hS5.pos; omega) (by rw [Int.natAbs_natCast]; exact hS5.low)
    have H5 : Hid (Sl w5 (.slice ao5 k5' c5') x5 ∧ Sl w5 (.slice ap5 k5'' c5'') y5 ∧ RatR s5 t5 x5 y5 ∧ M.int s5 x5 = N5 ∧ M.val y5 = D5 ∧ IsSum (M.int m an) (M.val ad) (M.int r cn) (M.val cd) N5 D5) := ⟨n5.sl, n5'.sl, R5, i5, by have := R5.val; omega, hS5⟩
    clear hS5 hR5 hq5 n5 r5 i5 n5' r5' i5' R5
    clear hk
    have f236 := fun x => (Ha.out.kept ((Kept.refl w5).alloc x)).c0
    have f237 := fun x => (Ha.out.kept ((Kept.refl w5).alloc x)).c1
    have f238 := fun x => (Ha.out.kept ((Kept.refl w5).alloc x)).c2
    have f239 := fun x => (Ha.out.kept ((Kept.refl w5).alloc x)).c3
    have f240 := fun x => (Hb.out.kept ((Kept.refl w5).alloc x)).c0
    have f241 := fun x => (Hb.out.kept ((Kept.refl w5).alloc x)).c1
    have f242 := fun x => (Hb.out.kept ((Kept.refl w5).alloc x)).c2
    have f243 := fun x => (Hb.out.kept ((Kept.refl w5).alloc x)).c3
    have f244 := fun x => (Hc.out.kept ((Kept.refl w5).alloc x)).c0
    have f245 := fun x => (Hc.out.kept ((Kept.refl w5).alloc x)).c1
    have f246 := fun x => (Hc.out.kept ((Kept.refl w5).alloc x)).c2
    have f247 := fun x => (Hc.out.kept ((Kept.refl w5).alloc x)).c3
    have f248 := fun x => (Hd.out.kept ((Kept.refl w5).alloc x)).c0
    have f249 := fun x => (Hd.out.kept ((Kept.refl w5).alloc x)).c1
    have f250 := fun x => (Hd.out.kept ((Kept.refl w5).alloc x)).c2
    have f251 := fun x => (Hd.out.kept ((Kept.refl w5).alloc x)).c3
    go_wp2_with fail
    refine (Add_ok p q r s b1 b2 d1 d2 k3 c3 k4 c4 k5 c5 k6 c6 bn bd cn cd _ (HA.out.2.1.1.kept (HK.out.trans ((Kept.refl w5).alloc _))) (HA.out.2.1.2.kept (HK.out.trans ((Kept.refl w5).alloc _))) (HA.out.2.2.1.kept (HK.out.trans ((Kept.refl w5).alloc _))) (HA.out.2.2.2.kept (HK.out.trans ((Kept.refl w5).alloc _))) HR.out.2.1 HR.out.2.2).mono ?_
    rintro e w6 ⟨hk, N6, D6, hS6, hR6⟩
    clear f236 f237 f238 f239 f240 f241 f242 f243 f244 f245 f246 f247 f248 f249 f250 f251
    have Hx := hid' ((RRow.alloc w5 (.bool s5) (.slice ao5 k5' c5') (.bool t5) (.slice ap5 k5'' c5'')).kept hk)
    have Ha := hid' (Ha.out.kept (((Kept.refl w5).alloc _).trans hk))
    have Hb := hid' (Hb.out.kept (((Kept.refl w5).alloc _).trans hk))
    have Hc := hid' (Hc.out.kept (((Kept.refl w5).alloc _).trans hk))
    have Hd := hid' (Hd.out.kept (((Kept.refl w5).alloc _).trans hk))
    have HK := hid' (HK.out.trans (((Kept.refl w5).alloc _).trans hk))
    have H5 := hid' (And.intro (H5.out.1.kept (((Kept.refl w5).alloc _).trans hk)) (And.intro (H5.out.2.1.kept (((Kept.refl w5).alloc _).trans hk)) H5.out.2.2))
    obtain ⟨v6, rfl, hq6⟩ := hR6.resolve_right (fun h => h.2 (sum_fits hS6 HA.out.2.1.1.bd HA.out.2.1.2.bd HA.out.2.2.1.bd HA.out.2.2.2.bd HR.out.2.1.vpos HR.out.2.2.vpos HS.out.2.2))
    obtain ⟨s6, ao6, k6', c6', x6, t6, ap6, k6'', c6'', y6, rfl, n6, r6, i6, n6', r6', i6', R6⟩ := hq6.right (by have := hS6.pos; omega) (by rw [Int.natAbs_natCast]; exact hS6.low)
    have H6 : Hid (Sl w6 (.slice ao6 k6' c6') x6 ∧ Sl w6 (.slice ap6 k6'' c6'') y6 ∧ RatR s6 t6 x6 y6 ∧ M.int s6 x6 = N6 ∧ M.val y6 = D6 ∧ IsSum (M.int p bn) (M.val bd) (M.int r cn) (M.val cd) N6 D6) := ⟨n6.sl, n6'.sl, R6, i6, by have := R6.val; omega, hS6⟩
    clear hS6 hR6 hq6 n6 r6 i6 n6' r6' i6' R6
    clear hk
    have HK2 : Hid (isgn (M.int s5 x5 * M.val y6) (M.int s6 x6 * M.val y5) = (-1)) := by
      show _ = _
      rw [H5.out.2.2.2.1, H6.out.2.2.2.2.1, H6.out.2.2.2.1, H5.out.2.2.2.2.1, order_kept H5.out.2.2.2.2.2 H6.out.2.2.2.2.2 HR.out.1.vpos HR.out.2.1.vpos HR.out.2.2.vpos]; exact HKK.out
    have f252 := fun x => (Ha.out.kept ((Kept.refl w6).alloc x)).c0
    have f253 := fun x => (Ha.out.kept ((Kept.refl w6).alloc x)).c1
    have f254 := fun x => (Ha.out.kept ((Kept.refl w6).alloc x)).c2
    have f255 := fun x => (Ha.out.kept ((Kept.refl w6).alloc x)).c3
    have f256 := fun x => (Hb.out.kept ((Kept.refl w6).alloc x)).c0
    have f257 := fun x => (Hb.out.kept ((Kept.refl w6).alloc x)).c1
    have f258 := fun x => (Hb.out.kept ((Kept.refl w6).alloc x)).c2
    have f259 := fun x => (Hb.out.kept ((Kept.refl w6).alloc x)).c3
    have f260 := fun x => (Hd.out.kept ((Kept.refl w6).alloc x)).c0
    have f261 := fun x => (Hd.out.kept ((Kept.refl w6).alloc x)).c1
    have f262 := fun x => (Hd.out.kept ((Kept.refl w6).alloc x)).c2
    have f263 := fun x => (Hd.out.kept ((Kept.refl w6).alloc x)).c3
    have f264 := fun x => (Hx.out.kept ((Kept.refl w6).alloc x)).c0
    have f265 := fun x => (Hx.out.kept ((Kept.refl w6).alloc x)).c1
    have f266 := fun x => (Hx.out.kept ((Kept.refl w6).alloc x)).c2
    have f267 := fun x => (Hx.out.kept ((Kept.refl w6).alloc x)).c3
    go_wp2_with fail
    refine (Cmp_ok s5 t5 s6 t6 ao5 ap5 ao6 ap6 k5' c5' k5'' c5'' k6' c6' k6'' c6'' x5 y5 x6 y6 _ (H5.out.1.kept ((Kept.refl w6).alloc _)) (H5.out.2.1.kept ((Kept.refl w6).alloc _)) (H6.out.1.kept ((Kept.refl w6).alloc _)) (H6.out.2.1.kept ((Kept.refl w6).alloc _)) H5.out.2.2.1 H6.out.2.2.1).mono ?_
    rw [HK2.out]
    rintro e w7 ⟨rfl, hk⟩
    clear f252 f253 f254 f255 f256 f257 f258 f259 f260 f261 f262 f263 f264 f265 f266 f267
    have Hy := hid' ((RRow.alloc w6 (.bool s6) (.slice ao6 k6' c6') (.bool t6) (.slice ap6 k6'' c6'')).kept hk)
    have Ha := hid' (Ha.out.kept (((Kept.refl w6).alloc _).trans hk))
    have Hb := hid' (Hb.out.kept (((Kept.refl w6).alloc _).trans hk))
    have Hc := hid' (Hc.out.kept (((Kept.refl w6).alloc _).trans hk))
    have Hd := hid' (Hd.out.kept (((Kept.refl w6).alloc _).trans hk))
    have Hx := hid' (Hx.out.kept (((Kept.refl w6).alloc _).trans hk))
    have HK := hid' (HK.out.trans (((Kept.refl w6).alloc _).trans hk))
    have H5 := hid' (And.intro (H5.out.1.kept (((Kept.refl w6).alloc _).trans hk)) (And.intro (H5.out.2.1.kept (((Kept.refl w6).alloc _).trans hk)) H5.out.2.2))
    have H6 := hid' (And.intro (H6.out.1.kept (((Kept.refl w6).alloc _).trans hk)) (And.intro (H6.out.2.1.kept (((Kept.refl w6).alloc _).trans hk)) H6.out.2.2))
    clear hk
    have f268 := Ha.out.c0
    have f269 := Ha.out.c1
    have f270 := Ha.out.c2
    have f271 := Ha.out.c3
    have f272 := Hb.out.c0
    have f273 := Hb.out.c1
    have f274 := Hb.out.c2
    have f275 := Hb.out.c3
    have f276 := Hd.out.c0
    have f277 := Hd.out.c1
    have f278 := Hd.out.c2
    have f279 := Hd.out.c3
    go_wp2_with fail
    refine (lsame_f m n p q _ _ _ _ an ad bn bd _ (HA.out.1.1.kept (HK.out.trans (Kept.refl w7))) (HA.out.1.2.kept (HK.out.trans (Kept.refl w7))) (HA.out.2.1.1.kept (HK.out.trans (Kept.refl w7))) (HA.out.2.1.2.kept (HK.out.trans (Kept.refl w7))) (by have := HR.out.1.ra.1; omega) (by have := HR.out.1.rd.1; omega) (by have := HR.out.2.1.ra.1; omega) (by have := HR.out.2.1.rd.1; omega) (fun h => ne_cross HKK.out (by decide) ((lowest_one HR.out.1 HR.out.2.1 HA.out.1.1.bd HA.out.1.2.bd HA.out.2.1.1.bd HA.out.2.1.2.bd).2 h))).mono ?_
    rintro e w8 ⟨rfl, hk⟩
    clear f268 f269 f270 f271 f272 f273 f274 f275 f276 f277 f278 f279
    have Ha := hid' (Ha.out.kept ((Kept.refl w7).trans hk))
    have Hb := hid' (Hb.out.kept ((Kept.refl w7).trans hk))
    have Hc := hid' (Hc.out.kept ((Kept.refl w7).trans hk))
    have Hd := hid' (Hd.out.kept ((Kept.refl w7).trans hk))
    have Hx := hid' (Hx.out.kept ((Kept.refl w7).trans hk))
    have Hy := hid' (Hy.out.kept ((Kept.refl w7).trans hk))
    have HK := hid' (HK.out.trans ((Kept.refl w7).trans hk))
    have H5 := hid' (And.intro (H5.out.1.kept ((Kept.refl w7).trans hk)) (And.intro (H5.out.2.1.kept ((Kept.refl w7).trans hk)) H5.out.2.2))
    have H6 := hid' (And.intro (H6.out.1.kept ((Kept.refl w7).trans hk)) (And.intro (H6.out.2.1.kept ((Kept.refl w7).trans hk)) H6.out.2.2))
    clear hk
    have f280 := Hd.out.c0
    have f281 := Hd.out.c1
    have f282 := Hd.out.c2
    have f283 := Hd.out.c3
    go_wp2
    go_ret
    exact ⟨rfl, HK.out⟩
  · clear hn
    rcases hc with rfl | rfl
    · go_wp2
      go_ret
      exact ⟨rfl, HK.out⟩
    · go_wp2
      go_ret
      exact ⟨rfl, HK.out⟩

set_option maxHeartbeats 8000000 in
theorem rord_eq (m n p q r s : Bool) (a1 a2 b1 b2 d1 d2 : Option Addr) (k1 c1 k2 c2 k3 c3 k4 c4 k5 c5 k6 c6 : Nat) (an ad bn bd cn cd : List Nat) (w : World) (s1 : Sl w (.slice a1 k1 c1) an) (s2 : Sl w (.slice a2 k2 c2) ad) (s3 : Sl w (.slice b1 k3 c3) bn) (s4 : Sl w (.slice b2 k4 c4) bd) (s5 : Sl w (.slice d1 k5 c5) cn) (s6 : Sl w (.slice d2 k6 c6) cd) (l1 : an.length ≤ 9223372036854775807) (l2 : ad.length ≤ 9223372036854775807) (l3 : bn.length ≤ 9223372036854775807) (l4 : bd.length ≤ 9223372036854775807) (l5 : cn.length ≤ 9223372036854775807) (l6 : cd.length ≤ 9223372036854775807) (hkk : isgn (M.int m an * M.val bd) (M.int p bn * M.val ad) = 0) :
    Calls Try.prog 5 #[.agg #[.bool m, .slice a1 k1 c1, .bool n, .slice a2 k2 c2], .agg #[.bool p, .slice b1 k3 c3, .bool q, .slice b2 k4 c4], .agg #[.bool r, .slice d1 k5 c5, .bool s, .slice d2 k6 c6]] w fun e w' => e = .returned (.bool true) ∧ Kept w w' := by
  have HKK := hid' hkk
  clear hkk
  have HA : Hid ((Sl w (.slice a1 k1 c1) an ∧ Sl w (.slice a2 k2 c2) ad) ∧ (Sl w (.slice b1 k3 c3) bn ∧ Sl w (.slice b2 k4 c4) bd) ∧ (Sl w (.slice d1 k5 c5) cn ∧ Sl w (.slice d2 k6 c6) cd)) := ⟨⟨s1, s2⟩, ⟨s3, s4⟩, s5, s6⟩
  have HL : Hid ((an.length ≤ 9223372036854775807 ∧ ad.length ≤ 9223372036854775807) ∧ (bn.length ≤ 9223372036854775807 ∧ bd.length ≤ 9223372036854775807) ∧ (cn.length ≤ 9223372036854775807 ∧ cd.length ≤ 9223372036854775807)) := ⟨⟨l1, l2⟩, ⟨l3, l4⟩, l5, l6⟩
  have HE : Hid (k1 = an.length ∧ k2 = ad.length ∧ k3 = bn.length ∧ k4 = bd.length ∧ k5 = cn.length ∧ k6 = cd.length) := ⟨s1.len, s2.len, s3.len, s4.len, s5.len, s6.len⟩
  clear s1 s2 s3 s4 s5 s6 l1 l2 l3 l4 l5 l6
  go_enter Try.func5, Try.ntmps5
  go_wp2_with fail
  refine (awake_yes _).mono ?_
  rintro e w1 ⟨rfl, hk⟩
  have Ha := hid' ((RRow.alloc w (.bool m) (.slice a1 k1 c1) (.bool n) (.slice a2 k2 c2)).kept ((((Kept.refl _).alloc _).alloc _).trans hk))
  have Hb0 := (RRow.alloc (w.alloc (.cells #[.bool m, .slice a1 k1 c1, .bool n, .slice a2 k2 c2] 26)) (.bool p) (.slice b1 k3 c3) (.bool q) (.slice b2 k4 c4)).kept (((Kept.refl _).alloc _).trans hk)
  have Hc0 := (RRow.alloc ((w.alloc (.cells #[.bool m, .slice a1 k1 c1, .bool n, .slice a2 k2 c2] 26)).alloc (.cells #[.bool p, .slice b1 k3 c3, .bool q, .slice b2 k4 c4] 26)) (.bool r) (.slice d1 k5 c5) (.bool s) (.slice d2 k6 c6)).kept hk
  simp only [World.size_alloc] at Hb0 Hc0
  have Hb := hid' Hb0
  have Hc := hid' Hc0
  have HK := hid' (((((Kept.refl w).alloc _).alloc _).alloc _).trans hk)
  clear hk Hb0 Hc0
  have f0 := Ha.out.c0
  have f1 := Ha.out.c1
  have f2 := Ha.out.c2
  have f3 := Ha.out.c3
  have f4 := Hb.out.c0
  have f5 := Hb.out.c1
  have f6 := Hb.out.c2
  have f7 := Hb.out.c3
  have f8 := Hc.out.c0
  have f9 := Hc.out.c1
  have f10 := Hc.out.c2
  have f11 := Hc.out.c3
  go_wp2_with fail
  refine (Faults_any _ w1.heap.size 0 3 3 _ _ _ _ _ _ _ _ _ _ _ (fun _ => rfl) (by omega) (RatAll.three (m := m) (n := n) (p := p) (q := q) (r := r) (s := s) (a1 := a1) (a2 := a2) (b1 := b1) (b2 := b2) (d1 := d1) (d2 := d2) (k1 := k1) (c1 := c1) (k2 := k2) (c2 := c2) (k3 := k3) (c3 := c3) (k4 := k4) (c4 := c4) (k5 := k5) (c5 := c5) (k6 := k6) (c6 := c6) (fun o v h => (World.cell?_alloc_at _ _ _ _ rfl).trans h) (HA.out.1.1.kept (HK.out.alloc _)) (HA.out.1.2.kept (HK.out.alloc _)) (HA.out.2.1.1.kept (HK.out.alloc _)) (HA.out.2.1.2.kept (HK.out.alloc _)) (HA.out.2.2.1.kept (HK.out.alloc _)) (HA.out.2.2.2.kept (HK.out.alloc _)) HL.out.1.1 HL.out.1.2 HL.out.2.1.1 HL.out.2.1.2 HL.out.2.2.1 HL.out.2.2.2)).mono ?_
  rintro e w2 ⟨hk, c, rfl, hc⟩
  clear f0 f1 f2 f3 f4 f5 f6 f7 f8 f9 f10 f11
  have Ha := hid' (Ha.out.kept (((Kept.refl w1).alloc _).trans hk))
  have Hb := hid' (Hb.out.kept (((Kept.refl w1).alloc _).trans hk))
  have Hc := hid' (Hc.out.kept (((Kept.refl w1).alloc _).trans hk))
  have HK := hid' (HK.out.trans (((Kept.refl w1).alloc _).trans hk))
  clear hk
  rcases hc with ⟨rfl, hc⟩ | ⟨hc, hn⟩
  · have HR : Hid (RatR m n an ad ∧ RatR p q bn bd ∧ RatR r s cn cd) := ⟨hc 0 (by omega), hc 1 (by omega), hc 2 (by omega)⟩
    clear hc
    have b1' : k1 ≤ 72 := by rw [HE.out.1]; exact HR.out.1.ra.1
    have b2' : k2 ≤ 72 := by rw [HE.out.2.1]; exact HR.out.1.rd.1
    have b3' : k3 ≤ 72 := by rw [HE.out.2.2.1]; exact HR.out.2.1.ra.1
    have b4' : k4 ≤ 72 := by rw [HE.out.2.2.2.1]; exact HR.out.2.1.rd.1
    have b5' : k5 ≤ 72 := by rw [HE.out.2.2.2.2.1]; exact HR.out.2.2.ra.1
    have b6' : k6 ≤ 72 := by rw [HE.out.2.2.2.2.2]; exact HR.out.2.2.rd.1
    have f100 := Ha.out.c0
    have f101 := Ha.out.c1
    have f102 := Ha.out.c2
    have f103 := Ha.out.c3
    have f104 := Hb.out.c0
    have f105 := Hb.out.c1
    have f106 := Hb.out.c2
    have f107 := Hb.out.c3
    have f108 := Hc.out.c0
    have f109 := Hc.out.c1
    have f110 := Hc.out.c2
    have f111 := Hc.out.c3
    by_cases hs : 24 < k1 + k2 + k3 + k4 + k5 + k6
    · go_wp2
      go_ret
      exact ⟨rfl, HK.out⟩
    have h24 : k1 + k2 + k3 + k4 + k5 + k6 ≤ 24 := by omega
    have HS : Hid (an.length + ad.length + bn.length + bd.length ≤ 60 ∧ an.length + ad.length + cn.length + cd.length ≤ 60 ∧ bn.length + bd.length + cn.length + cd.length ≤ 60) := by have h := HE.out; show _ ∧ _; omega
    clear hs
    clear f100 f101 f102 f103 f104 f105 f106 f107 f108 f109 f110 f111
    have f200 := Ha.out.c0
    have f201 := Ha.out.c1
    have f202 := Ha.out.c2
    have f203 := Ha.out.c3
    have f204 := Hb.out.c0
    have f205 := Hb.out.c1
    have f206 := Hb.out.c2
    have f207 := Hb.out.c3
    have f208 := Hc.out.c0
    have f209 := Hc.out.c1
    have f210 := Hc.out.c2
    have f211 := Hc.out.c3
    go_wp2_with fail
    refine (Cmp_ok m n p q a1 a2 b1 b2 k1 c1 k2 c2 k3 c3 k4 c4 an ad bn bd _ (HA.out.1.1.kept (HK.out.trans (Kept.refl w2))) (HA.out.1.2.kept (HK.out.trans (Kept.refl w2))) (HA.out.2.1.1.kept (HK.out.trans (Kept.refl w2))) (HA.out.2.1.2.kept (HK.out.trans (Kept.refl w2))) HR.out.1 HR.out.2.1).mono ?_
    rw [HKK.out]
    rintro e w3 ⟨rfl, hk⟩
    clear f200 f201 f202 f203 f204 f205 f206 f207 f208 f209 f210 f211
    have Ha := hid' (Ha.out.kept ((Kept.refl w2).trans hk))
    have Hb := hid' (Hb.out.kept ((Kept.refl w2).trans hk))
    have Hc := hid' (Hc.out.kept ((Kept.refl w2).trans hk))
    have HK := hid' (HK.out.trans ((Kept.refl w2).trans hk))
    clear hk
    have f212 := Ha.out.c0
    have f213 := Ha.out.c1
    have f214 := Ha.out.c2
    have f215 := Ha.out.c3
    have f216 := Hb.out.c0
    have f217 := Hb.out.c1
    have f218 := Hb.out.c2
    have f219 := Hb.out.c3
    have f220 := Hc.out.c0
    have f221 := Hc.out.c1
    have f222 := Hc.out.c2
    have f223 := Hc.out.c3
    go_wp2_with fail
    refine (Sub_ok m n p q a1 a2 b1 b2 k1 c1 k2 c2 k3 c3 k4 c4 an ad bn bd _ (HA.out.1.1.kept (HK.out.trans (Kept.refl w3))) (HA.out.1.2.kept (HK.out.trans (Kept.refl w3))) (HA.out.2.1.1.kept (HK.out.trans (Kept.refl w3))) (HA.out.2.1.2.kept (HK.out.trans (Kept.refl w3))) HR.out.1 HR.out.2.1).mono ?_
    rintro e w4 ⟨hk, N4, D4, hS4, hR4⟩
    clear f212 f213 f214 f215 f216 f217 f218 f219 f220 f221 f222 f223
    have Ha := hid' (Ha.out.kept ((Kept.refl w3).trans hk))
    have Hb := hid' (Hb.out.kept ((Kept.refl w3).trans hk))
    have Hc := hid' (Hc.out.kept ((Kept.refl w3).trans hk))
    have HK := hid' (HK.out.trans ((Kept.refl w3).trans hk))
    obtain ⟨v4, rfl, s4, ao4, k4', c4', x4, t4, ap4, k4'', c4'', y4, rfl, n4, r4, i4, n4', r4', i4'⟩ := hR4.resolve_right (fun h => h.2 (sub_fits hS4 HA.out.1.1.bd HA.out.1.2.bd HA.out.2.1.1.bd HA.out.2.1.2.bd HR.out.1.vpos HR.out.2.1.vpos HS.out.1))
    have sg4 := hS4.sign HR.out.1.vpos HR.out.2.1.vpos
    have hl4 := n4.len
    obtain ⟨rfl, rfl⟩ := sgn_z r4 (i4.trans (sg4.2.2 (dif_zero HKK.out)))
    obtain rfl : k4' = 0 := by simpa using hl4
    clear hS4 hR4 n4 r4 i4 n4' r4' i4' sg4 hl4
    clear hk
    have f224 := fun x => (Ha.out.kept ((Kept.refl w4).alloc x)).c0
    have f225 := fun x => (Ha.out.kept ((Kept.refl w4).alloc x)).c1
    have f226 := fun x => (Ha.out.kept ((Kept.refl w4).alloc x)).c2
    have f227 := fun x => (Ha.out.kept ((Kept.refl w4).alloc x)).c3
    have f228 := fun x => (Hb.out.kept ((Kept.refl w4).alloc x)).c0
    have f229 := fun x => (Hb.out.kept ((Kept.refl w4).alloc x)).c1
    have f230 := fun x => (Hb.out.kept ((Kept.refl w4).alloc x)).c2
    have f231 := fun x => (Hb.out.kept ((Kept.refl w4).alloc x)).c3
    have f232 := fun x => (Hc.out.kept ((Kept.refl w4).alloc x)).c0
    have f233 := fun x => (Hc.out.kept ((Kept.refl w4).alloc x)).c1
    have f234 := fun x => (Hc.out.kept ((Kept.refl w4).alloc x)).c2
    have f235 := fun x => (Hc.out.kept ((Kept.refl w4).alloc x)).c3
    go_wp2_with fail
    refine (Add_ok m n r s a1 a2 d1 d2 k1 c1 k2 c2 k5 c5 k6 c6 an ad cn cd _ (HA.out.1.1.kept (HK.out.trans ((Kept.refl w4).alloc _))) (HA.out.1.2.kept (HK.out.trans ((Kept.refl w4).alloc _))) (HA.out.2.2.1.kept (HK.out.trans ((Kept.refl w4).alloc _))) (HA.out.2.2.2.kept (HK.out.trans ((Kept.refl w4).alloc _))) HR.out.1 HR.out.2.2).mono ?_
    rintro e w5 ⟨hk, N5, D5, hS5, hR5⟩
    clear f224 f225 f226 f227 f228 f229 f230 f231 f232 f233 f234 f235
    have Hd := hid' ((RRow.alloc w4 (.bool false) (.slice ao4 0 c4') (.bool t4) (.slice ap4 k4'' c4'')).kept hk)
    have Ha := hid' (Ha.out.kept (((Kept.refl w4).alloc _).trans hk))
    have Hb := hid' (Hb.out.kept (((Kept.refl w4).alloc _).trans hk))
    have Hc := hid' (Hc.out.kept (((Kept.refl w4).alloc _).trans hk))
    have HK := hid' (HK.out.trans (((Kept.refl w4).alloc _).trans hk))
    obtain ⟨v5, rfl, hq5⟩ := hR5.resolve_right (fun h => h.2 (sum_fits hS5 HA.out.1.1.bd HA.out.1.2.bd HA.out.2.2.1.bd HA.out.2.2.2.bd HR.out.1.vpos HR.out.2.2.vpos HS.out.2.1))
    obtain ⟨s5, ao5, k5', c5', x5, t5, ap5, k5'', c5'', y5, rfl, n5, r5, i5, n5', r5', i5', R5⟩ := hq5.right (by have := hS5.pos; omega) (by rw [Int.natAbs_natCast]; exact hS5.low)
    have H5 : Hid (Sl w5 (.slice ao5 k5' c5') x5 ∧ Sl w5 (.slice ap5 k5'' c5'') y5 ∧ RatR s5 t5 x5 y5 ∧ M.int s5 x5 = N5 ∧ M.val y5 = D5 ∧ IsSum (M.int m an) (M.val ad) (M.int r cn) (M.val cd) N5 D5) := ⟨n5.sl, n5'.sl, R5, i5, by have := R5.val; omega, hS5⟩
    clear hS5 hR5 hq5 n5 r5 i5 n5' r5' i5' R5
    clear hk
    have f236 := fun x => (Ha.out.kept ((Kept.refl w5).alloc x)).c0
    have f237 := fun x => (Ha.out.kept ((Kept.refl w5).alloc x)).c1
    have f238 := fun x => (Ha.out.kept ((Kept.refl w5).alloc x)).c2
    have f239 := fun x => (Ha.out.kept ((Kept.refl w5).alloc x)).c3
    have f240 := fun x => (Hb.out.kept ((Kept.refl w5).alloc x)).c0
    have f241 := fun x => (Hb.out.kept ((Kept.refl w5).alloc x)).c1
    have f242 := fun x => (Hb.out.kept ((Kept.refl w5).alloc x)).c2
    have f243 := fun x => (Hb.out.kept ((Kept.refl w5).alloc x)).c3
    have f244 := fun x => (Hc.out.kept ((Kept.refl w5).alloc x)).c0
    have f245 := fun x => (Hc.out.kept ((Kept.refl w5).alloc x)).c1
    have f246 := fun x => (Hc.out.kept ((Kept.refl w5).alloc x)).c2
    have f247 := fun x => (Hc.out.kept ((Kept.refl w5).alloc x)).c3
    have f248 := fun x => (Hd.out.kept ((Kept.refl w5).alloc x)).c0
    have f249 := fun x => (Hd.out.kept ((Kept.refl w5).alloc x)).c1
    have f250 := fun x => (Hd.out.kept ((Kept.refl w5).alloc x)).c2
    have f251 := fun x => (Hd.out.kept ((Kept.refl w5).alloc x)).c3
    go_wp2_with fail
    refine (Add_ok p q r s b1 b2 d1 d2 k3 c3 k4 c4 k5 c5 k6 c6 bn bd cn cd _ (HA.out.2.1.1.kept (HK.out.trans ((Kept.refl w5).alloc _))) (HA.out.2.1.2.kept (HK.out.trans ((Kept.refl w5).alloc _))) (HA.out.2.2.1.kept (HK.out.trans ((Kept.refl w5).alloc _))) (HA.out.2.2.2.kept (HK.out.trans ((Kept.refl w5).alloc _))) HR.out.2.1 HR.out.2.2).mono ?_
    rintro e w6 ⟨hk, N6, D6, hS6, hR6⟩
    clear f236 f237 f238 f239 f240 f241 f242 f243 f244 f245 f246 f247 f248 f249 f250 f251
    have Hx := hid' ((RRow.alloc w5 (.bool s5) (.slice ao5 k5' c5') (.bool t5) (.slice ap5 k5'' c5'')).kept hk)
    have Ha := hid' (Ha.out.kept (((Kept.refl w5).alloc _).trans hk))
    have Hb := hid' (Hb.out.kept (((Kept.refl w5).alloc _).trans hk))
    have Hc := hid' (Hc.out.kept (((Kept.refl w5).alloc _).trans hk))
    have Hd := hid' (Hd.out.kept (((Kept.refl w5).alloc _).trans hk))
    have HK := hid' (HK.out.trans (((Kept.refl w5).alloc _).trans hk))
    have H5 := hid' (And.intro (H5.out.1.kept (((Kept.refl w5).alloc _).trans hk)) (And.intro (H5.out.2.1.kept (((Kept.refl w5).alloc _).trans hk)) H5.out.2.2))
    obtain ⟨v6, rfl, hq6⟩ := hR6.resolve_right (fun h => h.2 (sum_fits hS6 HA.out.2.1.1.bd HA.out.2.1.2.bd HA.out.2.2.1.bd HA.out.2.2.2.bd HR.out.2.1.vpos HR.out.2.2.vpos HS.out.2.2))
    obtain ⟨s6, ao6, k6', c6', x6, t6, ap6, k6'', c6'', y6, rfl, n6, r6, i6, n6', r6', i6', R6⟩ := hq6.right (by have := hS6.pos; omega) (by rw [Int.natAbs_natCast]; exact hS6.low)
    have H6 : Hid (Sl w6 (.slice ao6 k6' c6') x6 ∧ Sl w6 (.slice ap6 k6'' c6'') y6 ∧ RatR s6 t6 x6 y6 ∧ M.int s6 x6 = N6 ∧ M.val y6 = D6 ∧ IsSum (M.int p bn) (M.val bd) (M.int r cn) (M.val cd) N6 D6) := ⟨n6.sl, n6'.sl, R6, i6, by have := R6.val; omega, hS6⟩
    clear hS6 hR6 hq6 n6 r6 i6 n6' r6' i6' R6
    clear hk
    have HK2 : Hid (isgn (M.int s5 x5 * M.val y6) (M.int s6 x6 * M.val y5) = 0) := by
      show _ = _
      rw [H5.out.2.2.2.1, H6.out.2.2.2.2.1, H6.out.2.2.2.1, H5.out.2.2.2.2.1, order_kept H5.out.2.2.2.2.2 H6.out.2.2.2.2.2 HR.out.1.vpos HR.out.2.1.vpos HR.out.2.2.vpos]; exact HKK.out
    have f252 := fun x => (Ha.out.kept ((Kept.refl w6).alloc x)).c0
    have f253 := fun x => (Ha.out.kept ((Kept.refl w6).alloc x)).c1
    have f254 := fun x => (Ha.out.kept ((Kept.refl w6).alloc x)).c2
    have f255 := fun x => (Ha.out.kept ((Kept.refl w6).alloc x)).c3
    have f256 := fun x => (Hb.out.kept ((Kept.refl w6).alloc x)).c0
    have f257 := fun x => (Hb.out.kept ((Kept.refl w6).alloc x)).c1
    have f258 := fun x => (Hb.out.kept ((Kept.refl w6).alloc x)).c2
    have f259 := fun x => (Hb.out.kept ((Kept.refl w6).alloc x)).c3
    have f260 := fun x => (Hd.out.kept ((Kept.refl w6).alloc x)).c0
    have f261 := fun x => (Hd.out.kept ((Kept.refl w6).alloc x)).c1
    have f262 := fun x => (Hd.out.kept ((Kept.refl w6).alloc x)).c2
    have f263 := fun x => (Hd.out.kept ((Kept.refl w6).alloc x)).c3
    have f264 := fun x => (Hx.out.kept ((Kept.refl w6).alloc x)).c0
    have f265 := fun x => (Hx.out.kept ((Kept.refl w6).alloc x)).c1
    have f266 := fun x => (Hx.out.kept ((Kept.refl w6).alloc x)).c2
    have f267 := fun x => (Hx.out.kept ((Kept.refl w6).alloc x)).c3
    go_wp2_with fail
    refine (Cmp_ok s5 t5 s6 t6 ao5 ap5 ao6 ap6 k5' c5' k5'' c5'' k6' c6' k6'' c6'' x5 y5 x6 y6 _ (H5.out.1.kept ((Kept.refl w6).alloc _)) (H5.out.2.1.kept ((Kept.refl w6).alloc _)) (H6.out.1.kept ((Kept.refl w6).alloc _)) (H6.out.2.1.kept ((Kept.refl w6).alloc _)) H5.out.2.2.1 H6.out.2.2.1).mono ?_
    rw [HK2.out]
    rintro e w7 ⟨rfl, hk⟩
    clear f252 f253 f254 f255 f256 f257 f258 f259 f260 f261 f262 f263 f264 f265 f266 f267
    have Hy := hid' ((RRow.alloc w6 (.bool s6) (.slice ao6 k6' c6') (.bool t6) (.slice ap6 k6'' c6'')).kept hk)
    have Ha := hid' (Ha.out.kept (((Kept.refl w6).alloc _).trans hk))
    have Hb := hid' (Hb.out.kept (((Kept.refl w6).alloc _).trans hk))
    have Hc := hid' (Hc.out.kept (((Kept.refl w6).alloc _).trans hk))
    have Hd := hid' (Hd.out.kept (((Kept.refl w6).alloc _).trans hk))
    have Hx := hid' (Hx.out.kept (((Kept.refl w6).alloc _).trans hk))
    have HK := hid' (HK.out.trans (((Kept.refl w6).alloc _).trans hk))
    have H5 := hid' (And.intro (H5.out.1.kept (((Kept.refl w6).alloc _).trans hk)) (And.intro (H5.out.2.1.kept (((Kept.refl w6).alloc _).trans hk)) H5.out.2.2))
    have H6 := hid' (And.intro (H6.out.1.kept (((Kept.refl w6).alloc _).trans hk)) (And.intro (H6.out.2.1.kept (((Kept.refl w6).alloc _).trans hk)) H6.out.2.2))
    clear hk
    obtain ⟨⟨rfl, rfl⟩, rfl, rfl⟩ := (lowest_one HR.out.1 HR.out.2.1 HA.out.1.1.bd HA.out.1.2.bd HA.out.2.1.1.bd HA.out.2.1.2.bd).1 (eq_cross HKK.out)
    have f268 := Ha.out.c0
    have f269 := Ha.out.c1
    have f270 := Ha.out.c2
    have f271 := Ha.out.c3
    have f272 := Hb.out.c0
    have f273 := Hb.out.c1
    have f274 := Hb.out.c2
    have f275 := Hb.out.c3
    have f276 := Hd.out.c0
    have f277 := Hd.out.c1
    have f278 := Hd.out.c2
    have f279 := Hd.out.c3
    go_wp2_with fail
    refine (lsame_r m n _ _ _ _ an ad _ (HA.out.1.1.kept (HK.out.trans (Kept.refl w7))) (HA.out.1.2.kept (HK.out.trans (Kept.refl w7))) (HA.out.2.1.1.kept (HK.out.trans (Kept.refl w7))) (HA.out.2.1.2.kept (HK.out.trans (Kept.refl w7))) (by have := HR.out.1.ra.1; omega) (by have := HR.out.1.rd.1; omega)).mono ?_
    rintro e w8 ⟨rfl, hk⟩
    clear f268 f269 f270 f271 f272 f273 f274 f275 f276 f277 f278 f279
    have Ha := hid' (Ha.out.kept ((Kept.refl w7).trans hk))
    have Hb := hid' (Hb.out.kept ((Kept.refl w7).trans hk))
    have Hc := hid' (Hc.out.kept ((Kept.refl w7).trans hk))
    have Hd := hid' (Hd.out.kept ((Kept.refl w7).trans hk))
    have Hx := hid' (Hx.out.kept ((Kept.refl w7).trans hk))
    have Hy := hid' (Hy.out.kept ((Kept.refl w7).trans hk))
    have HK := hid' (HK.out.trans ((Kept.refl w7).trans hk))
    have H5 := hid' (And.intro (H5.out.1.kept ((Kept.refl w7).trans hk)) (And.intro (H5.out.2.1.kept ((Kept.refl w7).trans hk)) H5.out.2.2))
    have H6 := hid' (And.intro (H6.out.1.kept ((Kept.refl w7).trans hk)) (And.intro (H6.out.2.1.kept ((Kept.refl w7).trans hk)) H6.out.2.2))
    clear hk
    have f280 := Hd.out.c0
    have f281 := Hd.out.c1
    have f282 := Hd.out.c2
    have f283 := Hd.out.c3
    go_wp2
    go_ret
    exact ⟨rfl, HK.out⟩
  · clear hn
    rcases hc with rfl | rfl
    · go_wp2
      go_ret
      exact ⟨rfl, HK.out⟩
    · go_wp2
      go_ret
      exact ⟨rfl, HK.out⟩

set_option maxHeartbeats 8000000 in
theorem rord_gt (m n p q r s : Bool) (a1 a2 b1 b2 d1 d2 : Option Addr) (k1 c1 k2 c2 k3 c3 k4 c4 k5 c5 k6 c6 : Nat) (an ad bn bd cn cd : List Nat) (w : World) (s1 : Sl w (.slice a1 k1 c1) an) (s2 : Sl w (.slice a2 k2 c2) ad) (s3 : Sl w (.slice b1 k3 c3) bn) (s4 : Sl w (.slice b2 k4 c4) bd) (s5 : Sl w (.slice d1 k5 c5) cn) (s6 : Sl w (.slice d2 k6 c6) cd) (l1 : an.length ≤ 9223372036854775807) (l2 : ad.length ≤ 9223372036854775807) (l3 : bn.length ≤ 9223372036854775807) (l4 : bd.length ≤ 9223372036854775807) (l5 : cn.length ≤ 9223372036854775807) (l6 : cd.length ≤ 9223372036854775807) (hkk : isgn (M.int m an * M.val bd) (M.int p bn * M.val ad) = 1) :
    Calls Try.prog 5 #[.agg #[.bool m, .slice a1 k1 c1, .bool n, .slice a2 k2 c2], .agg #[.bool p, .slice b1 k3 c3, .bool q, .slice b2 k4 c4], .agg #[.bool r, .slice d1 k5 c5, .bool s, .slice d2 k6 c6]] w fun e w' => e = .returned (.bool true) ∧ Kept w w' := by
  have HKK := hid' hkk
  clear hkk
  have HA : Hid ((Sl w (.slice a1 k1 c1) an ∧ Sl w (.slice a2 k2 c2) ad) ∧ (Sl w (.slice b1 k3 c3) bn ∧ Sl w (.slice b2 k4 c4) bd) ∧ (Sl w (.slice d1 k5 c5) cn ∧ Sl w (.slice d2 k6 c6) cd)) := ⟨⟨s1, s2⟩, ⟨s3, s4⟩, s5, s6⟩
  have HL : Hid ((an.length ≤ 9223372036854775807 ∧ ad.length ≤ 9223372036854775807) ∧ (bn.length ≤ 9223372036854775807 ∧ bd.length ≤ 9223372036854775807) ∧ (cn.length ≤ 9223372036854775807 ∧ cd.length ≤ 9223372036854775807)) := ⟨⟨l1, l2⟩, ⟨l3, l4⟩, l5, l6⟩
  have HE : Hid (k1 = an.length ∧ k2 = ad.length ∧ k3 = bn.length ∧ k4 = bd.length ∧ k5 = cn.length ∧ k6 = cd.length) := ⟨s1.len, s2.len, s3.len, s4.len, s5.len, s6.len⟩
  clear s1 s2 s3 s4 s5 s6 l1 l2 l3 l4 l5 l6
  go_enter Try.func5, Try.ntmps5
  go_wp2_with fail
  refine (awake_yes _).mono ?_
  rintro e w1 ⟨rfl, hk⟩
  have Ha := hid' ((RRow.alloc w (.bool m) (.slice a1 k1 c1) (.bool n) (.slice a2 k2 c2)).kept ((((Kept.refl _).alloc _).alloc _).trans hk))
  have Hb0 := (RRow.alloc (w.alloc (.cells #[.bool m, .slice a1 k1 c1, .bool n, .slice a2 k2 c2] 26)) (.bool p) (.slice b1 k3 c3) (.bool q) (.slice b2 k4 c4)).kept (((Kept.refl _).alloc _).trans hk)
  have Hc0 := (RRow.alloc ((w.alloc (.cells #[.bool m, .slice a1 k1 c1, .bool n, .slice a2 k2 c2] 26)).alloc (.cells #[.bool p, .slice b1 k3 c3, .bool q, .slice b2 k4 c4] 26)) (.bool r) (.slice d1 k5 c5) (.bool s) (.slice d2 k6 c6)).kept hk
  simp only [World.size_alloc] at Hb0 Hc0
  have Hb := hid' Hb0
  have Hc := hid' Hc0
  have HK := hid' (((((Kept.refl w).alloc _).alloc _).alloc _).trans hk)
  clear hk Hb0 Hc0
  have f0 := Ha.out.c0
  have f1 := Ha.out.c1
  have f2 := Ha.out.c2
  have f3 := Ha.out.c3
  have f4 := Hb.out.c0
  have f5 := Hb.out.c1
  have f6 := Hb.out.c2
  have f7 := Hb.out.c3
  have f8 := Hc.out.c0
  have f9 := Hc.out.c1
  have f10 := Hc.out.c2
  have f11 := Hc.out.c3
  go_wp2_with fail
  refine (Faults_any _ w1.heap.size 0 3 3 _ _ _ _ _ _ _ _ _ _ _ (fun _ => rfl) (by omega) (RatAll.three (m := m) (n := n) (p := p) (q := q) (r := r) (s := s) (a1 := a1) (a2 := a2) (b1 := b1) (b2 := b2) (d1 := d1) (d2 := d2) (k1 := k1) (c1 := c1) (k2 := k2) (c2 := c2) (k3 := k3) (c3 := c3) (k4 := k4) (c4 := c4) (k5 := k5) (c5 := c5) (k6 := k6) (c6 := c6) (fun o v h => (World.cell?_alloc_at _ _ _ _ rfl).trans h) (HA.out.1.1.kept (HK.out.alloc _)) (HA.out.1.2.kept (HK.out.alloc _)) (HA.out.2.1.1.kept (HK.out.alloc _)) (HA.out.2.1.2.kept (HK.out.alloc _)) (HA.out.2.2.1.kept (HK.out.alloc _)) (HA.out.2.2.2.kept (HK.out.alloc _)) HL.out.1.1 HL.out.1.2 HL.out.2.1.1 HL.out.2.1.2 HL.out.2.2.1 HL.out.2.2.2)).mono ?_
  rintro e w2 ⟨hk, c, rfl, hc⟩
  clear f0 f1 f2 f3 f4 f5 f6 f7 f8 f9 f10 f11
  have Ha := hid' (Ha.out.kept (((Kept.refl w1).alloc _).trans hk))
  have Hb := hid' (Hb.out.kept (((Kept.refl w1).alloc _).trans hk))
  have Hc := hid' (Hc.out.kept (((Kept.refl w1).alloc _).trans hk))
  have HK := hid' (HK.out.trans (((Kept.refl w1).alloc _).trans hk))
  clear hk
  rcases hc with ⟨rfl, hc⟩ | ⟨hc, hn⟩
  · have HR : Hid (RatR m n an ad ∧ RatR p q bn bd ∧ RatR r s cn cd) := ⟨hc 0 (by omega), hc 1 (by omega), hc 2 (by omega)⟩
    clear hc
    have b1' : k1 ≤ 72 := by rw [HE.out.1]; exact HR.out.1.ra.1
    have b2' : k2 ≤ 72 := by rw [HE.out.2.1]; exact HR.out.1.rd.1
    have b3' : k3 ≤ 72 := by rw [HE.out.2.2.1]; exact HR.out.2.1.ra.1
    have b4' : k4 ≤ 72 := by rw [HE.out.2.2.2.1]; exact HR.out.2.1.rd.1
    have b5' : k5 ≤ 72 := by rw [HE.out.2.2.2.2.1]; exact HR.out.2.2.ra.1
    have b6' : k6 ≤ 72 := by rw [HE.out.2.2.2.2.2]; exact HR.out.2.2.rd.1
    have f100 := Ha.out.c0
    have f101 := Ha.out.c1
    have f102 := Ha.out.c2
    have f103 := Ha.out.c3
    have f104 := Hb.out.c0
    have f105 := Hb.out.c1
    have f106 := Hb.out.c2
    have f107 := Hb.out.c3
    have f108 := Hc.out.c0
    have f109 := Hc.out.c1
    have f110 := Hc.out.c2
    have f111 := Hc.out.c3
    by_cases hs : 24 < k1 + k2 + k3 + k4 + k5 + k6
    · go_wp2
      go_ret
      exact ⟨rfl, HK.out⟩
    have h24 : k1 + k2 + k3 + k4 + k5 + k6 ≤ 24 := by omega
    have HS : Hid (an.length + ad.length + bn.length + bd.length ≤ 60 ∧ an.length + ad.length + cn.length + cd.length ≤ 60 ∧ bn.length + bd.length + cn.length + cd.length ≤ 60) := by have h := HE.out; show _ ∧ _; omega
    clear hs
    clear f100 f101 f102 f103 f104 f105 f106 f107 f108 f109 f110 f111
    have f200 := Ha.out.c0
    have f201 := Ha.out.c1
    have f202 := Ha.out.c2
    have f203 := Ha.out.c3
    have f204 := Hb.out.c0
    have f205 := Hb.out.c1
    have f206 := Hb.out.c2
    have f207 := Hb.out.c3
    have f208 := Hc.out.c0
    have f209 := Hc.out.c1
    have f210 := Hc.out.c2
    have f211 := Hc.out.c3
    go_wp2_with fail
    refine (Cmp_ok m n p q a1 a2 b1 b2 k1 c1 k2 c2 k3 c3 k4 c4 an ad bn bd _ (HA.out.1.1.kept (HK.out.trans (Kept.refl w2))) (HA.out.1.2.kept (HK.out.trans (Kept.refl w2))) (HA.out.2.1.1.kept (HK.out.trans (Kept.refl w2))) (HA.out.2.1.2.kept (HK.out.trans (Kept.refl w2))) HR.out.1 HR.out.2.1).mono ?_
    rw [HKK.out]
    rintro e w3 ⟨rfl, hk⟩
    clear f200 f201 f202 f203 f204 f205 f206 f207 f208 f209 f210 f211
    have Ha := hid' (Ha.out.kept ((Kept.refl w2).trans hk))
    have Hb := hid' (Hb.out.kept ((Kept.refl w2).trans hk))
    have Hc := hid' (Hc.out.kept ((Kept.refl w2).trans hk))
    have HK := hid' (HK.out.trans ((Kept.refl w2).trans hk))
    clear hk
    have f212 := Ha.out.c0
    have f213 := Ha.out.c1
    have f214 := Ha.out.c2
    have f215 := Ha.out.c3
    have f216 := Hb.out.c0
    have f217 := Hb.out.c1
    have f218 := Hb.out.c2
    have f219 := Hb.out.c3
    have f220 := Hc.out.c0
    have f221 := Hc.out.c1
    have f222 := Hc.out.c2
    have f223 := Hc.out.c3
    go_wp2_with fail
    refine (Sub_ok m n p q a1 a2 b1 b2 k1 c1 k2 c2 k3 c3 k4 c4 an ad bn bd _ (HA.out.1.1.kept (HK.out.trans (Kept.refl w3))) (HA.out.1.2.kept (HK.out.trans (Kept.refl w3))) (HA.out.2.1.1.kept (HK.out.trans (Kept.refl w3))) (HA.out.2.1.2.kept (HK.out.trans (Kept.refl w3))) HR.out.1 HR.out.2.1).mono ?_
    rintro e w4 ⟨hk, N4, D4, hS4, hR4⟩
    clear f212 f213 f214 f215 f216 f217 f218 f219 f220 f221 f222 f223
    have Ha := hid' (Ha.out.kept ((Kept.refl w3).trans hk))
    have Hb := hid' (Hb.out.kept ((Kept.refl w3).trans hk))
    have Hc := hid' (Hc.out.kept ((Kept.refl w3).trans hk))
    have HK := hid' (HK.out.trans ((Kept.refl w3).trans hk))
    obtain ⟨v4, rfl, s4, ao4, k4', c4', x4, t4, ap4, k4'', c4'', y4, rfl, n4, r4, i4, n4', r4', i4'⟩ := hR4.resolve_right (fun h => h.2 (sub_fits hS4 HA.out.1.1.bd HA.out.1.2.bd HA.out.2.1.1.bd HA.out.2.1.2.bd HR.out.1.vpos HR.out.2.1.vpos HS.out.1))
    have sg4 := hS4.sign HR.out.1.vpos HR.out.2.1.vpos
    have hl4 := n4.len
    obtain rfl : s4 = false := sgn_ff r4 (by rw [i4]; intro h; have := sg4.1.1 h; have := dif_pos' HKK.out; omega)
    have hk4 : ((k4' : Int) == 0) = false := by have := len_ne (s := false) (l := x4) (by rw [i4]; intro h; have := sg4.2.1 h; have := dif_pos' HKK.out; omega); simp; omega
    clear hS4 hR4 n4 r4 i4 n4' r4' i4' sg4 hl4
    clear hk
    have f224 := fun x => (Ha.out.kept ((Kept.refl w4).alloc x)).c0
    have f225 := fun x => (Ha.out.kept ((Kept.refl w4).alloc x)).c1
    have f226 := fun x => (Ha.out.kept ((Kept.refl w4).alloc x)).c2
    have f227 := fun x => (Ha.out.kept ((Kept.refl w4).alloc x)).c3
    have f228 := fun x => (Hb.out.kept ((Kept.refl w4).alloc x)).c0
    have f229 := fun x => (Hb.out.kept ((Kept.refl w4).alloc x)).c1
    have f230 := fun x => (Hb.out.kept ((Kept.refl w4).alloc x)).c2
    have f231 := fun x => (Hb.out.kept ((Kept.refl w4).alloc x)).c3
    have f232 := fun x => (Hc.out.kept ((Kept.refl w4).alloc x)).c0
    have f233 := fun x => (Hc.out.kept ((Kept.refl w4).alloc x)).c1
    have f234 := fun x => (Hc.out.kept ((Kept.refl w4).alloc x)).c2
    have f235 := fun x => (Hc.out.kept ((Kept.refl w4).alloc x)).c3
    go_wp2_with fail
    refine (Add_ok m n r s a1 a2 d1 d2 k1 c1 k2 c2 k5 c5 k6 c6 an ad cn cd _ (HA.out.1.1.kept (HK.out.trans ((Kept.refl w4).alloc _))) (HA.out.1.2.kept (HK.out.trans ((Kept.refl w4).alloc _))) (HA.out.2.2.1.kept (HK.out.trans ((Kept.refl w4).alloc _))) (HA.out.2.2.2.kept (HK.out.trans ((Kept.refl w4).alloc _))) HR.out.1 HR.out.2.2).mono ?_
    rintro e w5 ⟨hk, N5, D5, hS5, hR5⟩
    clear f224 f225 f226 f227 f228 f229 f230 f231 f232 f233 f234 f235
    have Hd := hid' ((RRow.alloc w4 (.bool false) (.slice ao4 k4' c4') (.bool t4) (.slice ap4 k4'' c4'')).kept hk)
    have Ha := hid' (Ha.out.kept (((Kept.refl w4).alloc _).trans hk))
    have Hb := hid' (Hb.out.kept (((Kept.refl w4).alloc _).trans hk))
    have Hc := hid' (Hc.out.kept (((Kept.refl w4).alloc _).trans hk))
    have HK := hid' (HK.out.trans (((Kept.refl w4).alloc _).trans hk))
    obtain ⟨v5, rfl, hq5⟩ := hR5.resolve_right (fun h => h.2 (sum_fits hS5 HA.out.1.1.bd HA.out.1.2.bd HA.out.2.2.1.bd HA.out.2.2.2.bd HR.out.1.vpos HR.out.2.2.vpos HS.out.2.1))
    obtain ⟨s5, ao5, k5', c5', x5, t5, ap5, k5'', c5'', y5, rfl, n5, r5, i5, n5', r5', i5', R5⟩ := hq5.right (by have := hS5.pos; omega) (by rw [Int.natAbs_natCast]; exact hS5.low)
    have H5 : Hid (Sl w5 (.slice ao5 k5' c5') x5 ∧ Sl w5 (.slice ap5 k5'' c5'') y5 ∧ RatR s5 t5 x5 y5 ∧ M.int s5 x5 = N5 ∧ M.val y5 = D5 ∧ IsSum (M.int m an) (M.val ad) (M.int r cn) (M.val cd) N5 D5) := ⟨n5.sl, n5'.sl, R5, i5, by have := R5.val; omega, hS5⟩
    clear hS5 hR5 hq5 n5 r5 i5 n5' r5' i5' R5
    clear hk
    have f236 := fun x => (Ha.out.kept ((Kept.refl w5).alloc x)).c0
    have f237 := fun x => (Ha.out.kept ((Kept.refl w5).alloc x)).c1
    have f238 := fun x => (Ha.out.kept ((Kept.refl w5).alloc x)).c2
    have f239 := fun x => (Ha.out.kept ((Kept.refl w5).alloc x)).c3
    have f240 := fun x => (Hb.out.kept ((Kept.refl w5).alloc x)).c0
    have f241 := fun x => (Hb.out.kept ((Kept.refl w5).alloc x)).c1
    have f242 := fun x => (Hb.out.kept ((Kept.refl w5).alloc x)).c2
    have f243 := fun x => (Hb.out.kept ((Kept.refl w5).alloc x)).c3
    have f244 := fun x => (Hc.out.kept ((Kept.refl w5).alloc x)).c0
    have f245 := fun x => (Hc.out.kept ((Kept.refl w5).alloc x)).c1
    have f246 := fun x => (Hc.out.kept ((Kept.refl w5).alloc x)).c2
    have f247 := fun x => (Hc.out.kept ((Kept.refl w5).alloc x)).c3
    have f248 := fun x => (Hd.out.kept ((Kept.refl w5).alloc x)).c0
    have f249 := fun x => (Hd.out.kept ((Kept.refl w5).alloc x)).c1
    have f250 := fun x => (Hd.out.kept ((Kept.refl w5).alloc x)).c2
    have f251 := fun x => (Hd.out.kept ((Kept.refl w5).alloc x)).c3
    go_wp2_with fail
    refine (Add_ok p q r s b1 b2 d1 d2 k3 c3 k4 c4 k5 c5 k6 c6 bn bd cn cd _ (HA.out.2.1.1.kept (HK.out.trans ((Kept.refl w5).alloc _))) (HA.out.2.1.2.kept (HK.out.trans ((Kept.refl w5).alloc _))) (HA.out.2.2.1.kept (HK.out.trans ((Kept.refl w5).alloc _))) (HA.out.2.2.2.kept (HK.out.trans ((Kept.refl w5).alloc _))) HR.out.2.1 HR.out.2.2).mono ?_
    rintro e w6 ⟨hk, N6, D6, hS6, hR6⟩
    clear f236 f237 f238 f239 f240 f241 f242 f243 f244 f245 f246 f247 f248 f249 f250 f251
    have Hx := hid' ((RRow.alloc w5 (.bool s5) (.slice ao5 k5' c5') (.bool t5) (.slice ap5 k5'' c5'')).kept hk)
    have Ha := hid' (Ha.out.kept (((Kept.refl w5).alloc _).trans hk))
    have Hb := hid' (Hb.out.kept (((Kept.refl w5).alloc _).trans hk))
    have Hc := hid' (Hc.out.kept (((Kept.refl w5).alloc _).trans hk))
    have Hd := hid' (Hd.out.kept (((Kept.refl w5).alloc _).trans hk))
    have HK := hid' (HK.out.trans (((Kept.refl w5).alloc _).trans hk))
    have H5 := hid' (And.intro (H5.out.1.kept (((Kept.refl w5).alloc _).trans hk)) (And.intro (H5.out.2.1.kept (((Kept.refl w5).alloc _).trans hk)) H5.out.2.2))
    obtain ⟨v6, rfl, hq6⟩ := hR6.resolve_right (fun h => h.2 (sum_fits hS6 HA.out.2.1.1.bd HA.out.2.1.2.bd HA.out.2.2.1.bd HA.out.2.2.2.bd HR.out.2.1.vpos HR.out.2.2.vpos HS.out.2.2))
    obtain ⟨s6, ao6, k6', c6', x6, t6, ap6, k6'', c6'', y6, rfl, n6, r6, i6, n6', r6', i6', R6⟩ := hq6.right (by have := hS6.pos; omega) (by rw [Int.natAbs_natCast]; exact hS6.low)
    have H6 : Hid (Sl w6 (.slice ao6 k6' c6') x6 ∧ Sl w6 (.slice ap6 k6'' c6'') y6 ∧ RatR s6 t6 x6 y6 ∧ M.int s6 x6 = N6 ∧ M.val y6 = D6 ∧ IsSum (M.int p bn) (M.val bd) (M.int r cn) (M.val cd) N6 D6) := ⟨n6.sl, n6'.sl, R6, i6, by have := R6.val; omega, hS6⟩
    clear hS6 hR6 hq6 n6 r6 i6 n6' r6' i6' R6
    clear hk
    have HK2 : Hid (isgn (M.int s5 x5 * M.val y6) (M.int s6 x6 * M.val y5) = 1) := by
      show _ = _
      rw [H5.out.2.2.2.1, H6.out.2.2.2.2.1, H6.out.2.2.2.1, H5.out.2.2.2.2.1, order_kept H5.out.2.2.2.2.2 H6.out.2.2.2.2.2 HR.out.1.vpos HR.out.2.1.vpos HR.out.2.2.vpos]; exact HKK.out
    have f252 := fun x => (Ha.out.kept ((Kept.refl w6).alloc x)).c0
    have f253 := fun x => (Ha.out.kept ((Kept.refl w6).alloc x)).c1
    have f254 := fun x => (Ha.out.kept ((Kept.refl w6).alloc x)).c2
    have f255 := fun x => (Ha.out.kept ((Kept.refl w6).alloc x)).c3
    have f256 := fun x => (Hb.out.kept ((Kept.refl w6).alloc x)).c0
    have f257 := fun x => (Hb.out.kept ((Kept.refl w6).alloc x)).c1
    have f258 := fun x => (Hb.out.kept ((Kept.refl w6).alloc x)).c2
    have f259 := fun x => (Hb.out.kept ((Kept.refl w6).alloc x)).c3
    have f260 := fun x => (Hd.out.kept ((Kept.refl w6).alloc x)).c0
    have f261 := fun x => (Hd.out.kept ((Kept.refl w6).alloc x)).c1
    have f262 := fun x => (Hd.out.kept ((Kept.refl w6).alloc x)).c2
    have f263 := fun x => (Hd.out.kept ((Kept.refl w6).alloc x)).c3
    have f264 := fun x => (Hx.out.kept ((Kept.refl w6).alloc x)).c0
    have f265 := fun x => (Hx.out.kept ((Kept.refl w6).alloc x)).c1
    have f266 := fun x => (Hx.out.kept ((Kept.refl w6).alloc x)).c2
    have f267 := fun x => (Hx.out.kept ((Kept.refl w6).alloc x)).c3
    go_wp2_with fail
    refine (Cmp_ok s5 t5 s6 t6 ao5 ap5 ao6 ap6 k5' c5' k5'' c5'' k6' c6' k6'' c6'' x5 y5 x6 y6 _ (H5.out.1.kept ((Kept.refl w6).alloc _)) (H5.out.2.1.kept ((Kept.refl w6).alloc _)) (H6.out.1.kept ((Kept.refl w6).alloc _)) (H6.out.2.1.kept ((Kept.refl w6).alloc _)) H5.out.2.2.1 H6.out.2.2.1).mono ?_
    rw [HK2.out]
    rintro e w7 ⟨rfl, hk⟩
    clear f252 f253 f254 f255 f256 f257 f258 f259 f260 f261 f262 f263 f264 f265 f266 f267
    have Hy := hid' ((RRow.alloc w6 (.bool s6) (.slice ao6 k6' c6') (.bool t6) (.slice ap6 k6'' c6'')).kept hk)
    have Ha := hid' (Ha.out.kept (((Kept.refl w6).alloc _).trans hk))
    have Hb := hid' (Hb.out.kept (((Kept.refl w6).alloc _).trans hk))
    have Hc := hid' (Hc.out.kept (((Kept.refl w6).alloc _).trans hk))
    have Hd := hid' (Hd.out.kept (((Kept.refl w6).alloc _).trans hk))
    have Hx := hid' (Hx.out.kept (((Kept.refl w6).alloc _).trans hk))
    have HK := hid' (HK.out.trans (((Kept.refl w6).alloc _).trans hk))
    have H5 := hid' (And.intro (H5.out.1.kept (((Kept.refl w6).alloc _).trans hk)) (And.intro (H5.out.2.1.kept (((Kept.refl w6).alloc _).trans hk)) H5.out.2.2))
    have H6 := hid' (And.intro (H6.out.1.kept (((Kept.refl w6).alloc _).trans hk)) (And.intro (H6.out.2.1.kept (((Kept.refl w6).alloc _).trans hk)) H6.out.2.2))
    clear hk
    have f268 := Ha.out.c0
    have f269 := Ha.out.c1
    have f270 := Ha.out.c2
    have f271 := Ha.out.c3
    have f272 := Hb.out.c0
    have f273 := Hb.out.c1
    have f274 := Hb.out.c2
    have f275 := Hb.out.c3
    have f276 := Hd.out.c0
    have f277 := Hd.out.c1
    have f278 := Hd.out.c2
    have f279 := Hd.out.c3
    go_wp2_with fail
    refine (lsame_f m n p q _ _ _ _ an ad bn bd _ (HA.out.1.1.kept (HK.out.trans (Kept.refl w7))) (HA.out.1.2.kept (HK.out.trans (Kept.refl w7))) (HA.out.2.1.1.kept (HK.out.trans (Kept.refl w7))) (HA.out.2.1.2.kept (HK.out.trans (Kept.refl w7))) (by have := HR.out.1.ra.1; omega) (by have := HR.out.1.rd.1; omega) (by have := HR.out.2.1.ra.1; omega) (by have := HR.out.2.1.rd.1; omega) (fun h => ne_cross HKK.out (by decide) ((lowest_one HR.out.1 HR.out.2.1 HA.out.1.1.bd HA.out.1.2.bd HA.out.2.1.1.bd HA.out.2.1.2.bd).2 h))).mono ?_
    rintro e w8 ⟨rfl, hk⟩
    clear f268 f269 f270 f271 f272 f273 f274 f275 f276 f277 f278 f279
    have Ha := hid' (Ha.out.kept ((Kept.refl w7).trans hk))
    have Hb := hid' (Hb.out.kept ((Kept.refl w7).trans hk))
    have Hc := hid' (Hc.out.kept ((Kept.refl w7).trans hk))
    have Hd := hid' (Hd.out.kept ((Kept.refl w7).trans hk))
    have Hx := hid' (Hx.out.kept ((Kept.refl w7).trans hk))
    have Hy := hid' (Hy.out.kept ((Kept.refl w7).trans hk))
    have HK := hid' (HK.out.trans ((Kept.refl w7).trans hk))
    have H5 := hid' (And.intro (H5.out.1.kept ((Kept.refl w7).trans hk)) (And.intro (H5.out.2.1.kept ((Kept.refl w7).trans hk)) H5.out.2.2))
    have H6 := hid' (And.intro (H6.out.1.kept ((Kept.refl w7).trans hk)) (And.intro (H6.out.2.1.kept ((Kept.refl w7).trans hk)) H6.out.2.2))
    clear hk
    have f280 := Hd.out.c0
    have f281 := Hd.out.c1
    have f282 := Hd.out.c2
    have f283 := Hd.out.c3
    go_wp2
    go_ret
    exact ⟨rfl, HK.out⟩
  · clear hn
    rcases hc with rfl | rfl
    · go_wp2
      go_ret
      exact ⟨rfl, HK.out⟩
    · go_wp2
      go_ret
      exact ⟨rfl, HK.out⟩

theorem rord_any (m n p q r s : Bool) (a1 a2 b1 b2 d1 d2 : Option Addr) (k1 c1 k2 c2 k3 c3 k4 c4 k5 c5 k6 c6 : Nat) (an ad bn bd cn cd : List Nat) (w : World) (s1 : Sl w (.slice a1 k1 c1) an) (s2 : Sl w (.slice a2 k2 c2) ad) (s3 : Sl w (.slice b1 k3 c3) bn) (s4 : Sl w (.slice b2 k4 c4) bd) (s5 : Sl w (.slice d1 k5 c5) cn) (s6 : Sl w (.slice d2 k6 c6) cd) (l1 : an.length ≤ 9223372036854775807) (l2 : ad.length ≤ 9223372036854775807) (l3 : bn.length ≤ 9223372036854775807) (l4 : bd.length ≤ 9223372036854775807) (l5 : cn.length ≤ 9223372036854775807) (l6 : cd.length ≤ 9223372036854775807) :
    Calls Try.prog 5 #[.agg #[.bool m, .slice a1 k1 c1, .bool n, .slice a2 k2 c2], .agg #[.bool p, .slice b1 k3 c3, .bool q, .slice b2 k4 c4], .agg #[.bool r, .slice d1 k5 c5, .bool s, .slice d2 k6 c6]] w fun e w' => e = .returned (.bool true) ∧ Kept w w' := by
  have hx : ∀ A B : Int, isgn A B = -1 ∨ isgn A B = 0 ∨ isgn A B = 1 := fun A B => by unfold isgn; split <;> (try split) <;> simp
  rcases hx (M.int m an * M.val bd) (M.int p bn * M.val ad) with h | h | h
  · exact rord_lt m n p q r s a1 a2 b1 b2 d1 d2 k1 c1 k2 c2 k3 c3 k4 c4 k5 c5 k6 c6 an ad bn bd cn cd w s1 s2 s3 s4 s5 s6 l1 l2 l3 l4 l5 l6 h
  · exact rord_eq m n p q r s a1 a2 b1 b2 d1 d2 k1 c1 k2 c2 k3 c3 k4 c4 k5 c5 k6 c6 an ad bn bd cn cd w s1 s2 s3 s4 s5 s6 l1 l2 l3 l4 l5 l6 h
  · exact rord_gt m n p q r s a1 a2 b1 b2 d1 d2 k1 c1 k2 c2 k3 c3 k4 c4 k5 c5 k6 c6 an ad bn bd cn cd w s1 s2 s3 s4 s5 s6 l1 l2 l3 l4 l5 l6 h

end F
end Go.Proofs.Ytbingbnndmmjbaa
