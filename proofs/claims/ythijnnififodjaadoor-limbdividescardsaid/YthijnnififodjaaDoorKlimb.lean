/- takeLimb of limb: one limb of a quotient. -/
import Derived.Test.YthijnnififodjaaDoorKguess
namespace Go.Proofs.YthijnnififodjaaDoor
open Go.RowKit

theorem top3 {q : List Nat} {n : Nat} (hn : 2 ≤ n) (h : q.length = n + 1) : M.val q = M.val (q.take (n - 2)) + 4294967296 ^ (n - 2) * ((q.getD n 0 * 4294967296 + q.getD (n - 1) 0) * 4294967296 + q.getD (n - 2) 0) := by
  rw [M.take_drop_val q (n - 2) (by omega), M.drop_getD q (n - 2) (by omega), show n - 2 + 1 = n - 1 by omega, M.drop_getD q (n - 1) (by omega), show n - 1 + 1 = n by omega, M.drop_getD q n (by omega), List.drop_of_length_le (by omega)]
  congr 2
  simp only [M.val]
  omega

theorem top2 {d : List Nat} {n : Nat} (hn : 2 ≤ n) (h : d.length = n) : M.val d = M.val (d.take (n - 2)) + 4294967296 ^ (n - 2) * (d.getD (n - 1) 0 * 4294967296 + d.getD (n - 2) 0) := by
  rw [M.take_drop_val d (n - 2) (by omega), M.drop_getD d (n - 2) (by omega), show n - 2 + 1 = n - 1 by omega, M.drop_getD d (n - 1) (by omega), show n - 1 + 1 = n by omega, List.drop_of_length_le (by omega)]
  congr 2
  simp only [M.val]
  omega

/-- A guess by the top limbs is right, or one too great. -/
theorem guess_near {K lq ld P D U V g : Nat} (hlq : lq < K) (hld : ld < K) (hP : P = lq + K * U) (hD : D = ld + K * V) (hV : 4294967296 ≤ V) (hlt : P < 4294967296 * D) (h : GuessIs U V g) : 0 < D ∧ P / D ≤ g ∧ g ≤ P / D + 1 := by
  obtain ⟨hg, hle, hmax⟩ := h
  have hD0 : 0 < D := by
    have : K * 1 ≤ K * V := Nat.mul_le_mul_left _ (by omega)
    omega
  have hKD : K * 4294967296 ≤ D := by
    have : K * 4294967296 ≤ K * V := Nat.mul_le_mul_left _ hV
    omega
  have hq0 : P / D < 4294967296 := by rw [Nat.div_lt_iff_lt_mul hD0]; exact hlt
  have hqD : P / D * D ≤ P := Nat.div_mul_le_self P D
  refine ⟨hD0, ?_, ?_⟩
  · apply Classical.byContradiction
    intro hn
    have h1 := hmax (P / D) (by omega) hq0
    generalize P / D = t at *
    have hA : P < K * U + K := by omega
    have hB : K * U + K ≤ K * (t * V) := by rw [← Nat.mul_succ]; exact Nat.mul_le_mul_left _ h1
    have hC : K * (t * V) ≤ t * D := by rw [Nat.mul_left_comm]; exact Nat.mul_le_mul_left _ (by omega)
    exact Nat.lt_irrefl _ (Nat.lt_of_lt_of_le hA (Nat.le_trans hB (Nat.le_trans hC hqD)))
  · by_cases hg0 : g = 0
    · rw [hg0]; exact Nat.zero_le _
    · have h1 : g * ld ≤ 4294967296 * K := Nat.mul_le_mul (by omega) (by omega)
      have h2 : K * (g * V) ≤ K * U := Nat.mul_le_mul_left _ hle
      have h3 : g * D = g * ld + K * (g * V) := by rw [hD, Nat.mul_add, Nat.mul_left_comm]
      have h5 : g * ld < g * K := Nat.mul_lt_mul_of_pos_left hld (by omega)
      have h6 : g * K ≤ 4294967296 * K := Nat.mul_le_mul_right _ (by omega)
      have h4 : g * D < P + D := by
        rw [h3, hP]
        rw [Nat.mul_comm K 4294967296] at hKD
        omega
      have h7 : g < P / D + 2 := by
        apply Classical.byContradiction
        intro hn
        have h8 : (P / D + 2) * D ≤ g * D := Nat.mul_le_mul_right _ (by omega)
        have h9 := Nat.lt_div_mul_add hD0 (a := P)
        rw [Nat.add_mul] at h8
        omega
      exact Nat.le_of_lt_succ h7

theorem top_key {P D lq ld K X Y Zz : Nat} (hP : P = lq + Zz) (hD : D = ld + Y) (hlt : P < 4294967296 * D) (hld : ld < K) (h6 : Y + K ≤ X) (h5 : 4294967296 * X ≤ Zz) : False := by omega

theorem top_lt {P D lq ld K top u0 v1 v0 : Nat} (hP : P = lq + K * (top * 4294967296 + u0)) (hD : D = ld + K * (v1 * 4294967296 + v0)) (hlt : P < 4294967296 * D) (hld : ld < K) (f0 : v0 < 4294967296) : top < (v1 + 1) * 4294967296 := by
  apply Classical.byContradiction
  intro hn2
  have h5 : K * ((v1 + 1) * 4294967296 * 4294967296) ≤ K * (top * 4294967296 + u0) := Nat.mul_le_mul_left _ (by omega)
  have h6 : K * (v1 * 4294967296 + v0) + K ≤ K * ((v1 + 1) * 4294967296) := by rw [← Nat.mul_succ]; exact Nat.mul_le_mul_left _ (by omega)
  have h7 : K * ((v1 + 1) * 4294967296 * 4294967296) = 4294967296 * (K * ((v1 + 1) * 4294967296)) := by rw [← Nat.mul_assoc, Nat.mul_comm]
  rw [h7] at h5
  exact top_key hP hD hlt hld h6 h5

theorem take_plain {P D g v : Nat} (hD : 0 < D) (h1 : P / D ≤ g) (h : P = v + g * D) : g = P / D ∧ v = P % D := by
  have h2 : g ≤ P / D := by rw [Nat.le_div_iff_mul_le hD]; omega
  have e : g = P / D := by omega
  refine ⟨e, ?_⟩
  have h3 := Nat.div_add_mod P D
  rw [← e, Nat.mul_comm] at h3
  omega

theorem take_over {P D g v v' c Q : Nat} (hD : 0 < D) (h2 : g ≤ P / D + 1) (hv : v < Q) (hv' : v' < Q) (hDQ : D ≤ Q) (h : P + Q = v + g * D) (hb : v' + Q * c = v + D) : 1 ≤ g ∧ g - 1 = P / D ∧ v' = P % D := by
  have h3 : P / D < g := by
    rw [Nat.div_lt_iff_lt_mul hD]; omega
  have e : g = P / D + 1 := by omega
  have h4 := Nat.div_add_mod P D
  have h5 := Nat.mod_lt P hD
  rw [e, Nat.add_mul, Nat.one_mul, Nat.mul_comm] at h
  have h6 : v' + Q * c = Q + P % D := by omega
  have hc : c = 1 := by
    rcases Nat.lt_or_ge c 1 with hc | hc
    · have : c = 0 := by omega
      subst this
      omega
    · rcases Nat.lt_or_ge c 2 with h7 | h7
      · omega
      · have : Q * 2 ≤ Q * c := Nat.mul_le_mul_left _ h7
        omega
  subst hc
  exact ⟨by rw [e]; exact Nat.le_add_left 1 _, by rw [e]; exact Nat.add_sub_cancel _ _, by omega⟩

theorem limb_facts {q d : List Nat} (bq : M.Bd q) (bd : M.Bd d) (hql : q.length = d.length + 1) (hn : 2 ≤ d.length) (htop : 2147483648 ≤ d.getD (d.length - 1) 0) (hlt : M.val q < 4294967296 * M.val d) :
    q.getD d.length 0 * 4294967296 + q.getD (d.length - 1) 0 < (d.getD (d.length - 1) 0 + 1) * 4294967296 ∧
    ∀ g, GuessIs ((q.getD d.length 0 * 4294967296 + q.getD (d.length - 1) 0) * 4294967296 + q.getD (d.length - 2) 0) (d.getD (d.length - 1) 0 * 4294967296 + d.getD (d.length - 2) 0) g → 0 < M.val d ∧ M.val q / M.val d ≤ g ∧ g ≤ M.val q / M.val d + 1 := by
  have hV : 4294967296 ≤ d.getD (d.length - 1) 0 * 4294967296 + d.getD (d.length - 2) 0 := by omega
  have f0 := bd.getD (d.length - 2)
  have hlq := M.val_lt (bq.take (d.length - 2))
  have hld := M.val_lt (bd.take (d.length - 2))
  rw [List.length_take, Nat.min_eq_left (by omega)] at hlq hld
  have e3 := top3 hn hql
  have e2 := top2 (d := d) hn rfl
  revert hV f0 hlq hld e3 e2 hlt
  generalize 4294967296 ^ (d.length - 2) = K
  generalize M.val (q.take (d.length - 2)) = lq
  generalize M.val (d.take (d.length - 2)) = ld
  generalize q.getD d.length 0 = u2
  generalize q.getD (d.length - 1) 0 = u1
  generalize q.getD (d.length - 2) 0 = u0
  generalize d.getD (d.length - 1) 0 = v1
  generalize d.getD (d.length - 2) 0 = v0
  generalize M.val q = P
  generalize M.val d = Dv
  intro hlt hV f0 hlq hld e3 e2
  exact ⟨top_lt (P := P) (D := Dv) (lq := lq) (ld := ld) (K := K) (top := u2 * 4294967296 + u1) (u0 := u0) (v1 := v1) (v0 := v0) e3 e2 hlt hld f0, fun g hg => guess_near (K := K) (lq := lq) (ld := ld) (P := P) (D := Dv) (U := (u2 * 4294967296 + u1) * 4294967296 + u0) (V := v1 * 4294967296 + v0) (g := g) hlq hld e3 e2 hV hlt hg⟩

theorem Win.sl {w : World} {b N i cap : Nat} {f : Nat → Value} {q : List Nat} (h : Win w b N i f q) (hc : q.length ≤ cap) : Sl w (.slice (some ⟨b, i, none⟩) q.length cap) q :=
  ⟨h.bd, _, cap, rfl, fun _ => ⟨hc, b, i, rfl, h.row.lt, fun j hj => by rw [h.row.cell (by have := h.len; omega), h.at_ j hj]⟩⟩

theorem Win.kept {w w' : World} {b N i : Nat} {f : Nat → Value} {q : List Nat} (h : Win w b N i f q) (k : Kept w w') : Win w' b N i f q := ⟨h.row.of_block (Below.block k _ h.row.lt), h.at_, h.len, h.bd⟩

theorem grown_kept {w w' : World} {b : Nat} (h : Kept w w') : w.grownBy w' (some b) := ⟨h.os, h.tape, h.output, h.size, fun k hk _ => h.block k hk⟩

theorem grown_trans {a b c : World} {r : Option Nat} (h : a.grownBy b r) (k : b.grownBy c r) : a.grownBy c r :=
  ⟨k.os.trans h.os, k.tape.trans h.tape, k.output.trans h.output, Nat.le_trans h.size k.size, fun j hj hr => (k.block j (Nat.lt_of_lt_of_le hj h.size) hr).trans (h.block j hj hr)⟩

end Go.Proofs.YthijnnififodjaaDoor
