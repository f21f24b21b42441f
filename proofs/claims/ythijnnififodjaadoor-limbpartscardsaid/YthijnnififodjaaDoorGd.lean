/- blend of limb: a multiple less a multiple. Plain mathematics of Lehmer's strides: several of Euclid's steps in one, told by the top words (Collins' condition). Nothing of Go stands in it. topWord and leading of limb: the top words of two numbers. surely of limb: Lehmer's strides by the top words; wordDivisor. -/
import Derived.Test.YthijnnififodjaaDoorGc
namespace Go.Proofs.YthijnnififodjaaDoor
open Go.RowKit

set_option maxRecDepth 100000 in
set_option maxHeartbeats 4000000 in
theorem blend_any (n : Nat) (va vb : Value) (a b : List Nat) (p q : Nat) (w : World) (ha : Sl w va a) (hb : Sl w vb b) (hn : n ≤ 1000) (hla : a.length ≤ n) (hlb : b.length ≤ n) (hp : p < 4294967296) (hq : q < 4294967296) (hle : q * M.val b ≤ p * M.val a) (hlt : p * M.val a < q * M.val b + 4294967296 ^ n) :
    Calls Tryd.prog 71 #[.int .i64 (n : Int), va, .int .u64 (p : Int), vb, .int .u64 (q : Int)] w fun e w' => Kept w w' ∧ ∃ v' l', e = .returned v' ∧ New w.heap.size w' v' l' ∧ M.Tr l' ∧ M.val l' = p * M.val a - q * M.val b ∧ l'.length ≤ n := by
  have HA : Hid (Sl w va a) := ha
  have HB : Hid (Sl w vb b) := hb
  have bda := ha.bd
  have bdb := hb.bd
  have HE : Hid (q * M.val b ≤ p * M.val a ∧ p * M.val a < q * M.val b + 4294967296 ^ n) := ⟨hle, hlt⟩
  have HLN : Hid (a.length ≤ n ∧ b.length ≤ n) := ⟨hla, hlb⟩
  have hla' : a.length ≤ 1000000 := by omega
  have hlb' : b.length ≤ 1000000 := by omega
  have hmk := make_limbs n (by omega)
  clear ha hb hle hlt hla hlb
  go_enter Tryd.func71, Tryd.ntmps71
  go_wp2
  go_loopw [12, 13, 14, 21] (fun vu vd vb' vi wr => ∃ (k u d bw : Nat) (o : List Nat), k ≤ n ∧ u < 4294967296 ∧ d < 4294967296 ∧ bw ≤ 1 ∧ vi = .int .i64 (k : Int) ∧ vu = .int .u64 (u : Int) ∧ vd = .int .u64 (d : Int) ∧ vb' = .int .u64 (bw : Int) ∧
      Hid (o.length = k ∧ M.Bd o ∧ p * M.val (a.take k) + 4294967296 ^ k * (d + bw) = M.val o + q * M.val (b.take k) + 4294967296 ^ k * u) ∧
      Hid (wr.rowIs w.heap.size 43 n (fun j => .int .u32 ((o.getD j 0 : Nat) : Int))) ∧ Hid (Kept w wr)) (fun _ _ _ vi _ => n - (intOf vi).toNat)
  case atStart => exact ⟨0, 0, 0, 0, [], Nat.zero_le _, by omega, by omega, by omega, rfl, rfl, rfl, rfl, ⟨rfl, M.Bd_nil, by simp [M.val]⟩, row_made w _, (Kept.refl w).alloc _⟩
  case round =>
    obtain ⟨k, u, d, bw, o, hk, hu, hd, hbw, rfl, rfl, rfl, rfl, ho, hrow, hkept⟩ := hrel
    by_cases hlt : k < n
    · have hf : wr.frozen? ⟨w.heap.size, k, none⟩ = false := hrow.out.frozen _
      have hco : wr.cell? ⟨w.heap.size, k, none⟩ = some (.int .u32 ((o.getD k 0 : Nat) : Int)) := hrow.out.cell hlt
      obtain ⟨z, hz⟩ : ∃ z : Int, z = ((o.getD k 0 : Nat) : Int) := ⟨_, rfl⟩
      rw [← hz] at hco
      have hxb := bda.getD k
      have hyb := bdb.getD k
      have hca := limbAt_any wr (HA.out.kept hkept.out) (k : Int) (by omega) hla'
      have hcb := limbAt_any wr (HB.out.kept hkept.out) (k : Int) (by omega) hlb'
      rw [Int.toNat_natCast] at hca hcb
      obtain ⟨x, hx⟩ : ∃ x, x = a.getD k 0 := ⟨_, rfl⟩
      obtain ⟨y, hy⟩ : ∃ y, y = b.getD k 0 := ⟨_, rfl⟩
      rw [← hx] at hca hxb
      rw [← hy] at hcb hyb
      have HXY : Hid (x = a.getD k 0 ∧ y = b.getD k 0) := ⟨hx, hy⟩
      have CA : Hid (Calls Tryd.prog 72 #[va, .int .i64 (k : Int)] wr fun e w' => e = .returned (.int .u64 (x : Int)) ∧ w' = wr) := hca
      have CB : Hid (Calls Tryd.prog 72 #[vb, .int .i64 (k : Int)] wr fun e w' => e = .returned (.int .u64 (y : Int)) ∧ w' = wr) := hcb
      clear hx hy hca hcb hz
      have hpx : p * x ≤ 4294967295 * 4294967295 := Nat.mul_le_mul (by omega) (by omega)
      have hqy : q * y ≤ 4294967295 * 4294967295 := Nat.mul_le_mul (by omega) (by omega)
      obtain ⟨m1, hm1⟩ : ∃ m, m = p * x := ⟨_, rfl⟩
      obtain ⟨m2, hm2⟩ : ∃ m, m = q * y := ⟨_, rfl⟩
      rw [← hm1] at hpx
      rw [← hm2] at hqy
      have hmi1 : (p : Int) * (x : Int) = (m1 : Int) := by rw [hm1]; simp
      have hmi2 : (q : Int) * (y : Int) = (m2 : Int) := by rw [hm2]; simp
      have hw1 : IntKind.u64.wrap (m1 : Int) = (m1 : Int) := by rw [IntKind.wrap_u64]; omega
      have hw2 : IntKind.u64.wrap (m2 : Int) = (m2 : Int) := by rw [IntKind.wrap_u64]; omega
      have hw3 : IntKind.u64.wrap ((u : Int) + (m1 : Int)) = (u : Int) + (m1 : Int) := by rw [IntKind.wrap_u64]; omega
      have hw4 : IntKind.u64.wrap ((d : Int) + (m2 : Int)) = (d : Int) + (m2 : Int) := by rw [IntKind.wrap_u64]; omega
      have hal1 := and_low (u + m1) (by omega)
      rw [show ((u + m1 : Nat) : Int) = (u : Int) + (m1 : Int) by omega] at hal1
      have hal2 := and_low (d + m2) (by omega)
      rw [show ((d + m2 : Nat) : Int) = (d : Int) + (m2 : Int) by omega] at hal2
      have HM : Hid (m1 = p * x ∧ m2 = q * y) := ⟨hm1, hm2⟩
      clear hm1 hm2
      go_wp2_with fail
      refine CA.out.mono ?_
      rintro e w9 ⟨rfl, rfl⟩
      go_wp2_with fail
      refine CB.out.mono ?_
      rintro e w9 ⟨rfl, rfl⟩
      go_wp2
      go_roundw
      case rel =>
        obtain ⟨v, bw', hv1, hv2, hv3, hv4, hv5⟩ := borrow_fact ((u + m1) % 4294967296) ((d + m2) % 4294967296) bw (Nat.mod_lt _ (by decide)) (Nat.mod_lt _ (by decide)) hbw
        rw [show (((u + m1) % 4294967296 : Nat) : Int) = ((u : Int) + (m1 : Int)) % 4294967296 by omega, show (((d + m2) % 4294967296 : Nat) : Int) = ((d : Int) + (m2 : Int)) % 4294967296 by omega] at hv4 hv5
        refine ⟨k + 1, (u + m1) / 4294967296, (d + m2) / 4294967296, bw', o ++ [v], by omega, by omega, by omega, hv2, by go_num, by simp, by simp, by rw [hv4], ⟨by rw [List.length_append, ho.out.1]; rfl, ho.out.2.1.snoc hv1, ?_⟩, ?_, ?_⟩
        · exact blend_step ho.out.1 HXY.out.1 HXY.out.2 (by rw [HM.out.1]) (by rw [HM.out.2]) hv3 ho.out.2.2
        · exact row_snoc hrow.out k ho.out.1.symm v _ hv5
        · exact hkept.out.setCell (Nat.le_refl _) _
      case measure => simp [intOf]; omega
    · obtain rfl : k = n := by omega
      have hend : M.val o = p * M.val a - q * M.val b := by
        have h9 := ho.out.2.2
        rw [List.take_of_length_le (l := a) HLN.out.1, List.take_of_length_le (l := b) HLN.out.2] at h9
        have h8 := M.val_lt ho.out.2.1
        rw [ho.out.1] at h8
        exact blend_end h9 HE.out.1 HE.out.2 h8
      have HV : Hid (M.val o = p * M.val a - q * M.val b) := hend
      have HN : Hid (New w.heap.size wr (.slice (some ⟨w.heap.size, 0, none⟩) k k) o) := New.of_row hrow.out ho.out.2.1 ho.out.1.symm (Nat.le_refl _) (Nat.le_refl _)
      clear hend
      go_wp2_with fail
      refine (trim_new _ HN.out (by rw [ho.out.1]; omega)).mono ?_
      rintro e w5 ⟨rfl, vq, q', rfl, hq1, hq2, hq3, hq4⟩
      have HQ : Hid (New w.heap.size w5 vq q' ∧ M.Tr q' ∧ M.val q' = p * M.val a - q * M.val b ∧ q'.length ≤ k) := ⟨hq1, hq2, by rw [hq3]; exact HV.out, by rw [← ho.out.1]; exact hq4⟩
      clear hq1 hq2 hq3 hq4
      go_wp2
      go_ret
      exact ⟨hkept.out, vq, q', rfl, HQ.out⟩

end Go.Proofs.YthijnnififodjaaDoor

namespace Go.Proofs.YthijnnififodjaaDoor
namespace Leh

/-- The sign of a step. -/
def sg (t : Bool) : Int := if t then -1 else 1

theorem sg_not (t : Bool) : sg (!t) = - sg t := by cases t <;> rfl
theorem sg_sq (t : Bool) : sg t * sg t = 1 := by cases t <;> rfl

/-- What the numbers are led to by the older pair of factors, and by the newer one. -/
def e0 (t : Bool) (x0 y0 : Nat) (X Y : Int) : Int := - sg t * (x0 * X - y0 * Y)
def e1 (t : Bool) (x1 y1 : Nat) (X Y : Int) : Int := sg t * (x1 * X - y1 * Y)

/-- Numbers whose tops, over K, are A and B. -/
def Tops (A B K : Nat) (X Y : Nat) : Prop := ∃ p q : Nat, p < K ∧ q < K ∧ X = A * K + p ∧ Y = B * K + q

/-- Two steps or more are done. -/
structure Far (A B : Nat) (x0 y0 x1 y1 : Nat) (t : Bool) : Prop where
  some : 1 ≤ y0
  chain : ∀ K X Y, Tops A B K X Y → e0 t x0 y0 X Y ≤ Y ∧ e0 t x0 y0 X Y + e1 t x1 y1 X Y < (X : Int) + Y

/-- One step or more is done. -/
structure On (A B : Nat) (a b x0 y0 x1 y1 x2 y2 : Nat) (t : Bool) : Prop where
  pos : 1 ≤ B
  fa : (a : Int) = e1 t x1 y1 A B
  fb : (b : Int) = e0 t x2 y2 A B
  d1 : (x1 : Int) * y2 - x2 * y1 = sg t
  d0 : (x0 : Int) * y1 - x1 * y0 = - sg t
  le1 : x1 ≤ y1
  le2 : x2 ≤ y2
  le01 : x0 + x1 ≤ y0 + y1
  c1 : y1 ≤ a
  c2 : ((y0 + y1 + a : Nat) : Int) ≤ e0 t x0 y0 A B
  p2 : 1 ≤ y2
  p1 : 1 ≤ y1
  m12 : y1 ≤ y2
  m01 : y0 ≤ y1
  le0 : x0 ≤ y1
  lt : b < a
  how : (x0 = 1 ∧ y0 = 0 ∧ x1 = 0 ∧ y1 = 1 ∧ x2 = 1 ∧ t = true) ∨ Far A B x0 y0 x1 y1 t

/-- The state ahead of a step. -/
def St (A B : Nat) (a b x0 y0 x1 y1 x2 y2 : Nat) (t : Bool) : Prop :=
  (a = A ∧ b = B ∧ x0 = 0 ∧ y0 = 0 ∧ x1 = 1 ∧ y1 = 0 ∧ x2 = 0 ∧ y2 = 1 ∧ t = false) ∨ On A B a b x0 y0 x1 y1 x2 y2 t

theorem On.id1 {A B a b x0 y0 x1 y1 x2 y2 : Nat} {t : Bool} (h : On A B a b x0 y0 x1 y1 x2 y2 t) : y2 * a + y1 * b = A := by
  have h1 := h.fa
  have h2 := h.fb
  have h3 := h.d1
  have h4 := sg_sq t
  unfold e1 at h1
  unfold e0 at h2
  have : (y2 : Int) * a + y1 * b = A := by grind
  exact_mod_cast this

/-- The older remainder is no lesser than the newer one, and the factors of both are told. -/
theorem On.id0 {A B a b x0 y0 x1 y1 x2 y2 : Nat} {t : Bool} (h : On A B a b x0 y0 x1 y1 x2 y2 t) : (y1 : Int) * e0 t x0 y0 A B + y0 * a = A := by
  have h1 := h.fa
  have h3 := h.d0
  have h4 := sg_sq t
  unfold e1 at h1
  unfold e0
  grind

theorem mul_lt_sq {y : Nat} (h : y * (y + y) < 18446744073709551616) : y < 4294967296 := by
  apply Classical.byContradiction
  intro hn
  have h1 : 4294967296 * (4294967296 + 4294967296) ≤ y * (y + y) := Nat.mul_le_mul (by omega) (by omega)
  omega

/-- The factors are below 2^32. -/
theorem On.small {A B a b x0 y0 x1 y1 x2 y2 : Nat} {t : Bool} (h : On A B a b x0 y0 x1 y1 x2 y2 t) (hA : A < 18446744073709551616) : y1 < 4294967296 ∧ x1 < 4294967296 ∧ y0 < 4294967296 ∧ x0 < 4294967296 := by
  have h0 := h.id0
  have hc1 := h.c1
  have hc2 := h.c2
  have h1 := h.le1
  have h2 := h.le01
  have h3 := h.m01
  have hy : y1 < 4294967296 := by
    apply mul_lt_sq
    obtain ⟨E, hE⟩ : ∃ E : Nat, e0 t x0 y0 A B = (E : Int) := Int.eq_ofNat_of_zero_le (by omega)
    rw [hE] at h0 hc2
    have h4 : y1 * E + y0 * a = A := by exact_mod_cast h0
    have h5 : y1 * (y1 + y1) ≤ y1 * E := Nat.mul_le_mul_left _ (by omega)
    omega
  have hx0 : x0 < 4294967296 := by
    have := h.le0
    omega
  exact ⟨hy, by omega, by omega, hx0⟩

theorem sg_cases (t : Bool) : sg t = 1 ∨ sg t = -1 := by cases t <;> simp [sg]

/-- A multiple of the one less a multiple of the other, told by the tops. -/
theorem near {s : Int} {x y p q K : Nat} (hs : s = 1 ∨ s = -1) (hx : x ≤ y) (hp : p < K) (hq : q < K) : -((y : Int) * K) ≤ s * ((x : Int) * p - y * q) ∧ s * ((x : Int) * p - y * q) ≤ (y : Int) * K := by
  have h1 : x * p ≤ y * K := Nat.mul_le_mul hx (by omega)
  have h2 : y * q ≤ y * K := Nat.mul_le_mul_left _ (by omega)
  have h1' : (x : Int) * p ≤ y * K := by exact_mod_cast h1
  have h2' : (y : Int) * q ≤ y * K := by exact_mod_cast h2
  have h3 : (0 : Int) ≤ (x : Int) * p := by exact_mod_cast Nat.zero_le _
  have h4 : (0 : Int) ≤ (y : Int) * q := by exact_mod_cast Nat.zero_le _
  generalize (x : Int) * p = u at *
  generalize (y : Int) * q = v at *
  generalize (y : Int) * K = k at *
  rcases hs with rfl | rfl <;> omega

/-- What the newer pair leads to is not below 0, and not above what the older pair leads to. -/
theorem On.order {A B a b x0 y0 x1 y1 x2 y2 : Nat} {t : Bool} (h : On A B a b x0 y0 x1 y1 x2 y2 t) {K X Y : Nat} (ht : Tops A B K X Y) : 0 ≤ e1 t x1 y1 X Y ∧ e1 t x1 y1 X Y ≤ e0 t x0 y0 X Y := by
  obtain ⟨p, q, hp, hq, rfl, rfl⟩ := ht
  have hc1 := h.c1
  have hc2 := h.c2
  have hfa := h.fa
  constructor
  · have h1 := (near (sg_cases t) h.le1 hp hq).1
    have h2 : e1 t x1 y1 ((A * K + p : Nat) : Int) ((B * K + q : Nat) : Int) = (a : Int) * K + sg t * ((x1 : Int) * p - y1 * q) := by
      rw [hfa]; unfold e1; push_cast; grind
    have h3 : (y1 : Int) * K ≤ (a : Int) * K := by exact_mod_cast Nat.mul_le_mul_right K hc1
    omega
  · have h1 := (near (sg_cases t) h.le01 hp hq).2
    obtain ⟨E, hE⟩ : ∃ E : Nat, e0 t x0 y0 A B = (E : Int) := Int.eq_ofNat_of_zero_le (by omega)
    have h2 : e0 t x0 y0 ((A * K + p : Nat) : Int) ((B * K + q : Nat) : Int) - e1 t x1 y1 ((A * K + p : Nat) : Int) ((B * K + q : Nat) : Int) = (E : Int) * K - (a : Int) * K - sg t * (((x0 + x1 : Nat) : Int) * p - ((y0 + y1 : Nat) : Int) * q) := by
      rw [hfa, ← hE]; unfold e0 e1; push_cast; grind
    rw [hE] at hc2
    have h3 : ((y0 + y1 : Nat) : Int) * K + (a : Int) * K ≤ (E : Int) * K := by
      have h4 : (y0 + y1 + a) * K ≤ E * K := Nat.mul_le_mul_right K (by omega)
      rw [Nat.add_mul] at h4
      exact_mod_cast h4
    omega

theorem tops_pos {A B K X Y : Nat} (h : Tops A B K X Y) (hB : 1 ≤ B) : 1 ≤ Y := by
  obtain ⟨p, q, hp, hq, rfl, rfl⟩ := h
  have : 1 * 1 ≤ B * K := Nat.mul_le_mul hB (by omega)
  omega

/-- The first step. -/
theorem st_first {A B : Nat} (h1 : 1 ≤ B) (h2 : B + 1 ≤ A) : On A B B (A % B) 1 0 0 1 1 (A / B) true := by
  have hq : 1 ≤ A / B := (Nat.one_le_div_iff h1).2 (by omega)
  have he := Nat.div_add_mod A B
  have he' : (B : Int) * ((A / B : Nat) : Int) + ((A % B : Nat) : Int) = (A : Int) := by exact_mod_cast he
  refine ⟨h1, by simp [e1, sg], ?_, by simp [sg], by simp [sg], by omega, hq, by omega, h1, ?_, hq, by omega, hq, by omega, by omega, Nat.mod_lt _ h1, .inl ⟨rfl, rfl, rfl, rfl, rfl, rfl⟩⟩
  · simp only [e0, sg, if_true]; grind
  · simp only [e0, sg, if_true]; push_cast; omega

/-- A further step. -/
theorem On.next {A B a b x0 y0 x1 y1 x2 y2 : Nat} {t : Bool} (h : On A B a b x0 y0 x1 y1 x2 y2 t) (hb : y2 ≤ b) (hab : y1 + y2 + b ≤ a) :
    On A B b (a % b) x1 y1 x2 y2 (x1 + a / b * x2) (y1 + a / b * y2) (!t) := by
  have hb1 : 1 ≤ b := by have := h.p2; omega
  have hq : 1 ≤ a / b := (Nat.one_le_div_iff hb1).2 (by omega)
  have he := Nat.div_add_mod a b
  have he' : (b : Int) * ((a / b : Nat) : Int) + ((a % b : Nat) : Int) = (a : Int) := by exact_mod_cast he
  have hfa := h.fa
  have hfb := h.fb
  have hd1 := h.d1
  have hd0 := h.d0
  have hle1 := h.le1
  have hle2 := h.le2
  have hq2 : y2 ≤ a / b * y2 := Nat.le_mul_of_pos_left _ hq
  have hqx : a / b * x2 ≤ a / b * y2 := Nat.mul_le_mul_left _ hle2
  have hns := sg_not t
  have base : On A B b (a % b) x1 y1 x2 y2 (x1 + a / b * x2) (y1 + a / b * y2) (!t) ∨ ¬ Far A B x1 y1 x2 y2 (!t) := by
    by_cases hf : Far A B x1 y1 x2 y2 (!t)
    · left
      refine ⟨h.pos, ?_, ?_, ?_, ?_, hle2, by omega, by omega, hb, ?_, by have := h.p1; omega, h.p2, by omega, h.m12, by have := h.m12; omega, Nat.mod_lt _ hb1, .inr hf⟩
      · rw [hfb]; unfold e0 e1; rw [hns]
      · unfold e1 at hfa; unfold e0 at hfb ⊢; rw [hns]
        clear he
        generalize a / b = Q at *
        generalize a % b = R at *
        push_cast
        clear hab hb hq hqx hq2 hle1 hle2 hb1 hf h hd1 hd0
        grind
      · rw [hns]; clear he he'; generalize a / b = Q at *; push_cast; clear hab hb hq hqx hq2 hle1 hle2 hb1 hf h hd0 hfa hfb; grind
      · rw [hns]; omega
      · have : e0 (!t) x1 y1 A B = (a : Int) := by rw [hfa]; unfold e0 e1; rw [hns]; grind
        rw [this]; omega
    · exact .inr hf
  rcases base with h9 | h9
  · exact h9
  · exfalso
    apply h9
    refine ⟨h.p1, fun K X Y hT => ?_⟩
    have ho := h.order hT
    have hY := tops_pos hT h.pos
    have e1' : e0 (!t) x1 y1 X Y = e1 t x1 y1 X Y := by unfold e0 e1; rw [hns]; grind
    have e2' : e1 (!t) x2 y2 X Y = e0 t x2 y2 X Y := by unfold e0 e1; rw [hns]
    -- what the next pair leads to is not above what the newer one leads to
    have hnext : e0 t x2 y2 X Y ≤ e1 t x1 y1 X Y := by
      obtain ⟨p, q, hp, hq', rfl, rfl⟩ := hT
      have h1 := (near (sg_cases t) (show x1 + x2 ≤ y1 + y2 by omega) hp hq').1
      have h2 : e1 t x1 y1 ((A * K + p : Nat) : Int) ((B * K + q : Nat) : Int) - e0 t x2 y2 ((A * K + p : Nat) : Int) ((B * K + q : Nat) : Int) = (a : Int) * K - (b : Int) * K + sg t * (((x1 + x2 : Nat) : Int) * p - ((y1 + y2 : Nat) : Int) * q) := by
        rw [hfa, hfb]; unfold e0 e1; push_cast; grind
      have h3 : ((y1 + y2 : Nat) : Int) * K + (b : Int) * K ≤ (a : Int) * K := by
        have h4 : (y1 + y2 + b) * K ≤ a * K := Nat.mul_le_mul_right K hab
        rw [Nat.add_mul] at h4
        exact_mod_cast h4
      omega
    rw [e1', e2']
    rcases h.how with ⟨rfl, rfl, rfl, rfl, rfl, rfl⟩ | hf
    · have h7 : e1 true 0 1 X Y = Y := by simp [e1, sg]
      have h8 : e0 true 1 y2 X Y = (X : Int) - y2 * Y := by simp [e0, sg]
      have h9 : (1 * Y : Nat) ≤ y2 * Y := Nat.mul_le_mul_right _ h.p2
      have h10 : ((1 * Y : Nat) : Int) ≤ (y2 : Int) * Y := by exact_mod_cast h9
      rw [h7, h8]
      constructor
      · omega
      · omega
    · have := hf.chain K X Y hT
      omega

theorem st_next {A B a b x0 y0 x1 y1 x2 y2 : Nat} {t : Bool} (hAB : B ≤ A) (h : St A B a b x0 y0 x1 y1 x2 y2 t) (hb : y2 ≤ b) (hab : y1 + y2 + b ≤ a) :
    On A B b (a % b) x1 y1 x2 y2 (x1 + a / b * x2) (y1 + a / b * y2) (!t) := by
  rcases h with ⟨rfl, rfl, rfl, rfl, rfl, rfl, rfl, rfl, rfl⟩ | h
  · have := st_first (A := a) (B := b) (by omega) (by omega)
    simpa using this
  · exact h.next hb hab

/-- Ahead of a step nothing overflows, and the newer remainder is the lesser one. -/
theorem st_bounds {A B a b x0 y0 x1 y1 x2 y2 : Nat} {t : Bool} (hA : A < 18446744073709551616) (hAB : B ≤ A) (h : St A B a b x0 y0 x1 y1 x2 y2 t) :
    x0 < 4294967296 ∧ y0 < 4294967296 ∧ x1 < 4294967296 ∧ y1 < 4294967296 ∧ x2 ≤ y2 ∧ 1 ≤ y2 ∧ y2 < 18446744073709551616 ∧ a < 18446744073709551616 ∧ b ≤ a ∧ (1 ≤ b → y1 + y2 ≤ A) := by
  rcases h with ⟨rfl, rfl, rfl, rfl, rfl, rfl, rfl, rfl, rfl⟩ | h
  · omega
  · have hs := h.small hA
    have hi := h.id1
    have hc := h.c1
    have hp := h.p2
    have hp1 := h.p1
    have ha1 : 1 ≤ a := by omega
    have h2 : y2 * 1 ≤ y2 * a := Nat.mul_le_mul_left _ ha1
    have h3 : 1 * a ≤ y2 * a := Nat.mul_le_mul_right _ hp
    have hba : b ≤ a := Nat.le_of_lt h.lt
    refine ⟨hs.2.2.2, hs.2.2.1, hs.2.1, hs.1, h.le2, hp, by omega, by omega, hba, fun hb => ?_⟩
    have h4 : y1 * 1 ≤ y1 * b := Nat.mul_le_mul_left _ hb
    omega

/-- Numbers that make up one another have the same common divisor. -/
theorem gcd_of_comb {X Y N0 N1 x0 y0 x1 y1 : Nat} {s : Int} (h0 : (N0 : Int) = - s * (x0 * X - y0 * Y)) (h1 : (N1 : Int) = s * (x1 * X - y1 * Y)) (hX : X = y1 * N0 + y0 * N1) (hY : Y = x1 * N0 + x0 * N1) : Nat.gcd N0 N1 = Nat.gcd X Y := by
  apply Nat.dvd_antisymm
  · apply Nat.dvd_gcd
    · rw [hX]; exact Nat.dvd_add (Nat.dvd_mul_left_of_dvd (Nat.gcd_dvd_left _ _) _) (Nat.dvd_mul_left_of_dvd (Nat.gcd_dvd_right _ _) _)
    · rw [hY]; exact Nat.dvd_add (Nat.dvd_mul_left_of_dvd (Nat.gcd_dvd_left _ _) _) (Nat.dvd_mul_left_of_dvd (Nat.gcd_dvd_right _ _) _)
  · have dX : ((Nat.gcd X Y : Nat) : Int) ∣ (X : Int) := Int.natCast_dvd_natCast.2 (Nat.gcd_dvd_left _ _)
    have dY : ((Nat.gcd X Y : Nat) : Int) ∣ (Y : Int) := Int.natCast_dvd_natCast.2 (Nat.gcd_dvd_right _ _)
    apply Nat.dvd_gcd
    · apply Int.natCast_dvd_natCast.1
      rw [h0]
      exact Int.dvd_mul_of_dvd_right (Int.dvd_sub (Int.dvd_mul_of_dvd_right dX) (Int.dvd_mul_of_dvd_right dY))
    · apply Int.natCast_dvd_natCast.1
      rw [h1]
      exact Int.dvd_mul_of_dvd_right (Int.dvd_sub (Int.dvd_mul_of_dvd_right dX) (Int.dvd_mul_of_dvd_right dY))

/-- Where strides lead: to lesser numbers of the same common divisor. -/
theorem st_done {A B a b x0 y0 x1 y1 x2 y2 : Nat} {t : Bool} (h : St A B a b x0 y0 x1 y1 x2 y2 t) (hy : y0 ≠ 0) {K X Y : Nat} (hT : Tops A B K X Y) :
    ∃ N0 N1 : Nat, (N0 : Int) = e0 t x0 y0 X Y ∧ (N1 : Int) = e1 t x1 y1 X Y ∧ N1 ≤ N0 ∧ N0 ≤ Y ∧ N0 + N1 < X + Y ∧ Nat.gcd N0 N1 = Nat.gcd X Y := by
  rcases h with ⟨rfl, rfl, rfl, rfl, rfl, rfl, rfl, rfl, rfl⟩ | h
  · exact absurd rfl hy
  · rcases h.how with ⟨_, e, _⟩ | hf
    · exact absurd e hy
    · have ho := h.order hT
      have hc := hf.chain K X Y hT
      obtain ⟨N1, hN1⟩ : ∃ N : Nat, e1 t x1 y1 X Y = (N : Int) := Int.eq_ofNat_of_zero_le ho.1
      obtain ⟨N0, hN0⟩ : ∃ N : Nat, e0 t x0 y0 X Y = (N : Int) := Int.eq_ofNat_of_zero_le (by omega)
      rw [hN0, hN1] at ho hc
      have hd := h.d0
      have hs := sg_sq t
      have g0 : (N0 : Int) = - sg t * (x0 * X - y0 * Y) := by rw [← hN0]; rfl
      have g1 : (N1 : Int) = sg t * (x1 * X - y1 * Y) := by rw [← hN1]; rfl
      refine ⟨N0, N1, hN0.symm, hN1.symm, by omega, by omega, by omega, gcd_of_comb (s := sg t) g0 g1 ?_ ?_⟩
      · have : (X : Int) = y1 * N0 + y0 * N1 := by rw [g0, g1]; clear g0 g1 hc ho hN0 hN1 hf h; grind
        exact_mod_cast this
      · have : (Y : Int) = x1 * N0 + x0 * N1 := by rw [g0, g1]; clear g0 g1 hc ho hN0 hN1 hf h; grind
        exact_mod_cast this

end Leh
end Go.Proofs.YthijnnififodjaaDoor

namespace Go.Proofs.YthijnnififodjaaDoor
open Go.RowKit

/-- The word at the top: the limbs n-1, n-2 and the head of the limb n-3. -/
def topW (m : List Nat) (n s : Nat) : Nat := (m.getD (n - 1) 0 * 4294967296 + m.getD (n - 2) 0) * 2 ^ s + m.getD (n - 3) 0 / 2 ^ (32 - s)

theorem top_or {z2 z1 z0 s : Nat} (h1 : z1 < 4294967296) (h0 : z0 < 4294967296) (hs : s ≤ 31) (ht : z2 * 2 ^ s < 4294967296) :
    bits .or .u64 (IntKind.u64.wrap (((z2 : Int) * 4294967296 + (z1 : Int)) * 2 ^ s)) ((z0 : Int) / 2 ^ (32 - s)) = (((z2 * 4294967296 + z1) * 2 ^ s + z0 / 2 ^ (32 - s) : Nat) : Int) := by
  have hST : 2 ^ s * 2 ^ (32 - s) = 4294967296 := by rw [← Nat.pow_add, show s + (32 - s) = 32 by omega]
  have hS0 : 0 < 2 ^ s := Nat.two_pow_pos _
  have hT0 : 0 < 2 ^ (32 - s) := Nat.two_pow_pos _
  have e1 : ((z2 : Int) * 4294967296 + (z1 : Int)) * 2 ^ s = (((z2 * 4294967296 + z1) * 2 ^ s : Nat) : Int) := by rw [Int.natCast_mul, Int.natCast_add, Int.natCast_mul, Int.natCast_pow]; rfl
  have e2 : (z0 : Int) / 2 ^ (32 - s) = ((z0 / 2 ^ (32 - s) : Nat) : Int) := by rw [Int.natCast_ediv, Int.natCast_pow]; rfl
  have hlow : z0 / 2 ^ (32 - s) < 2 ^ s := by rw [Nat.div_lt_iff_lt_mul hT0, hST]; exact h0
  have hz2 : (z2 + 1) * 2 ^ s ≤ 4294967296 := by
    rw [← hST, Nat.mul_comm (2 ^ s)] at ht ⊢
    exact Nat.mul_le_mul_right _ (Nat.lt_of_mul_lt_mul_right ht)
  have hbig : (z2 * 4294967296 + z1) * 2 ^ s + 2 ^ s ≤ 18446744073709551616 := by
    have h3 : (z2 * 4294967296 + z1 + 1) * 2 ^ s ≤ ((z2 + 1) * 4294967296) * 2 ^ s := Nat.mul_le_mul_right _ (by omega)
    have h4 : ((z2 + 1) * 4294967296) * 2 ^ s = ((z2 + 1) * 2 ^ s) * 4294967296 := by rw [Nat.mul_assoc, Nat.mul_comm 4294967296, ← Nat.mul_assoc]
    have h5 : ((z2 + 1) * 2 ^ s) * 4294967296 ≤ 4294967296 * 4294967296 := Nat.mul_le_mul_right _ hz2
    rw [Nat.add_mul (z2 * 4294967296 + z1) 1] at h3
    omega
  rw [e1, e2]
  have hwr : IntKind.u64.wrap (((z2 * 4294967296 + z1) * 2 ^ s : Nat) : Int) = (((z2 * 4294967296 + z1) * 2 ^ s : Nat) : Int) := by
    generalize (z2 * 4294967296 + z1) * 2 ^ s = y at *
    rw [IntKind.wrap_u64]; omega
  have hS1 : 2 ^ s ≤ 2147483648 := Nat.le_trans (Nat.pow_le_pow_right (by decide) hs) (by decide)
  rw [hwr, bits_or_u64_nat _ _ (by omega) (by omega)]
  have h6 := Nat.two_pow_add_eq_or_of_lt (i := s) (b := z0 / 2 ^ (32 - s)) hlow (z2 * 4294967296 + z1)
  rw [Nat.mul_comm (2 ^ s)] at h6
  rw [← h6]

set_option maxRecDepth 100000 in
set_option maxHeartbeats 1000000 in
theorem topWord_any (v : Value) (m : List Nat) (n s : Nat) (w : World) (h : Sl w v m) (hn : n ≤ 1000) (hn3 : 3 ≤ n) (hml : m.length ≤ n) (hs : s ≤ 31) (htop : m.getD (n - 1) 0 * 2 ^ s < 4294967296) :
    Calls Tryd.prog 70 #[v, .int .i64 (n : Int), .int .i64 (s : Int)] w fun e w' => e = .returned (.int .u64 ((topW m n s : Nat) : Int)) ∧ ∃ k, w' = w.drewN k := by
  have b2 := h.bd.getD (n - 1)
  have b1 := h.bd.getD (n - 2)
  have b0 := h.bd.getD (n - 3)
  have c2 := limbAt_any w h ((n : Int) - 1) (by omega) (by omega)
  have c1 := limbAt_any w h ((n : Int) - 2) (by omega) (by omega)
  have c0 := fun k => limbAt_any (w.drewN k) (h.drewN k) ((n : Int) - 3) (by omega) (by omega)
  rw [show ((n : Int) - 1).toNat = n - 1 by omega] at c2
  rw [show ((n : Int) - 2).toNat = n - 2 by omega] at c1
  rw [show ((n : Int) - 3).toNat = n - 3 by omega] at c0
  unfold topW
  obtain ⟨z2, hz2⟩ : ∃ z, z = m.getD (n - 1) 0 := ⟨_, rfl⟩
  obtain ⟨z1, hz1⟩ : ∃ z, z = m.getD (n - 2) 0 := ⟨_, rfl⟩
  obtain ⟨z0, hz0⟩ : ∃ z, z = m.getD (n - 3) 0 := ⟨_, rfl⟩
  rw [← hz2, ← hz1, ← hz0]
  rw [← hz2] at c2 b2 htop
  rw [← hz1] at c1 b1
  rw [← hz0] at c0 b0
  have C2 : Hid (Calls Tryd.prog 72 #[v, .int .i64 ((n : Int) - 1)] w fun e w' => e = .returned (.int .u64 (z2 : Int)) ∧ w' = w) := c2
  have C1 : Hid (Calls Tryd.prog 72 #[v, .int .i64 ((n : Int) - 2)] w fun e w' => e = .returned (.int .u64 (z1 : Int)) ∧ w' = w) := c1
  have C0 : Hid (∀ k, Calls Tryd.prog 72 #[v, .int .i64 ((n : Int) - 3)] (w.drewN k) fun e w' => e = .returned (.int .u64 (z0 : Int)) ∧ w' = w.drewN k) := c0
  have hor := or_low z2 z1 b2 b1
  have HT : Hid (z2 * 2 ^ s < 4294967296) := htop
  clear hz2 hz1 hz0 c2 c1 c0 htop h
  go_enter Tryd.func70, Tryd.ntmps70
  go_wp2_with fail
  refine C2.out.mono ?_
  rintro e w9 ⟨rfl, rfl⟩
  go_wp2_with fail
  refine C1.out.mono ?_
  rintro e w9 ⟨rfl, rfl⟩
  go_wp2_with fail
  go_quiet ((go_at_call 72; exact Calls.quiet_of_same (C0.out _)))
  rw [top_or b1 b0 hs HT.out]
  obtain ⟨z, hz⟩ : ∃ z, z = (z2 * 4294967296 + z1) * 2 ^ s + z0 / 2 ^ (32 - s) := ⟨_, rfl⟩
  rw [← hz]
  have HZ : Hid (z = (z2 * 4294967296 + z1) * 2 ^ s + z0 / 2 ^ (32 - s)) := hz
  clear hz
  go_wp2
  go_ret
  exact ⟨ret_u64 (by rw [HZ.out]), nq, rfl⟩

theorem topW_lt {z2 z1 z0 s : Nat} (h1 : z1 < 4294967296) (h0 : z0 < 4294967296) (hs : s ≤ 31) (ht : z2 * 2 ^ s < 4294967296) : (z2 * 4294967296 + z1) * 2 ^ s + z0 / 2 ^ (32 - s) < 18446744073709551616 := by
  have hST : 2 ^ s * 2 ^ (32 - s) = 4294967296 := by rw [← Nat.pow_add, show s + (32 - s) = 32 by omega]
  have hT0 : 0 < 2 ^ (32 - s) := Nat.two_pow_pos _
  have hlow : z0 / 2 ^ (32 - s) < 2 ^ s := by rw [Nat.div_lt_iff_lt_mul hT0, hST]; exact h0
  have hz2 : (z2 + 1) * 2 ^ s ≤ 4294967296 := by
    rw [← hST, Nat.mul_comm (2 ^ s)] at ht ⊢
    exact Nat.mul_le_mul_right _ (Nat.lt_of_mul_lt_mul_right ht)
  have h3 : (z2 * 4294967296 + z1 + 1) * 2 ^ s ≤ ((z2 + 1) * 4294967296) * 2 ^ s := Nat.mul_le_mul_right _ (by omega)
  have h4 : ((z2 + 1) * 4294967296) * 2 ^ s = ((z2 + 1) * 2 ^ s) * 4294967296 := by rw [Nat.mul_assoc, Nat.mul_comm 4294967296, ← Nat.mul_assoc]
  have h5 : ((z2 + 1) * 2 ^ s) * 4294967296 ≤ 4294967296 * 4294967296 := Nat.mul_le_mul_right _ hz2
  rw [Nat.add_mul (z2 * 4294967296 + z1) 1] at h3
  omega

/-- The top word is what is left of the number over K. -/
theorem topW_val {m : List Nat} {n s : Nat} (hb : M.Bd m) (hn3 : 3 ≤ n) (hml : m.length ≤ n) (hs : s ≤ 31) : ∃ p, p < 4294967296 ^ (n - 3) * 2 ^ (32 - s) ∧ M.val m = topW m n s * (4294967296 ^ (n - 3) * 2 ^ (32 - s)) + p := by
  have e : M.val m = M.val (m.take n) := by rw [List.take_of_length_le hml]
  obtain ⟨i, rfl⟩ : ∃ i, n = i + 3 := ⟨n - 3, by omega⟩
  rw [M.take_succ_getD, M.take_succ_getD, M.take_succ_getD] at e
  simp only [Nat.pow_succ] at e
  unfold topW
  rw [show i + 3 - 1 = i + 2 by omega, show i + 3 - 2 = i + 1 by omega, show i + 3 - 3 = i by omega]
  rw [show i + 1 + 1 = i + 2 by omega] at e
  have hlow := M.val_lt (hb.take i)
  have hlen : (m.take i).length ≤ i := by rw [List.length_take]; omega
  have hlow' : M.val (m.take i) < 4294967296 ^ i := Nat.lt_of_lt_of_le hlow (Nat.pow_le_pow_right (by decide) hlen)
  have hST : 4294967296 = 2 ^ s * 2 ^ (32 - s) := by rw [← Nat.pow_add, show s + (32 - s) = 32 by omega]
  have hT0 : 0 < 2 ^ (32 - s) := Nat.two_pow_pos _
  clear hlow hlen hml hb
  generalize 2 ^ s = S at *
  generalize 2 ^ (32 - s) = T at *
  generalize m.getD (i + 2) 0 = z2 at *
  generalize m.getD (i + 1) 0 = z1 at *
  generalize m.getD i 0 = z0 at *
  generalize M.val (m.take i) = low at *
  generalize 4294967296 ^ i = P at *
  generalize M.val m = X at *
  refine ⟨low + P * (z0 % T), ?_, ?_⟩
  · have h1 : P * (z0 % T + 1) ≤ P * T := Nat.mul_le_mul_left _ (Nat.mod_lt _ hT0)
    rw [Nat.mul_add] at h1
    omega
  · have e0 := Nat.div_add_mod z0 T
    generalize z0 / T = d0 at *
    generalize z0 % T = r0 at *
    rw [e, ← e0]
    rw [hST]
    clear e e0 hlow' hs hST
    grind

set_option maxRecDepth 100000 in
set_option maxHeartbeats 1000000 in
theorem leading_any (vx vy : Value) (x y : List Nat) (w : World) (hx : Sl w vx x) (hy : Sl w vy y) (hn : x.length ≤ 1000) (hn3 : 3 ≤ x.length) (hyl : y.length ≤ x.length) (tx : M.Tr x) (hyx : M.val y ≤ M.val x) :
    Calls Tryd.prog 58 #[vx, vy] w fun e w' => (∃ k, w' = w.drewN k) ∧ ∃ a b K : Nat, e = .returned (.tuple #[.int .u64 (a : Int), .int .u64 (b : Int)]) ∧ a < 18446744073709551616 ∧ b ≤ a ∧ Leh.Tops a b K (M.val x) (M.val y) := by
  have htx : 0 < x.getD (x.length - 1) 0 := by
    rcases tx with h | h <;> omega
  have htb := hx.bd.getD (x.length - 1)
  have hyt : y.getD (x.length - 1) 0 ≤ x.getD (x.length - 1) 0 := by
    apply Classical.byContradiction
    intro hn
    have h1 : M.val y = M.val (y.take x.length) := by rw [List.take_of_length_le hyl]
    have h2 := M.take_drop_val x (x.length - 1) (by omega)
    rw [M.drop_getD x (x.length - 1) (by omega), List.drop_of_length_le (by omega)] at h2
    simp only [M.val, Nat.mul_zero, Nat.add_zero] at h2
    obtain ⟨k, hk⟩ : ∃ k, x.length = k + 1 := ⟨x.length - 1, by omega⟩
    rw [hk, M.take_succ_getD] at h1
    rw [hk, Nat.add_sub_cancel] at h2 hn
    have h3 := M.val_lt (hx.bd.take k)
    rw [List.length_take, Nat.min_eq_left (by omega)] at h3
    have h4 : 4294967296 ^ k * (x.getD k 0 + 1) ≤ 4294967296 ^ k * y.getD k 0 := Nat.mul_le_mul_left _ (by omega)
    rw [Nat.mul_add] at h4
    omega
  have HX : Hid (Sl w vx x) := hx
  have HY : Hid (Sl w vy y) := hy
  obtain ⟨bdx, aox, capx, rfl, hcx⟩ := hx
  obtain ⟨_, bx, ox, rfl, _, hcx⟩ := hcx (by omega)
  have hck := hcx (x.length - 1) (by omega)
  obtain ⟨t, ht⟩ : ∃ t, t = x.getD (x.length - 1) 0 := ⟨_, rfl⟩
  rw [← ht] at hck htx htb hyt
  have HT : Hid (t = x.getD (x.length - 1) 0 ∧ y.getD (x.length - 1) 0 ≤ t) := ⟨ht, hyt⟩
  obtain ⟨n, hnn⟩ : ∃ n, n = x.length := ⟨_, rfl⟩
  rw [← hnn] at hck hn hn3 ⊢
  have HN : Hid (n = x.length ∧ y.length ≤ n) := ⟨hnn, by omega⟩
  have HYX : Hid (M.val y ≤ M.val x) := hyx
  have bdy := hy.bd
  clear hcx hy ht hyt hyl tx hyx hnn
  have hn1 : 1 ≤ n := by omega
  go_enter Tryd.func58, Tryd.ntmps58
  go_wp2_with fail
  refine (lz_any t _ htx htb).mono ?_
  rintro e w0 ⟨rfl, s, rfl, hs, hs1, hs2⟩
  have HS : Hid (t * 2 ^ s < 4294967296) := hs2
  clear hs1 hs2 hck
  go_wp2_with fail
  refine (topWord_any _ x n s _ (by have h9 := HX.out; rw [← HN.out.1] at h9; exact h9) hn hn3 (by rw [HN.out.1]; exact Nat.le_refl _) hs (by have h9 := HT.out.1; rw [← HN.out.1] at h9; rw [← h9]; exact HS.out)).mono ?_
  rintro e w1 ⟨rfl, k1, rfl⟩
  go_wp2_with fail
  refine (topWord_any vy y n s _ (HY.out.drewN k1) hn hn3 HN.out.2 hs (by have h9 := HT.out.2; rw [← HN.out.1] at h9; exact Nat.lt_of_le_of_lt (Nat.mul_le_mul_right _ h9) HS.out)).mono ?_
  rintro e w2 ⟨rfl, k2, rfl⟩
  obtain ⟨p, hp, hpx⟩ := topW_val (s := s) bdx hn3 (by rw [HN.out.1]; exact Nat.le_refl _) hs
  obtain ⟨q, hq, hqx⟩ := topW_val (s := s) bdy hn3 HN.out.2 hs
  have hA : topW x n s < 18446744073709551616 := by
    have h1 := HS.out
    have h2 := bdx.getD (n - 2)
    have h3 := bdx.getD (n - 3)
    have h4 := HT.out.1
    rw [← HN.out.1] at h4
    unfold topW
    rw [← h4]
    exact topW_lt h2 h3 hs h1
  obtain ⟨A, hAe⟩ : ∃ A, A = topW x n s := ⟨_, rfl⟩
  obtain ⟨B, hBe⟩ : ∃ B, B = topW y n s := ⟨_, rfl⟩
  rw [← hAe] at hpx hA ⊢
  rw [← hBe] at hqx ⊢
  have hBA : B ≤ A := by
    apply Classical.byContradiction
    intro hn'
    have h1 := HYX.out
    have h2 : (A + 1) * (4294967296 ^ (n - 3) * 2 ^ (32 - s)) ≤ B * (4294967296 ^ (n - 3) * 2 ^ (32 - s)) := Nat.mul_le_mul_right _ (by omega)
    rw [Nat.add_mul] at h2
    omega
  have HF : Hid (A < 18446744073709551616 ∧ B ≤ A ∧ Leh.Tops A B (4294967296 ^ (n - 3) * 2 ^ (32 - s)) (M.val x) (M.val y)) := ⟨hA, hBA, p, q, hp, hq, hpx, hqx⟩
  clear hA hBA hp hq hpx hqx hAe hBe
  go_wp2
  go_ret2
  exact ⟨⟨k1 + k2, rfl⟩, A, B, _, rfl, HF.out⟩

end Go.Proofs.YthijnnififodjaaDoor

namespace Go.Proofs.YthijnnififodjaaDoor
open Go.RowKit

set_option maxRecDepth 100000 in
set_option maxHeartbeats 1000000 in
theorem wordDivisor_any (a b : Nat) (w : World) (ha : a < 18446744073709551616) (hb : b < 18446744073709551616) :
    Calls Tryd.prog 61 #[.int .u64 (a : Int), .int .u64 (b : Int)] w fun e w' => e = .returned (.int .u64 ((Nat.gcd a b : Nat) : Int)) ∧ ∃ k, w' = w.drewN k := by
  obtain ⟨g, hg⟩ : ∃ g, g = Nat.gcd a b := ⟨_, rfl⟩
  have HG : Hid (g = Nat.gcd a b) := hg
  rw [← hg]
  clear hg
  go_enter Tryd.func61, Tryd.ntmps61
  go_wp2
  go_loopw [0, 1] (fun va vb wr => ∃ x y k : Nat, x < 18446744073709551616 ∧ y < 18446744073709551616 ∧ va = .int .u64 (x : Int) ∧ vb = .int .u64 (y : Int) ∧ Hid (g = Nat.gcd x y) ∧ wr = w.drewN k) (fun _ vb _ => (intOf vb).toNat)
  case atStart => exact ⟨a, b, 0, ha, hb, rfl, rfl, HG.out, rfl⟩
  case round =>
    obtain ⟨x, y, k, hx, hy, rfl, rfl, hg, rfl⟩ := hrel
    by_cases h0 : y = 0
    · subst h0
      go_wp2
      go_ret
      exact ⟨ret_u64 (by rw [hg.out, Nat.gcd_zero_right]), k, rfl⟩
    · have h1 : ((y : Int) == 0) = false := by simp; omega
      have h2 : ¬ (y : Int) = 0 := by omega
      have h3 : 0 < y := by omega
      go_wp2
      go_quiet (fail)
      go_wp2
      go_roundw
      case rel =>
        refine ⟨y, x % y, k + nq, hy, Nat.lt_of_le_of_lt (Nat.mod_le x y) hx, rfl, by simp, ?_, by rw [World.drewN_drewN]⟩
        show g = _
        rw [hg.out, Nat.gcd_comm y (x % y), Nat.gcd_comm x y, Nat.gcd_rec y x]
      case measure =>
        have := Nat.mod_lt x h3
        simp [intOf]
        omega

/-- The strides as the model's value. -/
def SureIs (A B : Nat) (e : Ending) : Prop := ∃ (a b x0 y0 x1 y1 x2 y2 : Nat) (t : Bool), e = .returned (.agg #[.int .u64 (x0 : Int), .int .u64 (y0 : Int), .int .u64 (x1 : Int), .int .u64 (y1 : Int), .bool t]) ∧ Leh.St A B a b x0 y0 x1 y1 x2 y2 t

theorem push_modify {α : Type} (a : Array α) (x : α) (f : α → α) : (a.push x).modify a.size f = a.push (f x) := by
  apply Array.ext
  · simp
  · intro i h1 h2
    simp only [Array.getElem_modify, Array.getElem_push]
    by_cases h : i < a.size
    · rw [dif_pos h, if_neg (by omega), dif_pos h]
    · rw [dif_neg h, if_pos (by simp at h2; omega), dif_neg h]

/-- A store into the newest block, laid into it. -/
theorem set_newest (w : World) (o : Array Value) (T : TypeId) (n b k : Nat) (v : Value) (hb : b = w.heap.size) :
    ((w.alloc (.cells o T)).drewN n).setCell ⟨b, k, none⟩ v = ((w.alloc (.cells (o.setIfInBounds k v) T)).drewN n) := by
  subst hb
  unfold World.setCell World.drewN World.alloc
  simp only [push_modify]
  rfl

set_option maxRecDepth 100000 in
set_option maxHeartbeats 2000000 in
theorem surely_any (A B : Nat) (w : World) (hA : A < 18446744073709551616) (hBA : B ≤ A) :
    Calls Tryd.prog 57 #[.int .u64 (A : Int), .int .u64 (B : Int)] w fun e w' => Kept w w' ∧ SureIs A B e := by
  go_enter Tryd.func57, Tryd.ntmps57
  go_wp2
  go_loopw [0, 1, 6, 7] (fun va vb vx vy wr => ∃ (a b x0 y0 x1 y1 x2 y2 k : Nat) (t : Bool), va = .int .u64 (a : Int) ∧ vb = .int .u64 (b : Int) ∧ vx = .int .u64 (x2 : Int) ∧ vy = .int .u64 (y2 : Int) ∧
      wr = ((w.alloc (.cells #[.int .u64 0, .int .u64 0, .int .u64 0, .int .u64 0, .bool false] 75)).alloc (.cells #[.int .u64 (x0 : Int), .int .u64 (y0 : Int), .int .u64 (x1 : Int), .int .u64 (y1 : Int), .bool t] 75)).drewN k ∧
      Hid (Leh.St A B a b x0 y0 x1 y1 x2 y2 t)) (fun _ vb _ _ _ => (intOf vb).toNat)
  case atStart => exact ⟨A, B, 0, 0, 1, 0, 0, 1, 0, false, rfl, rfl, rfl, rfl, rfl, .inl ⟨rfl, rfl, rfl, rfl, rfl, rfl, rfl, rfl, rfl⟩⟩
  case round =>
    obtain ⟨a, b, x0, y0, x1, y1, x2, y2, k, t, rfl, rfl, rfl, rfl, rfl, hst⟩ := hrel
    obtain ⟨hx0, hy0, hx1, hy1, hx2, hy2, hy2', ha, hba, hsum⟩ := Leh.st_bounds hA hBA hst.out
    by_cases hc : y2 ≤ b ∧ y1 + y2 + b ≤ a
    · obtain ⟨hc1, hc2⟩ := hc
      have hb0 : 0 < b := by omega
      have hb1 : ¬ (b : Int) = 0 := by omega
      have hb2 : ((b : Int) == 0) = false := by simp; omega
      have hon := Leh.st_next hBA hst.out hc1 hc2
      have hbn := Leh.st_bounds hA hBA (.inr hon)
      obtain ⟨q, hq⟩ : ∃ q, q = a / b := ⟨_, rfl⟩
      rw [← hq] at hon hbn
      have hqi : (a : Int) / (b : Int) = (q : Int) := by rw [hq]; rfl
      have hqa : q ≤ a := by rw [hq]; exact Nat.div_le_self a b
      have hwq : IntKind.u64.wrap (q : Int) = (q : Int) := by rw [IntKind.wrap_u64]; omega
      obtain ⟨m1, hm1⟩ : ∃ m, m = q * x2 := ⟨_, rfl⟩
      obtain ⟨m2, hm2⟩ : ∃ m, m = q * y2 := ⟨_, rfl⟩
      rw [← hm1, ← hm2] at hon hbn
      have hmi1 : (q : Int) * (x2 : Int) = (m1 : Int) := by rw [hm1]; simp
      have hmi2 : (q : Int) * (y2 : Int) = (m2 : Int) := by rw [hm2]; simp
      have hbb := hbn.2.2.2.2.2.2.1
      have hbx := hbn.2.2.2.2.1
      have HON : Hid (Leh.On A B b (a % b) x1 y1 x2 y2 (x1 + m1) (y1 + m2) (!t)) := hon
      have hw0 : IntKind.u64.wrap ((a : Int) - (b : Int)) = (a : Int) - (b : Int) := by rw [IntKind.wrap_u64]; omega
      have hw1 : IntKind.u64.wrap ((y1 : Int) + (y2 : Int)) = (y1 : Int) + (y2 : Int) := by rw [IntKind.wrap_u64]; omega
      have hw2 : IntKind.u64.wrap (m1 : Int) = (m1 : Int) := by rw [IntKind.wrap_u64]; omega
      have hw3 : IntKind.u64.wrap (m2 : Int) = (m2 : Int) := by rw [IntKind.wrap_u64]; omega
      have hw4 : IntKind.u64.wrap ((x1 : Int) + (m1 : Int)) = (x1 : Int) + (m1 : Int) := by rw [IntKind.wrap_u64]; omega
      have hw5 : IntKind.u64.wrap ((y1 : Int) + (m2 : Int)) = (y1 : Int) + (m2 : Int) := by rw [IntKind.wrap_u64]; omega
      have hcm : (y1 : Int) + (y2 : Int) ≤ (a : Int) - (b : Int) := by omega
      clear hon hbn hq hm1 hm2 hsum hbb hbx hx0 hy0 hx2
      have hrm : (a : Int) % (b : Int) = ((a % b : Nat) : Int) := by simp
      have hrm2 : a % b < b := Nat.mod_lt _ hb0
      obtain ⟨rm, hrme⟩ : ∃ rm, rm = a % b := ⟨_, rfl⟩
      rw [← hrme] at hrm hrm2
      have HRM : Hid (rm = a % b) := hrme
      have hwr : IntKind.u64.wrap (rm : Int) = (rm : Int) := by rw [IntKind.wrap_u64]; omega
      clear hrme
      go_wp2
      go_quiet (fail)
      go_wp2
      go_roundw
      case rel =>
        have h9 := HON.out
        rw [← HRM.out] at h9
        refine ⟨b, rm, x1, y1, x2, y2, x1 + m1, y1 + m2, k + nq, !t, rfl, by first | rfl | (simp; exact hrm), by simp, by simp, ?_, .inr h9⟩
        rw [set_newest _ _ _ _ _ _ _ (by simp), set_newest _ _ _ _ _ _ _ (by simp), set_newest _ _ _ _ _ _ _ (by simp), set_newest _ _ _ _ _ _ _ (by simp), set_newest _ _ _ _ _ _ _ (by simp)]
        rfl
      case measure => simp [intOf]; omega
    · have HC : Hid (Leh.St A B a b x0 y0 x1 y1 x2 y2 t) := hst.out
      have fin : ∀ W : World, W = W → True := fun _ _ => trivial
      by_cases hc1 : y2 ≤ b
      · have hc2 : ¬ (y1 : Int) + (y2 : Int) ≤ (a : Int) - (b : Int) := by omega
        have hw0 : IntKind.u64.wrap ((a : Int) - (b : Int)) = (a : Int) - (b : Int) := by rw [IntKind.wrap_u64]; omega
        have hw1 : IntKind.u64.wrap ((y1 : Int) + (y2 : Int)) = (y1 : Int) + (y2 : Int) := by rw [IntKind.wrap_u64]; have := hsum (by omega); omega
        clear hc fin hsum
        go_wp2
        exact bodyPost_ret (v := .agg #[.int .u64 (x0 : Int), .int .u64 (y0 : Int), .int .u64 (x1 : Int), .int .u64 (y1 : Int), .bool t]) (by simp [results, Tryd.results57, go_sem]) rfl ⟨(((((((((Kept.refl w).alloc _).alloc _).drewN k).setCell (Nat.le_refl _) _).setCell (Nat.le_refl _) _).setCell (Nat.le_refl _) _).setCell (Nat.le_refl _) _).setCell (Nat.le_refl _) _), a, b, x0, y0, x1, y1, x2, y2, t, rfl, HC.out⟩
      · clear hc fin hsum
        go_wp2
        exact bodyPost_ret (v := .agg #[.int .u64 (x0 : Int), .int .u64 (y0 : Int), .int .u64 (x1 : Int), .int .u64 (y1 : Int), .bool t]) (by simp [results, Tryd.results57, go_sem]) rfl ⟨(((((((((Kept.refl w).alloc _).alloc _).drewN k).setCell (Nat.le_refl _) _).setCell (Nat.le_refl _) _).setCell (Nat.le_refl _) _).setCell (Nat.le_refl _) _).setCell (Nat.le_refl _) _), a, b, x0, y0, x1, y1, x2, y2, t, rfl, HC.out⟩

end Go.Proofs.YthijnnififodjaaDoor
