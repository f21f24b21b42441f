/- LimbRing: the walk of the statement itself, out of its callees' contracts. -/
import Derived.Test.YtiadnlpbbibkgaaDoorAwk
namespace Go.Proofs.YtiadnlpbbibkgaaDoor
open Go.RowKit

theorem fin_fits {B : Nat} {w : World} {s : Bool} {v : Value} {c z : Int} (h : Fin B w s v c z) (hz : z.natAbs < M.W72) : c = 0 ∧ ∃ l, New B w v l ∧ M.Right s l ∧ M.int s l = z := by
  rcases h with h | ⟨_, _, _, h⟩
  · exact h
  · omega

theorem mag_add {x y : Int} {p q : Nat} (hx : x.natAbs ≤ p) (hy : y.natAbs ≤ q) : (x + y).natAbs ≤ p + q := by omega

theorem pow60 {i j k : Nat} (h : i + j + k ≤ 60) : (4294967296 ^ i + 4294967296 ^ j) * 4294967296 ^ k ≤ 2 * 4294967296 ^ 60 := by
  rw [Nat.add_mul, ← Nat.pow_add, ← Nat.pow_add]
  have h1 := Nat.pow_le_pow_right (n := 4294967296) (by decide) (show i + k ≤ 60 by omega)
  have h2 := Nat.pow_le_pow_right (n := 4294967296) (by decide) (show j + k ≤ 60 by omega)
  omega

theorem two60 : 2 * 4294967296 ^ 60 < M.W72 := by unfold M.W72; decide

structure Small (a b c : List Nat) (A B C : Int) : Prop where
  s1 : (A + B).natAbs < M.W72
  s2 : ((A + B) * C).natAbs < M.W72
  s3 : (A * C).natAbs < M.W72
  s4 : (C * B).natAbs < M.W72
  s5 : (A * C + C * B).natAbs < M.W72
  s6 : A.natAbs < M.W72

theorem small_of {m n k : Bool} {a b c : List Nat} (ha : M.Bd a) (hb : M.Bd b) (hc : M.Bd c) (h : a.length + b.length + c.length ≤ 60) : Small a b c (M.int m a) (M.int n b) (M.int k c) := by
  have h1 := M.val_lt ha
  have h2 := M.val_lt hb
  have h3 := M.val_lt hc
  have e1 := M.natAbs_int m a
  have e2 := M.natAbs_int n b
  have e3 := M.natAbs_int k c
  have hp := pow60 h
  have ht := two60
  generalize M.int m a = A at *
  generalize M.int n b = B at *
  generalize M.int k c = C at *
  have hab : (A + B).natAbs ≤ 4294967296 ^ a.length + 4294967296 ^ b.length := by omega
  have hc1 : 1 ≤ 4294967296 ^ c.length := M.pow_pos' _
  have hm : ∀ x y p q : Nat, x ≤ p → y ≤ q → x * y ≤ p * q := fun x y p q => Nat.mul_le_mul
  have hs : 4294967296 ^ a.length + 4294967296 ^ b.length ≤ 2 * 4294967296 ^ 60 := Nat.le_trans (by have := Nat.mul_le_mul_left (4294967296 ^ a.length + 4294967296 ^ b.length) hc1; omega) hp
  have h5 : A.natAbs * C.natAbs + C.natAbs * B.natAbs ≤ 2 * 4294967296 ^ 60 := by
    refine Nat.le_trans ?_ hp
    rw [Nat.mul_comm C.natAbs, ← Nat.add_mul]
    exact hm _ _ _ _ (by omega) (by omega)
  refine ⟨by omega, ?_, ?_, ?_, ?_, by omega⟩
  · rw [Int.natAbs_mul]
    exact Nat.lt_of_le_of_lt (Nat.le_trans (hm _ _ _ _ hab (by omega)) hp) ht
  · rw [Int.natAbs_mul]; omega
  · rw [Int.natAbs_mul]; omega
  · have e6 := Int.natAbs_mul A C
    have e7 := Int.natAbs_mul C B
    have := mag_add (Nat.le_refl (A * C).natAbs) (Nat.le_refl (C * B).natAbs)
    omega

/-- A whole number as an argument or in a box. -/
theorem agg_load {w : World} {b : Nat} {x y : Value} (h0 : w.cell? ⟨b, 0, none⟩ = some x) (h1 : w.cell? ⟨b, 1, none⟩ = some y) : w.cell? ⟨b, 0, none⟩ = some x ∧ w.cell? ⟨b, 1, none⟩ = some y := ⟨h0, h1⟩

theorem Sl.len {w : World} {ao : Option Addr} {n cap : Nat} {l : List Nat} (h : Sl w (.slice ao n cap) l) : n = l.length := by
  obtain ⟨_, ao', cap', he, _⟩ := h
  simp only [Value.slice.injEq] at he
  exact he.2.1

theorem box_kept3 {w w1 : World} {c0 c1 d0 d1 e0 e1 : Value} {t u x : TypeId} (h : Kept (((w.alloc (.cells #[c0, c1] t)).alloc (.cells #[d0, d1] u)).alloc (.cells #[e0, e1] x)) w1) :
    w1.cell? ⟨w.heap.size, 0, none⟩ = some c0 ∧ w1.cell? ⟨w.heap.size, 1, none⟩ = some c1 ∧ w1.cell? ⟨w.heap.size + 1, 0, none⟩ = some d0 ∧ w1.cell? ⟨w.heap.size + 1, 1, none⟩ = some d1 ∧ w1.cell? ⟨w.heap.size + 1 + 1, 0, none⟩ = some e0 ∧ w1.cell? ⟨w.heap.size + 1 + 1, 1, none⟩ = some e1 := by
  obtain ⟨h1, h2, h3, h4⟩ := box_kept2 (((Kept.refl _).alloc _).trans h)
  refine ⟨h1, h2, h3, h4, ?_, ?_⟩ <;> (rw [h.cells _ _ (by simp), World.cell?_alloc_at _ _ _ _ (by simp)]; rfl)

set_option maxRecDepth 100000 in
set_option maxHeartbeats 2000000 in
theorem lring_a (ma mb mc : Bool) (aa ab ac : Option Addr) (la lb lc ca cb cc : Nat) (a b c : List Nat) (w : World) (ha : Sl w (.slice aa la ca) a) (hb : Sl w (.slice ab lb cb) b) (hc : Sl w (.slice ac lc cc) c)
    (_hla : a.length ≤ 9223372036854775807) (_hlb : b.length ≤ 9223372036854775807) (_hlc : c.length ≤ 9223372036854775807) (hra : ¬ R ma a) :
    Calls Tryd.prog 7 #[.agg #[.bool ma, .slice aa la ca], .agg #[.bool mb, .slice ab lb cb], .agg #[.bool mc, .slice ac lc cc]] w fun e w' => e = .returned (.bool true) ∧ Kept w w' := by
  have HS : Hid (Sl w (.slice aa la ca) a ∧ Sl w (.slice ab lb cb) b ∧ Sl w (.slice ac lc cc) c) := ⟨ha, hb, hc⟩
  have ela := ha.len
  have elb := hb.len
  have elc := hc.len
  have HRa : Hid (¬ R ma a) := hra
  clear hra
  clear ha hb hc ela elb elc
  have K3 : ∀ x y t, Kept w (((w.alloc x).alloc y).alloc t) := fun x y t => (((Kept.refl w).alloc x).alloc y).alloc t
  go_enter Tryd.func7, Tryd.ntmps7
  go_wp2_with fail
  refine (awake_yes _).mono ?_
  rintro e w1 ⟨rfl, hk⟩
  obtain ⟨hA0, hA1, hB0, hB1, hC0, hC1⟩ := box_kept3 hk
  have HK : Hid (Kept w w1) := (K3 _ _ _).trans hk
  clear hk K3
  go_wp2_with fail
  refine (right_no ma _ a _ (HS.out.1.kept HK.out) (by omega) HRa.out).mono ?_
  rintro e w2 ⟨rfl, hk⟩
  have hA0 := cell_kept hk hA0
  have hA1 := cell_kept hk hA1
  have hB0 := cell_kept hk hB0
  have hB1 := cell_kept hk hB1
  have hC0 := cell_kept hk hC0
  have hC1 := cell_kept hk hC1
  have HK : Hid (Kept w w2) := HK.out.trans hk
  clear hk
  go_wp2
  go_ret
  exact ⟨rfl, HK.out⟩

set_option maxRecDepth 100000 in
set_option maxHeartbeats 2000000 in
theorem lring_b (ma mb mc : Bool) (aa ab ac : Option Addr) (la lb lc ca cb cc : Nat) (a b c : List Nat) (w : World) (ha : Sl w (.slice aa la ca) a) (hb : Sl w (.slice ab lb cb) b) (hc : Sl w (.slice ac lc cc) c)
    (_hla : a.length ≤ 9223372036854775807) (_hlb : b.length ≤ 9223372036854775807) (_hlc : c.length ≤ 9223372036854775807) (hra : R ma a) (hrb : ¬ R mb b) :
    Calls Tryd.prog 7 #[.agg #[.bool ma, .slice aa la ca], .agg #[.bool mb, .slice ab lb cb], .agg #[.bool mc, .slice ac lc cc]] w fun e w' => e = .returned (.bool true) ∧ Kept w w' := by
  have HS : Hid (Sl w (.slice aa la ca) a ∧ Sl w (.slice ab lb cb) b ∧ Sl w (.slice ac lc cc) c) := ⟨ha, hb, hc⟩
  have ela := ha.len
  have elb := hb.len
  have elc := hc.len
  have HRa : Hid (R ma a) := hra
  have HRb : Hid (¬ R mb b) := hrb
  clear hra hrb
  clear ha hb hc ela elb elc
  have K3 : ∀ x y t, Kept w (((w.alloc x).alloc y).alloc t) := fun x y t => (((Kept.refl w).alloc x).alloc y).alloc t
  go_enter Tryd.func7, Tryd.ntmps7
  go_wp2_with fail
  refine (awake_yes _).mono ?_
  rintro e w1 ⟨rfl, hk⟩
  obtain ⟨hA0, hA1, hB0, hB1, hC0, hC1⟩ := box_kept3 hk
  have HK : Hid (Kept w w1) := (K3 _ _ _).trans hk
  clear hk K3
  go_wp2_with fail
  refine (right_yes ma _ a _ (HS.out.1.kept HK.out) HRa.out).mono ?_
  rintro e w2 ⟨rfl, hk⟩
  have hA0 := cell_kept hk hA0
  have hA1 := cell_kept hk hA1
  have hB0 := cell_kept hk hB0
  have hB1 := cell_kept hk hB1
  have hC0 := cell_kept hk hC0
  have hC1 := cell_kept hk hC1
  have HK : Hid (Kept w w2) := HK.out.trans hk
  clear hk
  go_wp2_with fail
  refine (right_no mb _ b _ (HS.out.2.1.kept HK.out) (by omega) HRb.out).mono ?_
  rintro e w3 ⟨rfl, hk⟩
  have hA0 := cell_kept hk hA0
  have hA1 := cell_kept hk hA1
  have hB0 := cell_kept hk hB0
  have hB1 := cell_kept hk hB1
  have hC0 := cell_kept hk hC0
  have hC1 := cell_kept hk hC1
  have HK : Hid (Kept w w3) := HK.out.trans hk
  clear hk
  go_wp2
  go_ret
  exact ⟨rfl, HK.out⟩

set_option maxRecDepth 100000 in
set_option maxHeartbeats 2000000 in
theorem lring_c (ma mb mc : Bool) (aa ab ac : Option Addr) (la lb lc ca cb cc : Nat) (a b c : List Nat) (w : World) (ha : Sl w (.slice aa la ca) a) (hb : Sl w (.slice ab lb cb) b) (hc : Sl w (.slice ac lc cc) c)
    (_hla : a.length ≤ 9223372036854775807) (_hlb : b.length ≤ 9223372036854775807) (_hlc : c.length ≤ 9223372036854775807) (hra : R ma a) (hrb : R mb b) (hrc : ¬ R mc c) :
    Calls Tryd.prog 7 #[.agg #[.bool ma, .slice aa la ca], .agg #[.bool mb, .slice ab lb cb], .agg #[.bool mc, .slice ac lc cc]] w fun e w' => e = .returned (.bool true) ∧ Kept w w' := by
  have HS : Hid (Sl w (.slice aa la ca) a ∧ Sl w (.slice ab lb cb) b ∧ Sl w (.slice ac lc cc) c) := ⟨ha, hb, hc⟩
  have ela := ha.len
  have elb := hb.len
  have elc := hc.len
  have HRa : Hid (R ma a) := hra
  have HRb : Hid (R mb b) := hrb
  have HRc : Hid (¬ R mc c) := hrc
  clear hra hrb hrc
  clear ha hb hc ela elb elc
  have K3 : ∀ x y t, Kept w (((w.alloc x).alloc y).alloc t) := fun x y t => (((Kept.refl w).alloc x).alloc y).alloc t
  go_enter Tryd.func7, Tryd.ntmps7
  go_wp2_with fail
  refine (awake_yes _).mono ?_
  rintro e w1 ⟨rfl, hk⟩
  obtain ⟨hA0, hA1, hB0, hB1, hC0, hC1⟩ := box_kept3 hk
  have HK : Hid (Kept w w1) := (K3 _ _ _).trans hk
  clear hk K3
  go_wp2_with fail
  refine (right_yes ma _ a _ (HS.out.1.kept HK.out) HRa.out).mono ?_
  rintro e w2 ⟨rfl, hk⟩
  have hA0 := cell_kept hk hA0
  have hA1 := cell_kept hk hA1
  have hB0 := cell_kept hk hB0
  have hB1 := cell_kept hk hB1
  have hC0 := cell_kept hk hC0
  have hC1 := cell_kept hk hC1
  have HK : Hid (Kept w w2) := HK.out.trans hk
  clear hk
  go_wp2_with fail
  refine (right_yes mb _ b _ (HS.out.2.1.kept HK.out) HRb.out).mono ?_
  rintro e w3 ⟨rfl, hk⟩
  have hA0 := cell_kept hk hA0
  have hA1 := cell_kept hk hA1
  have hB0 := cell_kept hk hB0
  have hB1 := cell_kept hk hB1
  have hC0 := cell_kept hk hC0
  have hC1 := cell_kept hk hC1
  have HK : Hid (Kept w w3) := HK.out.trans hk
  clear hk
  go_wp2_with fail
  refine (right_no mc _ c _ (HS.out.2.2.kept HK.out) (by omega) HRc.out).mono ?_
  rintro e w4 ⟨rfl, hk⟩
  have hA0 := cell_kept hk hA0
  have hA1 := cell_kept hk hA1
  have hB0 := cell_kept hk hB0
  have hB1 := cell_kept hk hB1
  have hC0 := cell_kept hk hC0
  have hC1 := cell_kept hk hC1
  have HK : Hid (Kept w w4) := HK.out.trans hk
  clear hk
  go_wp2
  go_ret
  exact ⟨rfl, HK.out⟩

set_option maxRecDepth 100000 in
set_option maxHeartbeats 2000000 in
theorem lring_long (ma mb mc : Bool) (aa ab ac : Option Addr) (la lb lc ca cb cc : Nat) (a b c : List Nat) (w : World) (ha : Sl w (.slice aa la ca) a) (hb : Sl w (.slice ab lb cb) b) (hc : Sl w (.slice ac lc cc) c)
    (_hla : a.length ≤ 9223372036854775807) (_hlb : b.length ≤ 9223372036854775807) (_hlc : c.length ≤ 9223372036854775807) (hra : R ma a) (hrb : R mb b) (hrc : R mc c) (hlong : 60 < a.length + b.length + c.length) :
    Calls Tryd.prog 7 #[.agg #[.bool ma, .slice aa la ca], .agg #[.bool mb, .slice ab lb cb], .agg #[.bool mc, .slice ac lc cc]] w fun e w' => e = .returned (.bool true) ∧ Kept w w' := by
  have HS : Hid (Sl w (.slice aa la ca) a ∧ Sl w (.slice ab lb cb) b ∧ Sl w (.slice ac lc cc) c) := ⟨ha, hb, hc⟩
  have ela := ha.len
  have elb := hb.len
  have elc := hc.len
  have HRa : Hid (R ma a) := hra
  have HRb : Hid (R mb b) := hrb
  have HRc : Hid (R mc c) := hrc
  have hl1 : la ≤ 72 := by rw [ela]; exact hra.1
  have hl2 : lb ≤ 72 := by rw [elb]; exact hrb.1
  have hl3 : lc ≤ 72 := by rw [elc]; exact hrc.1
  have hl4 : 60 < la + lb + lc := by omega
  clear hra hrb hrc ela elb elc hlong
  clear ha hb hc
  have K3 : ∀ x y t, Kept w (((w.alloc x).alloc y).alloc t) := fun x y t => (((Kept.refl w).alloc x).alloc y).alloc t
  go_enter Tryd.func7, Tryd.ntmps7
  go_wp2_with fail
  refine (awake_yes _).mono ?_
  rintro e w1 ⟨rfl, hk⟩
  obtain ⟨hA0, hA1, hB0, hB1, hC0, hC1⟩ := box_kept3 hk
  have HK : Hid (Kept w w1) := (K3 _ _ _).trans hk
  clear hk K3
  go_wp2_with fail
  refine (right_yes ma _ a _ (HS.out.1.kept HK.out) HRa.out).mono ?_
  rintro e w2 ⟨rfl, hk⟩
  have hA0 := cell_kept hk hA0
  have hA1 := cell_kept hk hA1
  have hB0 := cell_kept hk hB0
  have hB1 := cell_kept hk hB1
  have hC0 := cell_kept hk hC0
  have hC1 := cell_kept hk hC1
  have HK : Hid (Kept w w2) := HK.out.trans hk
  clear hk
  go_wp2_with fail
  refine (right_yes mb _ b _ (HS.out.2.1.kept HK.out) HRb.out).mono ?_
  rintro e w3 ⟨rfl, hk⟩
  have hA0 := cell_kept hk hA0
  have hA1 := cell_kept hk hA1
  have hB0 := cell_kept hk hB0
  have hB1 := cell_kept hk hB1
  have hC0 := cell_kept hk hC0
  have hC1 := cell_kept hk hC1
  have HK : Hid (Kept w w3) := HK.out.trans hk
  clear hk
  go_wp2_with fail
  refine (right_yes mc _ c _ (HS.out.2.2.kept HK.out) HRc.out).mono ?_
  rintro e w4 ⟨rfl, hk⟩
  have hA0 := cell_kept hk hA0
  have hA1 := cell_kept hk hA1
  have hB0 := cell_kept hk hB0
  have hB1 := cell_kept hk hB1
  have hC0 := cell_kept hk hC0
  have hC1 := cell_kept hk hC1
  have HK : Hid (Kept w w4) := HK.out.trans hk
  clear hk
  go_wp2
  go_ret
  exact ⟨rfl, HK.out⟩

set_option maxRecDepth 100000 in
set_option maxHeartbeats 4000000 in
theorem lring_main (ma mb mc : Bool) (aa ab ac : Option Addr) (la lb lc ca cb cc : Nat) (a b c : List Nat) (w : World) (ha : Sl w (.slice aa la ca) a) (hb : Sl w (.slice ab lb cb) b) (hc : Sl w (.slice ac lc cc) c)
    (_hla : a.length ≤ 9223372036854775807) (_hlb : b.length ≤ 9223372036854775807) (_hlc : c.length ≤ 9223372036854775807) (hra : R ma a) (hrb : R mb b) (hrc : R mc c) (hshort : a.length + b.length + c.length ≤ 60) :
    Calls Tryd.prog 7 #[.agg #[.bool ma, .slice aa la ca], .agg #[.bool mb, .slice ab lb cb], .agg #[.bool mc, .slice ac lc cc]] w fun e w' => e = .returned (.bool true) ∧ Kept w w' := by
  have HS : Hid (Sl w (.slice aa la ca) a ∧ Sl w (.slice ab lb cb) b ∧ Sl w (.slice ac lc cc) c) := ⟨ha, hb, hc⟩
  have ela := ha.len
  have elb := hb.len
  have elc := hc.len
  have HRa : Hid (R ma a) := hra
  have HRb : Hid (R mb b) := hrb
  have HRc : Hid (R mc c) := hrc
  have hl1 : la ≤ 72 := by rw [ela]; exact hra.1
  have hl2 : lb ≤ 72 := by rw [elb]; exact hrb.1
  have hl3 : lc ≤ 72 := by rw [elc]; exact hrc.1
  have hl4 : la + lb + lc ≤ 60 := by omega
  have HM : Hid (Small a b c (M.int ma a) (M.int mb b) (M.int mc c)) := small_of ha.bd hb.bd hc.bd hshort
  clear hra hrb hrc ela elb elc hshort ha hb hc
  have K3 : ∀ x y t, Kept w (((w.alloc x).alloc y).alloc t) := fun x y t => (((Kept.refl w).alloc x).alloc y).alloc t
  go_enter Tryd.func7, Tryd.ntmps7
  go_wp2_with fail
  refine (awake_yes _).mono ?_
  rintro e w1 ⟨rfl, hk⟩
  obtain ⟨hA0, hA1, hB0, hB1, hC0, hC1⟩ := box_kept3 hk
  have HK : Hid (Kept w w1) := (K3 _ _ _).trans hk
  clear hk K3
  go_wp2_with fail
  refine (right_yes ma _ a _ (HS.out.1.kept HK.out) HRa.out).mono ?_
  rintro e w2 ⟨rfl, hk⟩
  have hA0 := cell_kept hk hA0
  have hA1 := cell_kept hk hA1
  have hB0 := cell_kept hk hB0
  have hB1 := cell_kept hk hB1
  have hC0 := cell_kept hk hC0
  have hC1 := cell_kept hk hC1
  have HK : Hid (Kept w w2) := HK.out.trans hk
  clear hk
  go_wp2_with fail
  refine (right_yes mb _ b _ (HS.out.2.1.kept HK.out) HRb.out).mono ?_
  rintro e w3 ⟨rfl, hk⟩
  have hA0 := cell_kept hk hA0
  have hA1 := cell_kept hk hA1
  have hB0 := cell_kept hk hB0
  have hB1 := cell_kept hk hB1
  have hC0 := cell_kept hk hC0
  have hC1 := cell_kept hk hC1
  have HK : Hid (Kept w w3) := HK.out.trans hk
  clear hk
  go_wp2_with fail
  refine (right_yes mc _ c _ (HS.out.2.2.kept HK.out) HRc.out).mono ?_
  rintro e w4 ⟨rfl, hk⟩
  have hA0 := cell_kept hk hA0
  have hA1 := cell_kept hk hA1
  have hB0 := cell_kept hk hB0
  have hB1 := cell_kept hk hB1
  have hC0 := cell_kept hk hC0
  have hC1 := cell_kept hk hC1
  have HK : Hid (Kept w w4) := HK.out.trans hk
  clear hk
  go_wp2_with fail
  refine (add_any ma mb _ _ a b _ (HS.out.1.kept (HK.out.trans (Kept.refl w4))) (HS.out.2.1.kept (HK.out.trans (Kept.refl w4))) HRa.out HRb.out).mono ?_
  rintro e w5 ⟨hk, sS, aS, nS, cS, kS, rfl, hF⟩
  obtain ⟨rfl, lS, hn, hr, hi⟩ := fin_fits hF HM.out.s1
  have HNS : Hid (∃ B, New B w5 (.slice aS nS cS) lS) := ⟨_, hn⟩
  have HRS : Hid (M.Right sS lS ∧ M.int sS lS = M.int ma a + M.int mb b) := ⟨hr, hi⟩
  have hA0 := cell_kept hk hA0
  have hA1 := cell_kept hk hA1
  have hB0 := cell_kept hk hB0
  have hB1 := cell_kept hk hB1
  have hC0 := cell_kept hk hC0
  have hC1 := cell_kept hk hC1
  have HK : Hid (Kept w w5) := HK.out.trans hk
  clear hk hF hn hr hi
  have gA0 := fun x => cell_kept ((Kept.refl w5).alloc x) hA0
  have gA1 := fun x => cell_kept ((Kept.refl w5).alloc x) hA1
  have gB0 := fun x => cell_kept ((Kept.refl w5).alloc x) hB0
  have gB1 := fun x => cell_kept ((Kept.refl w5).alloc x) hB1
  have gC0 := fun x => cell_kept ((Kept.refl w5).alloc x) hC0
  have gC1 := fun x => cell_kept ((Kept.refl w5).alloc x) hC1
  clear hA0 hA1 hB0 hB1 hC0 hC1
  go_wp2_with fail
  refine (add_any mb ma _ _ b a _ (HS.out.2.1.kept (HK.out.trans ((Kept.refl w5).alloc _))) (HS.out.1.kept (HK.out.trans ((Kept.refl w5).alloc _))) HRb.out HRa.out).mono ?_
  rintro e w6 ⟨hk, sT, aT, nT, cT, kT, rfl, hF⟩
  rw [Int.add_comm (M.int mb b) (M.int ma a)] at hF
  obtain ⟨rfl, lT, hn, hr, hi⟩ := fin_fits hF HM.out.s1
  have HNT : Hid (∃ B, New B w6 (.slice aT nT cT) lT) := ⟨_, hn⟩
  have HRT : Hid (M.Right sT lT ∧ M.int sT lT = M.int ma a + M.int mb b) := ⟨hr, hi⟩
  have hA0 := cell_kept hk (gA0 _)
  have hA1 := cell_kept hk (gA1 _)
  have hB0 := cell_kept hk (gB0 _)
  have hB1 := cell_kept hk (gB1 _)
  have hC0 := cell_kept hk (gC0 _)
  have hC1 := cell_kept hk (gC1 _)
  obtain ⟨hS0, hS1⟩ := box_kept hk
  clear gA0 gA1 gB0 gB1 gC0 gC1
  have HNS : Hid (∃ B, New B w6 (.slice aS nS cS) lS) := ⟨_, HNS.out.choose_spec.kept (((Kept.refl w5).alloc _).trans hk)⟩
  have HK : Hid (Kept w w6) := HK.out.trans (((Kept.refl w5).alloc _).trans hk)
  clear hk hF hn hr hi
  have gA0 := fun x => cell_kept ((Kept.refl w6).alloc x) hA0
  have gA1 := fun x => cell_kept ((Kept.refl w6).alloc x) hA1
  have gB0 := fun x => cell_kept ((Kept.refl w6).alloc x) hB0
  have gB1 := fun x => cell_kept ((Kept.refl w6).alloc x) hB1
  have gC0 := fun x => cell_kept ((Kept.refl w6).alloc x) hC0
  have gC1 := fun x => cell_kept ((Kept.refl w6).alloc x) hC1
  have gS0 := fun x => cell_kept ((Kept.refl w6).alloc x) hS0
  have gS1 := fun x => cell_kept ((Kept.refl w6).alloc x) hS1
  clear hA0 hA1 hB0 hB1 hC0 hC1 hS0 hS1
  go_wp2_with fail
  refine (sub_any sS mb _ _ lS b _ (HNS.out.choose_spec.sl.kept ((Kept.refl w6).alloc _)) (HS.out.2.1.kept (HK.out.trans ((Kept.refl w6).alloc _))) (R.of_right HRS.out.1) HRb.out).mono ?_
  rintro e w7 ⟨hk, sU, aU, nU, cU, kU, rfl, hF⟩
  rw [HRS.out.2] at hF
  rw [Int.add_sub_cancel (M.int ma a) (M.int mb b)] at hF
  obtain ⟨rfl, lU, hn, hr, hi⟩ := fin_fits hF HM.out.s6
  have HNU : Hid (∃ B, New B w7 (.slice aU nU cU) lU) := ⟨_, hn⟩
  have HRU : Hid (M.Right sU lU ∧ M.int sU lU = M.int ma a) := ⟨hr, hi⟩
  have hA0 := cell_kept hk (gA0 _)
  have hA1 := cell_kept hk (gA1 _)
  have hB0 := cell_kept hk (gB0 _)
  have hB1 := cell_kept hk (gB1 _)
  have hC0 := cell_kept hk (gC0 _)
  have hC1 := cell_kept hk (gC1 _)
  have hS0 := cell_kept hk (gS0 _)
  have hS1 := cell_kept hk (gS1 _)
  obtain ⟨hT0, hT1⟩ := box_kept hk
  clear gA0 gA1 gB0 gB1 gC0 gC1 gS0 gS1
  have HNS : Hid (∃ B, New B w7 (.slice aS nS cS) lS) := ⟨_, HNS.out.choose_spec.kept (((Kept.refl w6).alloc _).trans hk)⟩
  have HNT : Hid (∃ B, New B w7 (.slice aT nT cT) lT) := ⟨_, HNT.out.choose_spec.kept (((Kept.refl w6).alloc _).trans hk)⟩
  have HK : Hid (Kept w w7) := HK.out.trans (((Kept.refl w6).alloc _).trans hk)
  clear hk hF hn hr hi
  have gA0 := fun x => cell_kept ((Kept.refl w7).alloc x) hA0
  have gA1 := fun x => cell_kept ((Kept.refl w7).alloc x) hA1
  have gB0 := fun x => cell_kept ((Kept.refl w7).alloc x) hB0
  have gB1 := fun x => cell_kept ((Kept.refl w7).alloc x) hB1
  have gC0 := fun x => cell_kept ((Kept.refl w7).alloc x) hC0
  have gC1 := fun x => cell_kept ((Kept.refl w7).alloc x) hC1
  have gS0 := fun x => cell_kept ((Kept.refl w7).alloc x) hS0
  have gS1 := fun x => cell_kept ((Kept.refl w7).alloc x) hS1
  have gT0 := fun x => cell_kept ((Kept.refl w7).alloc x) hT0
  have gT1 := fun x => cell_kept ((Kept.refl w7).alloc x) hT1
  clear hA0 hA1 hB0 hB1 hC0 hC1 hS0 hS1 hT0 hT1
  go_wp2_with fail
  refine (lsame_any true sS sT _ _ lS lT _ (HNS.out.choose_spec.sl.kept ((Kept.refl w7).alloc _)) (HNT.out.choose_spec.sl.kept ((Kept.refl w7).alloc _)) (by have := (R.of_right HRS.out.1).1; omega) (by have := (R.of_right HRT.out.1).1; omega) (decide_eq_true (M.int_inj HRS.out.1 HRT.out.1 (HRS.out.2.trans HRT.out.2.symm))).symm).mono ?_
  rintro e w8 ⟨rfl, hk⟩
  have hA0 := cell_kept hk (gA0 _)
  have hA1 := cell_kept hk (gA1 _)
  have hB0 := cell_kept hk (gB0 _)
  have hB1 := cell_kept hk (gB1 _)
  have hC0 := cell_kept hk (gC0 _)
  have hC1 := cell_kept hk (gC1 _)
  have hS0 := cell_kept hk (gS0 _)
  have hS1 := cell_kept hk (gS1 _)
  have hT0 := cell_kept hk (gT0 _)
  have hT1 := cell_kept hk (gT1 _)
  obtain ⟨hU0, hU1⟩ := box_kept hk
  clear gA0 gA1 gB0 gB1 gC0 gC1 gS0 gS1 gT0 gT1
  have HNS : Hid (∃ B, New B w8 (.slice aS nS cS) lS) := ⟨_, HNS.out.choose_spec.kept (((Kept.refl w7).alloc _).trans hk)⟩
  have HNT : Hid (∃ B, New B w8 (.slice aT nT cT) lT) := ⟨_, HNT.out.choose_spec.kept (((Kept.refl w7).alloc _).trans hk)⟩
  have HNU : Hid (∃ B, New B w8 (.slice aU nU cU) lU) := ⟨_, HNU.out.choose_spec.kept (((Kept.refl w7).alloc _).trans hk)⟩
  have HK : Hid (Kept w w8) := HK.out.trans (((Kept.refl w7).alloc _).trans hk)
  clear hk
  go_wp2_with fail
  refine (lsame_any true sU ma _ _ lU a _ (HNU.out.choose_spec.sl.kept (Kept.refl w8)) (HS.out.1.kept (HK.out.trans (Kept.refl w8))) (by have := (R.of_right HRU.out.1).1; omega) (by have := HRa.out.1; omega) (decide_eq_true (M.int_inj HRU.out.1 (HRa.out.right HS.out.1.bd) HRU.out.2)).symm).mono ?_
  rintro e w9 ⟨rfl, hk⟩
  have hA0 := cell_kept hk hA0
  have hA1 := cell_kept hk hA1
  have hB0 := cell_kept hk hB0
  have hB1 := cell_kept hk hB1
  have hC0 := cell_kept hk hC0
  have hC1 := cell_kept hk hC1
  have hS0 := cell_kept hk hS0
  have hS1 := cell_kept hk hS1
  have hT0 := cell_kept hk hT0
  have hT1 := cell_kept hk hT1
  have hU0 := cell_kept hk hU0
  have hU1 := cell_kept hk hU1
  have HNS : Hid (∃ B, New B w9 (.slice aS nS cS) lS) := ⟨_, HNS.out.choose_spec.kept hk⟩
  have HNT : Hid (∃ B, New B w9 (.slice aT nT cT) lT) := ⟨_, HNT.out.choose_spec.kept hk⟩
  have HNU : Hid (∃ B, New B w9 (.slice aU nU cU) lU) := ⟨_, HNU.out.choose_spec.kept hk⟩
  have HK : Hid (Kept w w9) := HK.out.trans hk
  clear hk
  clear hT0 hT1 hU0 hU1
  go_wp2_with fail
  refine (mul_any sS mc _ _ lS c _ (HNS.out.choose_spec.sl.kept (Kept.refl w9)) (HS.out.2.2.kept (HK.out.trans (Kept.refl w9))) (R.of_right HRS.out.1) HRc.out).mono ?_
  rintro e w10 ⟨hk, sP, aP, nP, cP, kP, rfl, hF⟩
  rw [HRS.out.2] at hF
  obtain ⟨rfl, lP, hn, hr, hi⟩ := fin_fits hF HM.out.s2
  have HNP : Hid (∃ B, New B w10 (.slice aP nP cP) lP) := ⟨_, hn⟩
  have HRP : Hid (M.Right sP lP ∧ M.int sP lP = (M.int ma a + M.int mb b) * M.int mc c) := ⟨hr, hi⟩
  have hA0 := cell_kept hk hA0
  have hA1 := cell_kept hk hA1
  have hB0 := cell_kept hk hB0
  have hB1 := cell_kept hk hB1
  have hC0 := cell_kept hk hC0
  have hC1 := cell_kept hk hC1
  have hS0 := cell_kept hk hS0
  have hS1 := cell_kept hk hS1
  have HNS : Hid (∃ B, New B w10 (.slice aS nS cS) lS) := ⟨_, HNS.out.choose_spec.kept hk⟩
  have HK : Hid (Kept w w10) := HK.out.trans hk
  clear hk hF hn hr hi
  clear hS0 hS1
  have gA0 := fun x => cell_kept ((Kept.refl w10).alloc x) hA0
  have gA1 := fun x => cell_kept ((Kept.refl w10).alloc x) hA1
  have gB0 := fun x => cell_kept ((Kept.refl w10).alloc x) hB0
  have gB1 := fun x => cell_kept ((Kept.refl w10).alloc x) hB1
  have gC0 := fun x => cell_kept ((Kept.refl w10).alloc x) hC0
  have gC1 := fun x => cell_kept ((Kept.refl w10).alloc x) hC1
  clear hA0 hA1 hB0 hB1 hC0 hC1
  go_wp2_with fail
  refine (mul_any ma mc _ _ a c _ (HS.out.1.kept (HK.out.trans ((Kept.refl w10).alloc _))) (HS.out.2.2.kept (HK.out.trans ((Kept.refl w10).alloc _))) HRa.out HRc.out).mono ?_
  rintro e w11 ⟨hk, sQ, aQ, nQ, cQ, kQ, rfl, hF⟩
  obtain ⟨rfl, lQ, hn, hr, hi⟩ := fin_fits hF HM.out.s3
  have HNQ : Hid (∃ B, New B w11 (.slice aQ nQ cQ) lQ) := ⟨_, hn⟩
  have HRQ : Hid (M.Right sQ lQ ∧ M.int sQ lQ = M.int ma a * M.int mc c) := ⟨hr, hi⟩
  have hA0 := cell_kept hk (gA0 _)
  have hA1 := cell_kept hk (gA1 _)
  have hB0 := cell_kept hk (gB0 _)
  have hB1 := cell_kept hk (gB1 _)
  have hC0 := cell_kept hk (gC0 _)
  have hC1 := cell_kept hk (gC1 _)
  obtain ⟨hP0, hP1⟩ := box_kept hk
  clear gA0 gA1 gB0 gB1 gC0 gC1
  have HNP : Hid (∃ B, New B w11 (.slice aP nP cP) lP) := ⟨_, HNP.out.choose_spec.kept (((Kept.refl w10).alloc _).trans hk)⟩
  have HK : Hid (Kept w w11) := HK.out.trans (((Kept.refl w10).alloc _).trans hk)
  clear hk hF hn hr hi
  have gA0 := fun x => cell_kept ((Kept.refl w11).alloc x) hA0
  have gA1 := fun x => cell_kept ((Kept.refl w11).alloc x) hA1
  have gB0 := fun x => cell_kept ((Kept.refl w11).alloc x) hB0
  have gB1 := fun x => cell_kept ((Kept.refl w11).alloc x) hB1
  have gC0 := fun x => cell_kept ((Kept.refl w11).alloc x) hC0
  have gC1 := fun x => cell_kept ((Kept.refl w11).alloc x) hC1
  have gP0 := fun x => cell_kept ((Kept.refl w11).alloc x) hP0
  have gP1 := fun x => cell_kept ((Kept.refl w11).alloc x) hP1
  clear hA0 hA1 hB0 hB1 hC0 hC1 hP0 hP1
  go_wp2_with fail
  refine (mul_any mc mb _ _ c b _ (HS.out.2.2.kept (HK.out.trans ((Kept.refl w11).alloc _))) (HS.out.2.1.kept (HK.out.trans ((Kept.refl w11).alloc _))) HRc.out HRb.out).mono ?_
  rintro e w12 ⟨hk, sV, aV, nV, cV, kV, rfl, hF⟩
  obtain ⟨rfl, lV, hn, hr, hi⟩ := fin_fits hF HM.out.s4
  have HNV : Hid (∃ B, New B w12 (.slice aV nV cV) lV) := ⟨_, hn⟩
  have HRV : Hid (M.Right sV lV ∧ M.int sV lV = M.int mc c * M.int mb b) := ⟨hr, hi⟩
  have hA0 := cell_kept hk (gA0 _)
  have hA1 := cell_kept hk (gA1 _)
  have hB0 := cell_kept hk (gB0 _)
  have hB1 := cell_kept hk (gB1 _)
  have hC0 := cell_kept hk (gC0 _)
  have hC1 := cell_kept hk (gC1 _)
  have hP0 := cell_kept hk (gP0 _)
  have hP1 := cell_kept hk (gP1 _)
  obtain ⟨hQ0, hQ1⟩ := box_kept hk
  clear gA0 gA1 gB0 gB1 gC0 gC1 gP0 gP1
  have HNP : Hid (∃ B, New B w12 (.slice aP nP cP) lP) := ⟨_, HNP.out.choose_spec.kept (((Kept.refl w11).alloc _).trans hk)⟩
  have HNQ : Hid (∃ B, New B w12 (.slice aQ nQ cQ) lQ) := ⟨_, HNQ.out.choose_spec.kept (((Kept.refl w11).alloc _).trans hk)⟩
  have HK : Hid (Kept w w12) := HK.out.trans (((Kept.refl w11).alloc _).trans hk)
  clear hk hF hn hr hi
  have gA0 := fun x => cell_kept ((Kept.refl w12).alloc x) hA0
  have gA1 := fun x => cell_kept ((Kept.refl w12).alloc x) hA1
  have gB0 := fun x => cell_kept ((Kept.refl w12).alloc x) hB0
  have gB1 := fun x => cell_kept ((Kept.refl w12).alloc x) hB1
  have gC0 := fun x => cell_kept ((Kept.refl w12).alloc x) hC0
  have gC1 := fun x => cell_kept ((Kept.refl w12).alloc x) hC1
  have gP0 := fun x => cell_kept ((Kept.refl w12).alloc x) hP0
  have gP1 := fun x => cell_kept ((Kept.refl w12).alloc x) hP1
  have gQ0 := fun x => cell_kept ((Kept.refl w12).alloc x) hQ0
  have gQ1 := fun x => cell_kept ((Kept.refl w12).alloc x) hQ1
  clear hA0 hA1 hB0 hB1 hC0 hC1 hP0 hP1 hQ0 hQ1
  go_wp2_with fail
  refine (add_any sQ sV _ _ lQ lV _ (HNQ.out.choose_spec.sl.kept ((Kept.refl w12).alloc _)) (HNV.out.choose_spec.sl.kept ((Kept.refl w12).alloc _)) (R.of_right HRQ.out.1) (R.of_right HRV.out.1)).mono ?_
  rintro e w13 ⟨hk, sZ, aZ, nZ, cZ, kZ, rfl, hF⟩
  rw [HRQ.out.2] at hF
  rw [HRV.out.2] at hF
  rw [show M.int ma a * M.int mc c + M.int mc c * M.int mb b = (M.int ma a + M.int mb b) * M.int mc c by rw [Int.add_mul, Int.mul_comm (M.int mc c) (M.int mb b)]] at hF
  obtain ⟨rfl, lZ, hn, hr, hi⟩ := fin_fits hF HM.out.s2
  have HNZ : Hid (∃ B, New B w13 (.slice aZ nZ cZ) lZ) := ⟨_, hn⟩
  have HRZ : Hid (M.Right sZ lZ ∧ M.int sZ lZ = (M.int ma a + M.int mb b) * M.int mc c) := ⟨hr, hi⟩
  have hA0 := cell_kept hk (gA0 _)
  have hA1 := cell_kept hk (gA1 _)
  have hB0 := cell_kept hk (gB0 _)
  have hB1 := cell_kept hk (gB1 _)
  have hC0 := cell_kept hk (gC0 _)
  have hC1 := cell_kept hk (gC1 _)
  have hP0 := cell_kept hk (gP0 _)
  have hP1 := cell_kept hk (gP1 _)
  have hQ0 := cell_kept hk (gQ0 _)
  have hQ1 := cell_kept hk (gQ1 _)
  obtain ⟨hV0, hV1⟩ := box_kept hk
  clear gA0 gA1 gB0 gB1 gC0 gC1 gP0 gP1 gQ0 gQ1
  have HNP : Hid (∃ B, New B w13 (.slice aP nP cP) lP) := ⟨_, HNP.out.choose_spec.kept (((Kept.refl w12).alloc _).trans hk)⟩
  have HNQ : Hid (∃ B, New B w13 (.slice aQ nQ cQ) lQ) := ⟨_, HNQ.out.choose_spec.kept (((Kept.refl w12).alloc _).trans hk)⟩
  have HNV : Hid (∃ B, New B w13 (.slice aV nV cV) lV) := ⟨_, HNV.out.choose_spec.kept (((Kept.refl w12).alloc _).trans hk)⟩
  have HK : Hid (Kept w w13) := HK.out.trans (((Kept.refl w12).alloc _).trans hk)
  clear hk hF hn hr hi
  have gA0 := fun x => cell_kept ((Kept.refl w13).alloc x) hA0
  have gA1 := fun x => cell_kept ((Kept.refl w13).alloc x) hA1
  have gB0 := fun x => cell_kept ((Kept.refl w13).alloc x) hB0
  have gB1 := fun x => cell_kept ((Kept.refl w13).alloc x) hB1
  have gC0 := fun x => cell_kept ((Kept.refl w13).alloc x) hC0
  have gC1 := fun x => cell_kept ((Kept.refl w13).alloc x) hC1
  have gP0 := fun x => cell_kept ((Kept.refl w13).alloc x) hP0
  have gP1 := fun x => cell_kept ((Kept.refl w13).alloc x) hP1
  have gQ0 := fun x => cell_kept ((Kept.refl w13).alloc x) hQ0
  have gQ1 := fun x => cell_kept ((Kept.refl w13).alloc x) hQ1
  have gV0 := fun x => cell_kept ((Kept.refl w13).alloc x) hV0
  have gV1 := fun x => cell_kept ((Kept.refl w13).alloc x) hV1
  clear hA0 hA1 hB0 hB1 hC0 hC1 hP0 hP1 hQ0 hQ1 hV0 hV1
  go_wp2_with fail
  refine (lsame_any true sP sZ _ _ lP lZ _ (HNP.out.choose_spec.sl.kept ((Kept.refl w13).alloc _)) (HNZ.out.choose_spec.sl.kept ((Kept.refl w13).alloc _)) (by have := (R.of_right HRP.out.1).1; omega) (by have := (R.of_right HRZ.out.1).1; omega) (decide_eq_true (M.int_inj HRP.out.1 HRZ.out.1 (HRP.out.2.trans HRZ.out.2.symm))).symm).mono ?_
  rintro e w14 ⟨rfl, hk⟩
  have hA0 := cell_kept hk (gA0 _)
  have hA1 := cell_kept hk (gA1 _)
  have hB0 := cell_kept hk (gB0 _)
  have hB1 := cell_kept hk (gB1 _)
  have hC0 := cell_kept hk (gC0 _)
  have hC1 := cell_kept hk (gC1 _)
  have hP0 := cell_kept hk (gP0 _)
  have hP1 := cell_kept hk (gP1 _)
  have hQ0 := cell_kept hk (gQ0 _)
  have hQ1 := cell_kept hk (gQ1 _)
  have hV0 := cell_kept hk (gV0 _)
  have hV1 := cell_kept hk (gV1 _)
  obtain ⟨hZ0, hZ1⟩ := box_kept hk
  clear gA0 gA1 gB0 gB1 gC0 gC1 gP0 gP1 gQ0 gQ1 gV0 gV1
  have HNP : Hid (∃ B, New B w14 (.slice aP nP cP) lP) := ⟨_, HNP.out.choose_spec.kept (((Kept.refl w13).alloc _).trans hk)⟩
  have HNQ : Hid (∃ B, New B w14 (.slice aQ nQ cQ) lQ) := ⟨_, HNQ.out.choose_spec.kept (((Kept.refl w13).alloc _).trans hk)⟩
  have HNV : Hid (∃ B, New B w14 (.slice aV nV cV) lV) := ⟨_, HNV.out.choose_spec.kept (((Kept.refl w13).alloc _).trans hk)⟩
  have HNZ : Hid (∃ B, New B w14 (.slice aZ nZ cZ) lZ) := ⟨_, HNZ.out.choose_spec.kept (((Kept.refl w13).alloc _).trans hk)⟩
  have HK : Hid (Kept w w14) := HK.out.trans (((Kept.refl w13).alloc _).trans hk)
  clear hk
  go_wp2
  go_ret
  exact ⟨rfl, HK.out⟩


end Go.Proofs.YtiadnlpbbibkgaaDoor
