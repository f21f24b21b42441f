/- LimbOrder: the walk of the statement itself, out of its callees' contracts. -/
import Derived.Test.YtiadnlpbbibkgabDoorLcom
import Derived.Test.YtiadnlpbbibkgabDoorIcmp
namespace Go.Proofs.YtiadnlpbbibkgabDoor
open Go.RowKit

theorem sub_small {m n : Bool} {a b : List Nat} (ba : M.Bd a) (bb : M.Bd b) (h : a.length + b.length ≤ 60) : (M.int m a - M.int n b).natAbs < M.W72 := by
  have h1 := M.val_lt ba
  have h2 := M.val_lt bb
  have e1 := M.natAbs_int m a
  have e2 := M.natAbs_int n b
  have h3 := Nat.pow_le_pow_right (n := 4294967296) (by decide) (show a.length ≤ 60 by omega)
  have h4 := Nat.pow_le_pow_right (n := 4294967296) (by decide) (show b.length ≤ 60 by omega)
  have h5 : 2 * 4294967296 ^ 60 < M.W72 := by unfold M.W72; decide
  omega

theorem sign_neg {s : Bool} {l : List Nat} {z : Int} (h : M.Right s l) (e : M.int s l = z) (hz : z < 0) : s = true ∧ 0 < l.length := by
  refine ⟨?_, ?_⟩
  · cases s
    · simp [M.int] at e; omega
    · rfl
  · rcases Nat.eq_zero_or_pos l.length with h0 | h0
    · rw [List.length_eq_zero_iff.1 h0] at e; cases s <;> simp [M.int, M.val] at e <;> omega
    · exact h0

theorem sign_pos {s : Bool} {l : List Nat} {z : Int} (h : M.Right s l) (e : M.int s l = z) (hz : 0 < z) : s = false ∧ 0 < l.length := by
  refine ⟨?_, ?_⟩
  · cases s
    · rfl
    · simp [M.int] at e; omega
  · rcases Nat.eq_zero_or_pos l.length with h0 | h0
    · rw [List.length_eq_zero_iff.1 h0] at e; cases s <;> simp [M.int, M.val] at e <;> omega
    · exact h0

theorem sign_zero {s : Bool} {l : List Nat} {z : Int} (h : M.Right s l) (e : M.int s l = z) (hz : z = 0) : s = false ∧ l.length = 0 := by
  have h0 : l = [] := by
    rw [← M.val_zero h.tr]
    cases s <;> simp [M.int] at e <;> omega
  subst h0
  exact ⟨h.zero rfl, rfl⟩

set_option maxRecDepth 100000 in
set_option maxHeartbeats 2000000 in
theorem lorder_a (ma mb mc : Bool) (aa ab ac : Option Addr) (la lb lc ca cb cc : Nat) (a b c : List Nat) (w : World) (ha : Sl w (.slice aa la ca) a) (hb : Sl w (.slice ab lb cb) b) (hc : Sl w (.slice ac lc cc) c)
    (_hla : a.length ≤ 9223372036854775807) (_hlb : b.length ≤ 9223372036854775807) (_hlc : c.length ≤ 9223372036854775807) (hra : ¬ R ma a) :
    Calls Tryd.prog 4 #[.agg #[.bool ma, .slice aa la ca], .agg #[.bool mb, .slice ab lb cb], .agg #[.bool mc, .slice ac lc cc]] w fun e w' => e = .returned (.bool true) ∧ Kept w w' := by
  have HS : Hid (Sl w (.slice aa la ca) a ∧ Sl w (.slice ab lb cb) b ∧ Sl w (.slice ac lc cc) c) := ⟨ha, hb, hc⟩
  have ela := ha.len
  have elb := hb.len
  have elc := hc.len
  have HRa : Hid (¬ R ma a) := hra
  clear hra
  clear ha hb hc ela elb elc
  have K3 : ∀ x y t, Kept w (((w.alloc x).alloc y).alloc t) := fun x y t => (((Kept.refl w).alloc x).alloc y).alloc t
  go_enter Tryd.func4, Tryd.ntmps4
  go_wp2_with fail
  refine (awake_yes _).mono ?_
  rintro e w1 ⟨rfl, hk⟩
  obtain ⟨hA0, hA1, hB0, hB1, hC0, hC1⟩ := box_kept3 hk
  have HK : Hid (Kept w w1) := (K3 _ _ _).trans hk
  clear hk K3
  go_wp2_with fail
  refine (right_no ma _ a _ (HS.out.1.kept HK.out) (by omega) HRa.out).mono ?_
  rintro e w2 ⟨rfl, hk⟩
  have hA0 := cell_kept hk hA0
  have hA1 := cell_kept hk hA1
  have hB0 := cell_kept hk hB0
  have hB1 := cell_kept hk hB1
  have hC0 := cell_kept hk hC0
  have hC1 := cell_kept hk hC1
  have HK : Hid (Kept w w2) := HK.out.trans hk
  clear hk
  go_wp2
  go_ret
  exact ⟨rfl, HK.out⟩

set_option maxRecDepth 100000 in
set_option maxHeartbeats 2000000 in
theorem lorder_b (ma mb mc : Bool) (aa ab ac : Option Addr) (la lb lc ca cb cc : Nat) (a b c : List Nat) (w : World) (ha : Sl w (.slice aa la ca) a) (hb : Sl w (.slice ab lb cb) b) (hc : Sl w (.slice ac lc cc) c)
    (_hla : a.length ≤ 9223372036854775807) (_hlb : b.length ≤ 9223372036854775807) (_hlc : c.length ≤ 9223372036854775807) (hra : R ma a) (hrb : ¬ R mb b) :
    Calls Tryd.prog 4 #[.agg #[.bool ma, .slice aa la ca], .agg #[.bool mb, .slice ab lb cb], .agg #[.bool mc, .slice ac lc cc]] w fun e w' => e = .returned (.bool true) ∧ Kept w w' := by
  have HS : Hid (Sl w (.slice aa la ca) a ∧ Sl w (.slice ab lb cb) b ∧ Sl w (.slice ac lc cc) c) := ⟨ha, hb, hc⟩
  have ela := ha.len
  have elb := hb.len
  have elc := hc.len
  have HRa : Hid (R ma a) := hra
  have HRb : Hid (¬ R mb b) := hrb
  clear hra hrb
  clear ha hb hc ela elb elc
  have K3 : ∀ x y t, Kept w (((w.alloc x).alloc y).alloc t) := fun x y t => (((Kept.refl w).alloc x).alloc y).alloc t
  go_enter Tryd.func4, Tryd.ntmps4
  go_wp2_with fail
  refine (awake_yes _).mono ?_
  rintro e w1 ⟨rfl, hk⟩
  obtain ⟨hA0, hA1, hB0, hB1, hC0, hC1⟩ := box_kept3 hk
  have HK : Hid (Kept w w1) := (K3 _ _ _).trans hk
  clear hk K3
  go_wp2_with fail
  refine (right_yes ma _ a _ (HS.out.1.kept HK.out) HRa.out).mono ?_
  rintro e w2 ⟨rfl, hk⟩
  have hA0 := cell_kept hk hA0
  have hA1 := cell_kept hk hA1
  have hB0 := cell_kept hk hB0
  have hB1 := cell_kept hk hB1
  have hC0 := cell_kept hk hC0
  have hC1 := cell_kept hk hC1
  have HK : Hid (Kept w w2) := HK.out.trans hk
  clear hk
  go_wp2_with fail
  refine (right_no mb _ b _ (HS.out.2.1.kept HK.out) (by omega) HRb.out).mono ?_
  rintro e w3 ⟨rfl, hk⟩
  have hA0 := cell_kept hk hA0
  have hA1 := cell_kept hk hA1
  have hB0 := cell_kept hk hB0
  have hB1 := cell_kept hk hB1
  have hC0 := cell_kept hk hC0
  have hC1 := cell_kept hk hC1
  have HK : Hid (Kept w w3) := HK.out.trans hk
  clear hk
  go_wp2
  go_ret
  exact ⟨rfl, HK.out⟩

set_option maxRecDepth 100000 in
set_option maxHeartbeats 2000000 in
theorem lorder_c (ma mb mc : Bool) (aa ab ac : Option Addr) (la lb lc ca cb cc : Nat) (a b c : List Nat) (w : World) (ha : Sl w (.slice aa la ca) a) (hb : Sl w (.slice ab lb cb) b) (hc : Sl w (.slice ac lc cc) c)
    (_hla : a.length ≤ 9223372036854775807) (_hlb : b.length ≤ 9223372036854775807) (_hlc : c.length ≤ 9223372036854775807) (hra : R ma a) (hrb : R mb b) (hrc : ¬ R mc c) :
    Calls Tryd.prog 4 #[.agg #[.bool ma, .slice aa la ca], .agg #[.bool mb, .slice ab lb cb], .agg #[.bool mc, .slice ac lc cc]] w fun e w' => e = .returned (.bool true) ∧ Kept w w' := by
  have HS : Hid (Sl w (.slice aa la ca) a ∧ Sl w (.slice ab lb cb) b ∧ Sl w (.slice ac lc cc) c) := ⟨ha, hb, hc⟩
  have ela := ha.len
  have elb := hb.len
  have elc := hc.len
  have HRa : Hid (R ma a) := hra
  have HRb : Hid (R mb b) := hrb
  have HRc : Hid (¬ R mc c) := hrc
  clear hra hrb hrc
  clear ha hb hc ela elb elc
  have K3 : ∀ x y t, Kept w (((w.alloc x).alloc y).alloc t) := fun x y t => (((Kept.refl w).alloc x).alloc y).alloc t
  go_enter Tryd.func4, Tryd.ntmps4
  go_wp2_with fail
  refine (awake_yes _).mono ?_
  rintro e w1 ⟨rfl, hk⟩
  obtain ⟨hA0, hA1, hB0, hB1, hC0, hC1⟩ := box_kept3 hk
  have HK : Hid (Kept w w1) := (K3 _ _ _).trans hk
  clear hk K3
  go_wp2_with fail
  refine (right_yes ma _ a _ (HS.out.1.kept HK.out) HRa.out).mono ?_
  rintro e w2 ⟨rfl, hk⟩
  have hA0 := cell_kept hk hA0
  have hA1 := cell_kept hk hA1
  have hB0 := cell_kept hk hB0
  have hB1 := cell_kept hk hB1
  have hC0 := cell_kept hk hC0
  have hC1 := cell_kept hk hC1
  have HK : Hid (Kept w w2) := HK.out.trans hk
  clear hk
  go_wp2_with fail
  refine (right_yes mb _ b _ (HS.out.2.1.kept HK.out) HRb.out).mono ?_
  rintro e w3 ⟨rfl, hk⟩
  have hA0 := cell_kept hk hA0
  have hA1 := cell_kept hk hA1
  have hB0 := cell_kept hk hB0
  have hB1 := cell_kept hk hB1
  have hC0 := cell_kept hk hC0
  have hC1 := cell_kept hk hC1
  have HK : Hid (Kept w w3) := HK.out.trans hk
  clear hk
  go_wp2_with fail
  refine (right_no mc _ c _ (HS.out.2.2.kept HK.out) (by omega) HRc.out).mono ?_
  rintro e w4 ⟨rfl, hk⟩
  have hA0 := cell_kept hk hA0
  have hA1 := cell_kept hk hA1
  have hB0 := cell_kept hk hB0
  have hB1 := cell_kept hk hB1
  have hC0 := cell_kept hk hC0
  have hC1 := cell_kept hk hC1
  have HK : Hid (Kept w w4) := HK.out.trans hk
  clear hk
  go_wp2
  go_ret
  exact ⟨rfl, HK.out⟩

set_option maxRecDepth 100000 in
set_option maxHeartbeats 2000000 in
theorem lorder_long (ma mb mc : Bool) (aa ab ac : Option Addr) (la lb lc ca cb cc : Nat) (a b c : List Nat) (w : World) (ha : Sl w (.slice aa la ca) a) (hb : Sl w (.slice ab lb cb) b) (hc : Sl w (.slice ac lc cc) c)
    (_hla : a.length ≤ 9223372036854775807) (_hlb : b.length ≤ 9223372036854775807) (_hlc : c.length ≤ 9223372036854775807) (hra : R ma a) (hrb : R mb b) (hrc : R mc c) (hlong : 60 < a.length + b.length + c.length) :
    Calls Tryd.prog 4 #[.agg #[.bool ma, .slice aa la ca], .agg #[.bool mb, .slice ab lb cb], .agg #[.bool mc, .slice ac lc cc]] w fun e w' => e = .returned (.bool true) ∧ Kept w w' := by
  have HS : Hid (Sl w (.slice aa la ca) a ∧ Sl w (.slice ab lb cb) b ∧ Sl w (.slice ac lc cc) c) := ⟨ha, hb, hc⟩
  have ela := ha.len
  have elb := hb.len
  have elc := hc.len
  have HRa : Hid (R ma a) := hra
  have HRb : Hid (R mb b) := hrb
  have HRc : Hid (R mc c) := hrc
  have hl1 : la ≤ 72 := by rw [ela]; exact hra.1
  have hl2 : lb ≤ 72 := by rw [elb]; exact hrb.1
  have hl3 : lc ≤ 72 := by rw [elc]; exact hrc.1
  have hl4 : 60 < la + lb + lc := by omega
  clear hra hrb hrc ela elb elc hlong
  clear ha hb hc
  have K3 : ∀ x y t, Kept w (((w.alloc x).alloc y).alloc t) := fun x y t => (((Kept.refl w).alloc x).alloc y).alloc t
  go_enter Tryd.func4, Tryd.ntmps4
  go_wp2_with fail
  refine (awake_yes _).mono ?_
  rintro e w1 ⟨rfl, hk⟩
  obtain ⟨hA0, hA1, hB0, hB1, hC0, hC1⟩ := box_kept3 hk
  have HK : Hid (Kept w w1) := (K3 _ _ _).trans hk
  clear hk K3
  go_wp2_with fail
  refine (right_yes ma _ a _ (HS.out.1.kept HK.out) HRa.out).mono ?_
  rintro e w2 ⟨rfl, hk⟩
  have hA0 := cell_kept hk hA0
  have hA1 := cell_kept hk hA1
  have hB0 := cell_kept hk hB0
  have hB1 := cell_kept hk hB1
  have hC0 := cell_kept hk hC0
  have hC1 := cell_kept hk hC1
  have HK : Hid (Kept w w2) := HK.out.trans hk
  clear hk
  go_wp2_with fail
  refine (right_yes mb _ b _ (HS.out.2.1.kept HK.out) HRb.out).mono ?_
  rintro e w3 ⟨rfl, hk⟩
  have hA0 := cell_kept hk hA0
  have hA1 := cell_kept hk hA1
  have hB0 := cell_kept hk hB0
  have hB1 := cell_kept hk hB1
  have hC0 := cell_kept hk hC0
  have hC1 := cell_kept hk hC1
  have HK : Hid (Kept w w3) := HK.out.trans hk
  clear hk
  go_wp2_with fail
  refine (right_yes mc _ c _ (HS.out.2.2.kept HK.out) HRc.out).mono ?_
  rintro e w4 ⟨rfl, hk⟩
  have hA0 := cell_kept hk hA0
  have hA1 := cell_kept hk hA1
  have hB0 := cell_kept hk hB0
  have hB1 := cell_kept hk hB1
  have hC0 := cell_kept hk hC0
  have hC1 := cell_kept hk hC1
  have HK : Hid (Kept w w4) := HK.out.trans hk
  clear hk
  go_wp2
  go_ret
  exact ⟨rfl, HK.out⟩

set_option maxRecDepth 100000 in
set_option maxHeartbeats 4000000 in
theorem lorder_lt1 (ma mb mc : Bool) (aa ab ac : Option Addr) (la lb lc ca cb cc : Nat) (a b c : List Nat) (w : World) (ha : Sl w (.slice aa la ca) a) (hb : Sl w (.slice ab lb cb) b) (hc : Sl w (.slice ac lc cc) c)
    (_hla : a.length ≤ 9223372036854775807) (_hlb : b.length ≤ 9223372036854775807) (_hlc : c.length ≤ 9223372036854775807) (hra : R ma a) (hrb : R mb b) (hrc : R mc c) (hshort : a.length + b.length + c.length ≤ 60) (hab : M.int ma a < M.int mb b) (hbc : M.int mb b < M.int mc c) :
    Calls Tryd.prog 4 #[.agg #[.bool ma, .slice aa la ca], .agg #[.bool mb, .slice ab lb cb], .agg #[.bool mc, .slice ac lc cc]] w fun e w' => e = .returned (.bool true) ∧ Kept w w' := by
  have HS : Hid (Sl w (.slice aa la ca) a ∧ Sl w (.slice ab lb cb) b ∧ Sl w (.slice ac lc cc) c) := ⟨ha, hb, hc⟩
  have ela := ha.len
  have elb := hb.len
  have elc := hc.len
  have HRa : Hid (R ma a) := hra
  have HRb : Hid (R mb b) := hrb
  have HRc : Hid (R mc c) := hrc
  have hl1 : la ≤ 72 := by rw [ela]; exact hra.1
  have hl2 : lb ≤ 72 := by rw [elb]; exact hrb.1
  have hl3 : lc ≤ 72 := by rw [elc]; exact hrc.1
  have hl4 : la + lb + lc ≤ 60 := by omega
  have HM : Hid ((M.int ma a - M.int mb b).natAbs < M.W72) := sub_small ha.bd hb.bd (by omega)
  have HAB : Hid (isgn (M.int ma a) (M.int mb b) = -1) := (show isgn (M.int ma a) (M.int mb b) = -1 by unfold isgn; rw [if_pos (by omega)])
  have HBA : Hid (isgn (M.int mb b) (M.int ma a) = 1) := (show isgn (M.int mb b) (M.int ma a) = 1 by unfold isgn; rw [if_neg (by omega), if_neg (by omega)])
  have HBC : Hid (isgn (M.int mb b) (M.int mc c) = -1) := (show isgn (M.int mb b) (M.int mc c) = -1 by unfold isgn; rw [if_pos (by omega)])
  have HAC : Hid (isgn (M.int ma a) (M.int mc c) = -1) := (show isgn (M.int ma a) (M.int mc c) = -1 by unfold isgn; rw [if_pos (by omega)])
  have HD : Hid (∀ s l, M.Right s l → M.int s l = M.int ma a - M.int mb b → s = true ∧ 0 < l.length) := fun s l h e => sign_neg h e (by omega)
  have HSM : Hid (false = decide (ma = mb ∧ a = b)) := (show false = decide (ma = mb ∧ a = b) by symm; apply decide_eq_false; rintro ⟨rfl, rfl⟩; omega)
  clear hra hrb hrc ela elb elc hshort ha hb hc hab hbc
  have K3 : ∀ x y t, Kept w (((w.alloc x).alloc y).alloc t) := fun x y t => (((Kept.refl w).alloc x).alloc y).alloc t
  go_enter Tryd.func4, Tryd.ntmps4
  go_wp2_with fail
  refine (awake_yes _).mono ?_
  rintro e w1 ⟨rfl, hk⟩
  obtain ⟨hA0, hA1, hB0, hB1, hC0, hC1⟩ := box_kept3 hk
  have HK : Hid (Kept w w1) := (K3 _ _ _).trans hk
  clear hk K3
  go_wp2_with fail
  refine (right_yes ma _ a _ (HS.out.1.kept HK.out) HRa.out).mono ?_
  rintro e w2 ⟨rfl, hk⟩
  have hA0 := cell_kept hk hA0
  have hA1 := cell_kept hk hA1
  have hB0 := cell_kept hk hB0
  have hB1 := cell_kept hk hB1
  have hC0 := cell_kept hk hC0
  have hC1 := cell_kept hk hC1
  have HK : Hid (Kept w w2) := HK.out.trans hk
  clear hk
  go_wp2_with fail
  refine (right_yes mb _ b _ (HS.out.2.1.kept HK.out) HRb.out).mono ?_
  rintro e w3 ⟨rfl, hk⟩
  have hA0 := cell_kept hk hA0
  have hA1 := cell_kept hk hA1
  have hB0 := cell_kept hk hB0
  have hB1 := cell_kept hk hB1
  have hC0 := cell_kept hk hC0
  have hC1 := cell_kept hk hC1
  have HK : Hid (Kept w w3) := HK.out.trans hk
  clear hk
  go_wp2_with fail
  refine (right_yes mc _ c _ (HS.out.2.2.kept HK.out) HRc.out).mono ?_
  rintro e w4 ⟨rfl, hk⟩
  have hA0 := cell_kept hk hA0
  have hA1 := cell_kept hk hA1
  have hB0 := cell_kept hk hB0
  have hB1 := cell_kept hk hB1
  have hC0 := cell_kept hk hC0
  have hC1 := cell_kept hk hC1
  have HK : Hid (Kept w w4) := HK.out.trans hk
  clear hk
  go_wp2_with fail
  refine (icmp_any ma mb _ _ a b _ (HS.out.1.kept HK.out) (HS.out.2.1.kept HK.out) HRa.out HRb.out).mono ?_
  rintro e w5 ⟨rfl, hk⟩
  rw [HAB.out]
  have hA0 := cell_kept hk hA0
  have hA1 := cell_kept hk hA1
  have hB0 := cell_kept hk hB0
  have hB1 := cell_kept hk hB1
  have hC0 := cell_kept hk hC0
  have hC1 := cell_kept hk hC1
  have HK : Hid (Kept w w5) := HK.out.trans hk
  clear hk
  go_wp2_with fail
  refine (icmp_any mb ma _ _ b a _ (HS.out.2.1.kept HK.out) (HS.out.1.kept HK.out) HRb.out HRa.out).mono ?_
  rintro e w6 ⟨rfl, hk⟩
  rw [HBA.out]
  have hA0 := cell_kept hk hA0
  have hA1 := cell_kept hk hA1
  have hB0 := cell_kept hk hB0
  have hB1 := cell_kept hk hB1
  have hC0 := cell_kept hk hC0
  have hC1 := cell_kept hk hC1
  have HK : Hid (Kept w w6) := HK.out.trans hk
  clear hk
  go_wp2_with fail
  refine (icmp_any mb mc _ _ b c _ (HS.out.2.1.kept HK.out) (HS.out.2.2.kept HK.out) HRb.out HRc.out).mono ?_
  rintro e w7 ⟨rfl, hk⟩
  rw [HBC.out]
  have hA0 := cell_kept hk hA0
  have hA1 := cell_kept hk hA1
  have hB0 := cell_kept hk hB0
  have hB1 := cell_kept hk hB1
  have hC0 := cell_kept hk hC0
  have hC1 := cell_kept hk hC1
  have HK : Hid (Kept w w7) := HK.out.trans hk
  clear hk
  go_wp2_with fail
  refine (icmp_any ma mc _ _ a c _ (HS.out.1.kept HK.out) (HS.out.2.2.kept HK.out) HRa.out HRc.out).mono ?_
  rintro e w8 ⟨rfl, hk⟩
  rw [HAC.out]
  have hA0 := cell_kept hk hA0
  have hA1 := cell_kept hk hA1
  have hB0 := cell_kept hk hB0
  have hB1 := cell_kept hk hB1
  have hC0 := cell_kept hk hC0
  have hC1 := cell_kept hk hC1
  have HK : Hid (Kept w w8) := HK.out.trans hk
  clear hk
  go_wp2_with fail
  refine (sub_any ma mb _ _ a b _ (HS.out.1.kept HK.out) (HS.out.2.1.kept HK.out) HRa.out HRb.out).mono ?_
  rintro e w9 ⟨hk, sS, aS, nS, cS, kS, rfl, hF⟩
  obtain ⟨rfl, lS, hn, hr, hi⟩ := fin_fits hF HM.out
  have hns := hn.len
  obtain ⟨hd0, hd1⟩ := HD.out _ _ hr hi
  subst hd0
  rw [← hns] at hd1
  have hA0 := cell_kept hk hA0
  have hA1 := cell_kept hk hA1
  have hB0 := cell_kept hk hB0
  have hB1 := cell_kept hk hB1
  have hC0 := cell_kept hk hC0
  have hC1 := cell_kept hk hC1
  have ghA0 := fun x => cell_kept ((Kept.refl w9).alloc x) hA0
  have ghA1 := fun x => cell_kept ((Kept.refl w9).alloc x) hA1
  have ghB0 := fun x => cell_kept ((Kept.refl w9).alloc x) hB0
  have ghB1 := fun x => cell_kept ((Kept.refl w9).alloc x) hB1
  have ghC0 := fun x => cell_kept ((Kept.refl w9).alloc x) hC0
  have ghC1 := fun x => cell_kept ((Kept.refl w9).alloc x) hC1
  have HK : Hid (Kept w w9) := HK.out.trans hk
  clear hk hF hn hr hi hns hA0 hA1 hB0 hB1 hC0 hC1
  go_wp2_with fail
  refine (lsame_any false ma mb _ _ a b _ (HS.out.1.kept (HK.out.trans ((Kept.refl w9).alloc _))) (HS.out.2.1.kept (HK.out.trans ((Kept.refl w9).alloc _))) (by omega) (by omega) HSM.out).mono ?_
  rintro e w10 ⟨rfl, hk⟩
  obtain ⟨hS0, hS1⟩ := box_kept hk
  have HK : Hid (Kept w w10) := HK.out.trans (((Kept.refl w9).alloc _).trans hk)
  clear hk ghA0 ghA1 ghB0 ghB1 ghC0 ghC1
  go_wp2
  go_ret
  exact ⟨rfl, HK.out⟩

set_option maxRecDepth 100000 in
set_option maxHeartbeats 4000000 in
theorem lorder_lt2 (ma mb mc : Bool) (aa ab ac : Option Addr) (la lb lc ca cb cc : Nat) (a b c : List Nat) (w : World) (ha : Sl w (.slice aa la ca) a) (hb : Sl w (.slice ab lb cb) b) (hc : Sl w (.slice ac lc cc) c)
    (_hla : a.length ≤ 9223372036854775807) (_hlb : b.length ≤ 9223372036854775807) (_hlc : c.length ≤ 9223372036854775807) (hra : R ma a) (hrb : R mb b) (hrc : R mc c) (hshort : a.length + b.length + c.length ≤ 60) (hab : M.int ma a < M.int mb b) (hbc : M.int mb b = M.int mc c) :
    Calls Tryd.prog 4 #[.agg #[.bool ma, .slice aa la ca], .agg #[.bool mb, .slice ab lb cb], .agg #[.bool mc, .slice ac lc cc]] w fun e w' => e = .returned (.bool true) ∧ Kept w w' := by
  have HS : Hid (Sl w (.slice aa la ca) a ∧ Sl w (.slice ab lb cb) b ∧ Sl w (.slice ac lc cc) c) := ⟨ha, hb, hc⟩
  have ela := ha.len
  have elb := hb.len
  have elc := hc.len
  have HRa : Hid (R ma a) := hra
  have HRb : Hid (R mb b) := hrb
  have HRc : Hid (R mc c) := hrc
  have hl1 : la ≤ 72 := by rw [ela]; exact hra.1
  have hl2 : lb ≤ 72 := by rw [elb]; exact hrb.1
  have hl3 : lc ≤ 72 := by rw [elc]; exact hrc.1
  have hl4 : la + lb + lc ≤ 60 := by omega
  have HM : Hid ((M.int ma a - M.int mb b).natAbs < M.W72) := sub_small ha.bd hb.bd (by omega)
  have HAB : Hid (isgn (M.int ma a) (M.int mb b) = -1) := (show isgn (M.int ma a) (M.int mb b) = -1 by unfold isgn; rw [if_pos (by omega)])
  have HBA : Hid (isgn (M.int mb b) (M.int ma a) = 1) := (show isgn (M.int mb b) (M.int ma a) = 1 by unfold isgn; rw [if_neg (by omega), if_neg (by omega)])
  have HBC : Hid (isgn (M.int mb b) (M.int mc c) = 0) := (show isgn (M.int mb b) (M.int mc c) = 0 by unfold isgn; rw [if_neg (by omega), if_pos (by omega)])
  have HAC : Hid (isgn (M.int ma a) (M.int mc c) = -1) := (show isgn (M.int ma a) (M.int mc c) = -1 by unfold isgn; rw [if_pos (by omega)])
  have HD : Hid (∀ s l, M.Right s l → M.int s l = M.int ma a - M.int mb b → s = true ∧ 0 < l.length) := fun s l h e => sign_neg h e (by omega)
  have HSM : Hid (false = decide (ma = mb ∧ a = b)) := (show false = decide (ma = mb ∧ a = b) by symm; apply decide_eq_false; rintro ⟨rfl, rfl⟩; omega)
  clear hra hrb hrc ela elb elc hshort ha hb hc hab hbc
  have K3 : ∀ x y t, Kept w (((w.alloc x).alloc y).alloc t) := fun x y t => (((Kept.refl w).alloc x).alloc y).alloc t
  go_enter Tryd.func4, Tryd.ntmps4
  go_wp2_with fail
  refine (awake_yes _).mono ?_
  rintro e w1 ⟨rfl, hk⟩
  obtain ⟨hA0, hA1, hB0, hB1, hC0, hC1⟩ := box_kept3 hk
  have HK : Hid (Kept w w1) := (K3 _ _ _).trans hk
  clear hk K3
  go_wp2_with fail
  refine (right_yes ma _ a _ (HS.out.1.kept HK.out) HRa.out).mono ?_
  rintro e w2 ⟨rfl, hk⟩
  have hA0 := cell_kept hk hA0
  have hA1 := cell_kept hk hA1
  have hB0 := cell_kept hk hB0
  have hB1 := cell_kept hk hB1
  have hC0 := cell_kept hk hC0
  have hC1 := cell_kept hk hC1
  have HK : Hid (Kept w w2) := HK.out.trans hk
  clear hk
  go_wp2_with fail
  refine (right_yes mb _ b _ (HS.out.2.1.kept HK.out) HRb.out).mono ?_
  rintro e w3 ⟨rfl, hk⟩
  have hA0 := cell_kept hk hA0
  have hA1 := cell_kept hk hA1
  have hB0 := cell_kept hk hB0
  have hB1 := cell_kept hk hB1
  have hC0 := cell_kept hk hC0
  have hC1 := cell_kept hk hC1
  have HK : Hid (Kept w w3) := HK.out.trans hk
  clear hk
  go_wp2_with fail
  refine (right_yes mc _ c _ (HS.out.2.2.kept HK.out) HRc.out).mono ?_
  rintro e w4 ⟨rfl, hk⟩
  have hA0 := cell_kept hk hA0
  have hA1 := cell_kept hk hA1
  have hB0 := cell_kept hk hB0
  have hB1 := cell_kept hk hB1
  have hC0 := cell_kept hk hC0
  have hC1 := cell_kept hk hC1
  have HK : Hid (Kept w w4) := HK.out.trans hk
  clear hk
  go_wp2_with fail
  refine (icmp_any ma mb _ _ a b _ (HS.out.1.kept HK.out) (HS.out.2.1.kept HK.out) HRa.out HRb.out).mono ?_
  rintro e w5 ⟨rfl, hk⟩
  rw [HAB.out]
  have hA0 := cell_kept hk hA0
  have hA1 := cell_kept hk hA1
  have hB0 := cell_kept hk hB0
  have hB1 := cell_kept hk hB1
  have hC0 := cell_kept hk hC0
  have hC1 := cell_kept hk hC1
  have HK : Hid (Kept w w5) := HK.out.trans hk
  clear hk
  go_wp2_with fail
  refine (icmp_any mb ma _ _ b a _ (HS.out.2.1.kept HK.out) (HS.out.1.kept HK.out) HRb.out HRa.out).mono ?_
  rintro e w6 ⟨rfl, hk⟩
  rw [HBA.out]
  have hA0 := cell_kept hk hA0
  have hA1 := cell_kept hk hA1
  have hB0 := cell_kept hk hB0
  have hB1 := cell_kept hk hB1
  have hC0 := cell_kept hk hC0
  have hC1 := cell_kept hk hC1
  have HK : Hid (Kept w w6) := HK.out.trans hk
  clear hk
  go_wp2_with fail
  refine (icmp_any mb mc _ _ b c _ (HS.out.2.1.kept HK.out) (HS.out.2.2.kept HK.out) HRb.out HRc.out).mono ?_
  rintro e w7 ⟨rfl, hk⟩
  rw [HBC.out]
  have hA0 := cell_kept hk hA0
  have hA1 := cell_kept hk hA1
  have hB0 := cell_kept hk hB0
  have hB1 := cell_kept hk hB1
  have hC0 := cell_kept hk hC0
  have hC1 := cell_kept hk hC1
  have HK : Hid (Kept w w7) := HK.out.trans hk
  clear hk
  go_wp2_with fail
  refine (icmp_any ma mc _ _ a c _ (HS.out.1.kept HK.out) (HS.out.2.2.kept HK.out) HRa.out HRc.out).mono ?_
  rintro e w8 ⟨rfl, hk⟩
  rw [HAC.out]
  have hA0 := cell_kept hk hA0
  have hA1 := cell_kept hk hA1
  have hB0 := cell_kept hk hB0
  have hB1 := cell_kept hk hB1
  have hC0 := cell_kept hk hC0
  have hC1 := cell_kept hk hC1
  have HK : Hid (Kept w w8) := HK.out.trans hk
  clear hk
  go_wp2_with fail
  refine (sub_any ma mb _ _ a b _ (HS.out.1.kept HK.out) (HS.out.2.1.kept HK.out) HRa.out HRb.out).mono ?_
  rintro e w9 ⟨hk, sS, aS, nS, cS, kS, rfl, hF⟩
  obtain ⟨rfl, lS, hn, hr, hi⟩ := fin_fits hF HM.out
  have hns := hn.len
  obtain ⟨hd0, hd1⟩ := HD.out _ _ hr hi
  subst hd0
  rw [← hns] at hd1
  have hA0 := cell_kept hk hA0
  have hA1 := cell_kept hk hA1
  have hB0 := cell_kept hk hB0
  have hB1 := cell_kept hk hB1
  have hC0 := cell_kept hk hC0
  have hC1 := cell_kept hk hC1
  have ghA0 := fun x => cell_kept ((Kept.refl w9).alloc x) hA0
  have ghA1 := fun x => cell_kept ((Kept.refl w9).alloc x) hA1
  have ghB0 := fun x => cell_kept ((Kept.refl w9).alloc x) hB0
  have ghB1 := fun x => cell_kept ((Kept.refl w9).alloc x) hB1
  have ghC0 := fun x => cell_kept ((Kept.refl w9).alloc x) hC0
  have ghC1 := fun x => cell_kept ((Kept.refl w9).alloc x) hC1
  have HK : Hid (Kept w w9) := HK.out.trans hk
  clear hk hF hn hr hi hns hA0 hA1 hB0 hB1 hC0 hC1
  go_wp2_with fail
  refine (lsame_any false ma mb _ _ a b _ (HS.out.1.kept (HK.out.trans ((Kept.refl w9).alloc _))) (HS.out.2.1.kept (HK.out.trans ((Kept.refl w9).alloc _))) (by omega) (by omega) HSM.out).mono ?_
  rintro e w10 ⟨rfl, hk⟩
  obtain ⟨hS0, hS1⟩ := box_kept hk
  have HK : Hid (Kept w w10) := HK.out.trans (((Kept.refl w9).alloc _).trans hk)
  clear hk ghA0 ghA1 ghB0 ghB1 ghC0 ghC1
  go_wp2
  go_ret
  exact ⟨rfl, HK.out⟩

set_option maxRecDepth 100000 in
set_option maxHeartbeats 4000000 in
theorem lorder_lt3 (ma mb mc : Bool) (aa ab ac : Option Addr) (la lb lc ca cb cc : Nat) (a b c : List Nat) (w : World) (ha : Sl w (.slice aa la ca) a) (hb : Sl w (.slice ab lb cb) b) (hc : Sl w (.slice ac lc cc) c)
    (_hla : a.length ≤ 9223372036854775807) (_hlb : b.length ≤ 9223372036854775807) (_hlc : c.length ≤ 9223372036854775807) (hra : R ma a) (hrb : R mb b) (hrc : R mc c) (hshort : a.length + b.length + c.length ≤ 60) (hab : M.int ma a < M.int mb b) (hbc : M.int mc c < M.int mb b) :
    Calls Tryd.prog 4 #[.agg #[.bool ma, .slice aa la ca], .agg #[.bool mb, .slice ab lb cb], .agg #[.bool mc, .slice ac lc cc]] w fun e w' => e = .returned (.bool true) ∧ Kept w w' := by
  have HS : Hid (Sl w (.slice aa la ca) a ∧ Sl w (.slice ab lb cb) b ∧ Sl w (.slice ac lc cc) c) := ⟨ha, hb, hc⟩
  have ela := ha.len
  have elb := hb.len
  have elc := hc.len
  have HRa : Hid (R ma a) := hra
  have HRb : Hid (R mb b) := hrb
  have HRc : Hid (R mc c) := hrc
  have hl1 : la ≤ 72 := by rw [ela]; exact hra.1
  have hl2 : lb ≤ 72 := by rw [elb]; exact hrb.1
  have hl3 : lc ≤ 72 := by rw [elc]; exact hrc.1
  have hl4 : la + lb + lc ≤ 60 := by omega
  have HM : Hid ((M.int ma a - M.int mb b).natAbs < M.W72) := sub_small ha.bd hb.bd (by omega)
  have HAB : Hid (isgn (M.int ma a) (M.int mb b) = -1) := (show isgn (M.int ma a) (M.int mb b) = -1 by unfold isgn; rw [if_pos (by omega)])
  have HBA : Hid (isgn (M.int mb b) (M.int ma a) = 1) := (show isgn (M.int mb b) (M.int ma a) = 1 by unfold isgn; rw [if_neg (by omega), if_neg (by omega)])
  have HBC : Hid (isgn (M.int mb b) (M.int mc c) = 1) := (show isgn (M.int mb b) (M.int mc c) = 1 by unfold isgn; rw [if_neg (by omega), if_neg (by omega)])
  have HD : Hid (∀ s l, M.Right s l → M.int s l = M.int ma a - M.int mb b → s = true ∧ 0 < l.length) := fun s l h e => sign_neg h e (by omega)
  have HSM : Hid (false = decide (ma = mb ∧ a = b)) := (show false = decide (ma = mb ∧ a = b) by symm; apply decide_eq_false; rintro ⟨rfl, rfl⟩; omega)
  clear hra hrb hrc ela elb elc hshort ha hb hc hab hbc
  have K3 : ∀ x y t, Kept w (((w.alloc x).alloc y).alloc t) := fun x y t => (((Kept.refl w).alloc x).alloc y).alloc t
  go_enter Tryd.func4, Tryd.ntmps4
  go_wp2_with fail
  refine (awake_yes _).mono ?_
  rintro e w1 ⟨rfl, hk⟩
  obtain ⟨hA0, hA1, hB0, hB1, hC0, hC1⟩ := box_kept3 hk
  have HK : Hid (Kept w w1) := (K3 _ _ _).trans hk
  clear hk K3
  go_wp2_with fail
  refine (right_yes ma _ a _ (HS.out.1.kept HK.out) HRa.out).mono ?_
  rintro e w2 ⟨rfl, hk⟩
  have hA0 := cell_kept hk hA0
  have hA1 := cell_kept hk hA1
  have hB0 := cell_kept hk hB0
  have hB1 := cell_kept hk hB1
  have hC0 := cell_kept hk hC0
  have hC1 := cell_kept hk hC1
  have HK : Hid (Kept w w2) := HK.out.trans hk
  clear hk
  go_wp2_with fail
  refine (right_yes mb _ b _ (HS.out.2.1.kept HK.out) HRb.out).mono ?_
  rintro e w3 ⟨rfl, hk⟩
  have hA0 := cell_kept hk hA0
  have hA1 := cell_kept hk hA1
  have hB0 := cell_kept hk hB0
  have hB1 := cell_kept hk hB1
  have hC0 := cell_kept hk hC0
  have hC1 := cell_kept hk hC1
  have HK : Hid (Kept w w3) := HK.out.trans hk
  clear hk
  go_wp2_with fail
  refine (right_yes mc _ c _ (HS.out.2.2.kept HK.out) HRc.out).mono ?_
  rintro e w4 ⟨rfl, hk⟩
  have hA0 := cell_kept hk hA0
  have hA1 := cell_kept hk hA1
  have hB0 := cell_kept hk hB0
  have hB1 := cell_kept hk hB1
  have hC0 := cell_kept hk hC0
  have hC1 := cell_kept hk hC1
  have HK : Hid (Kept w w4) := HK.out.trans hk
  clear hk
  go_wp2_with fail
  refine (icmp_any ma mb _ _ a b _ (HS.out.1.kept HK.out) (HS.out.2.1.kept HK.out) HRa.out HRb.out).mono ?_
  rintro e w5 ⟨rfl, hk⟩
  rw [HAB.out]
  have hA0 := cell_kept hk hA0
  have hA1 := cell_kept hk hA1
  have hB0 := cell_kept hk hB0
  have hB1 := cell_kept hk hB1
  have hC0 := cell_kept hk hC0
  have hC1 := cell_kept hk hC1
  have HK : Hid (Kept w w5) := HK.out.trans hk
  clear hk
  go_wp2_with fail
  refine (icmp_any mb ma _ _ b a _ (HS.out.2.1.kept HK.out) (HS.out.1.kept HK.out) HRb.out HRa.out).mono ?_
  rintro e w6 ⟨rfl, hk⟩
  rw [HBA.out]
  have hA0 := cell_kept hk hA0
  have hA1 := cell_kept hk hA1
  have hB0 := cell_kept hk hB0
  have hB1 := cell_kept hk hB1
  have hC0 := cell_kept hk hC0
  have hC1 := cell_kept hk hC1
  have HK : Hid (Kept w w6) := HK.out.trans hk
  clear hk
  go_wp2_with fail
  refine (icmp_any mb mc _ _ b c _ (HS.out.2.1.kept HK.out) (HS.out.2.2.kept HK.out) HRb.out HRc.out).mono ?_
  rintro e w7 ⟨rfl, hk⟩
  rw [HBC.out]
  have hA0 := cell_kept hk hA0
  have hA1 := cell_kept hk hA1
  have hB0 := cell_kept hk hB0
  have hB1 := cell_kept hk hB1
  have hC0 := cell_kept hk hC0
  have hC1 := cell_kept hk hC1
  have HK : Hid (Kept w w7) := HK.out.trans hk
  clear hk
  go_wp2_with fail
  refine (icmp_any ma mc _ _ a c _ (HS.out.1.kept HK.out) (HS.out.2.2.kept HK.out) HRa.out HRc.out).mono ?_
  rintro e w8 ⟨rfl, hk⟩
  obtain ⟨zAC, hz⟩ : ∃ z, z = isgn (M.int ma a) (M.int mc c) := ⟨_, rfl⟩
  rw [← hz]
  clear hz
  have hA0 := cell_kept hk hA0
  have hA1 := cell_kept hk hA1
  have hB0 := cell_kept hk hB0
  have hB1 := cell_kept hk hB1
  have hC0 := cell_kept hk hC0
  have hC1 := cell_kept hk hC1
  have HK : Hid (Kept w w8) := HK.out.trans hk
  clear hk
  go_wp2_with fail
  refine (sub_any ma mb _ _ a b _ (HS.out.1.kept HK.out) (HS.out.2.1.kept HK.out) HRa.out HRb.out).mono ?_
  rintro e w9 ⟨hk, sS, aS, nS, cS, kS, rfl, hF⟩
  obtain ⟨rfl, lS, hn, hr, hi⟩ := fin_fits hF HM.out
  have hns := hn.len
  obtain ⟨hd0, hd1⟩ := HD.out _ _ hr hi
  subst hd0
  rw [← hns] at hd1
  have hA0 := cell_kept hk hA0
  have hA1 := cell_kept hk hA1
  have hB0 := cell_kept hk hB0
  have hB1 := cell_kept hk hB1
  have hC0 := cell_kept hk hC0
  have hC1 := cell_kept hk hC1
  have ghA0 := fun x => cell_kept ((Kept.refl w9).alloc x) hA0
  have ghA1 := fun x => cell_kept ((Kept.refl w9).alloc x) hA1
  have ghB0 := fun x => cell_kept ((Kept.refl w9).alloc x) hB0
  have ghB1 := fun x => cell_kept ((Kept.refl w9).alloc x) hB1
  have ghC0 := fun x => cell_kept ((Kept.refl w9).alloc x) hC0
  have ghC1 := fun x => cell_kept ((Kept.refl w9).alloc x) hC1
  have HK : Hid (Kept w w9) := HK.out.trans hk
  clear hk hF hn hr hi hns hA0 hA1 hB0 hB1 hC0 hC1
  go_wp2_with fail
  refine (lsame_any false ma mb _ _ a b _ (HS.out.1.kept (HK.out.trans ((Kept.refl w9).alloc _))) (HS.out.2.1.kept (HK.out.trans ((Kept.refl w9).alloc _))) (by omega) (by omega) HSM.out).mono ?_
  rintro e w10 ⟨rfl, hk⟩
  obtain ⟨hS0, hS1⟩ := box_kept hk
  have HK : Hid (Kept w w10) := HK.out.trans (((Kept.refl w9).alloc _).trans hk)
  clear hk ghA0 ghA1 ghB0 ghB1 ghC0 ghC1
  go_wp2
  go_ret
  exact ⟨rfl, HK.out⟩

set_option maxRecDepth 100000 in
set_option maxHeartbeats 4000000 in
theorem lorder_eq1 (ma mb mc : Bool) (aa ab ac : Option Addr) (la lb lc ca cb cc : Nat) (a b c : List Nat) (w : World) (ha : Sl w (.slice aa la ca) a) (hb : Sl w (.slice ab lb cb) b) (hc : Sl w (.slice ac lc cc) c)
    (_hla : a.length ≤ 9223372036854775807) (_hlb : b.length ≤ 9223372036854775807) (_hlc : c.length ≤ 9223372036854775807) (hra : R ma a) (hrb : R mb b) (hrc : R mc c) (hshort : a.length + b.length + c.length ≤ 60) (hab : M.int ma a = M.int mb b) (hbc : M.int mb b < M.int mc c) :
    Calls Tryd.prog 4 #[.agg #[.bool ma, .slice aa la ca], .agg #[.bool mb, .slice ab lb cb], .agg #[.bool mc, .slice ac lc cc]] w fun e w' => e = .returned (.bool true) ∧ Kept w w' := by
  have HS : Hid (Sl w (.slice aa la ca) a ∧ Sl w (.slice ab lb cb) b ∧ Sl w (.slice ac lc cc) c) := ⟨ha, hb, hc⟩
  have ela := ha.len
  have elb := hb.len
  have elc := hc.len
  have HRa : Hid (R ma a) := hra
  have HRb : Hid (R mb b) := hrb
  have HRc : Hid (R mc c) := hrc
  have hl1 : la ≤ 72 := by rw [ela]; exact hra.1
  have hl2 : lb ≤ 72 := by rw [elb]; exact hrb.1
  have hl3 : lc ≤ 72 := by rw [elc]; exact hrc.1
  have hl4 : la + lb + lc ≤ 60 := by omega
  have HM : Hid ((M.int ma a - M.int mb b).natAbs < M.W72) := sub_small ha.bd hb.bd (by omega)
  have HAB : Hid (isgn (M.int ma a) (M.int mb b) = 0) := (show isgn (M.int ma a) (M.int mb b) = 0 by unfold isgn; rw [if_neg (by omega), if_pos (by omega)])
  have HBA : Hid (isgn (M.int mb b) (M.int ma a) = 0) := (show isgn (M.int mb b) (M.int ma a) = 0 by unfold isgn; rw [if_neg (by omega), if_pos (by omega)])
  have HBC : Hid (isgn (M.int mb b) (M.int mc c) = -1) := (show isgn (M.int mb b) (M.int mc c) = -1 by unfold isgn; rw [if_pos (by omega)])
  have HAC : Hid (isgn (M.int ma a) (M.int mc c) = -1) := (show isgn (M.int ma a) (M.int mc c) = -1 by unfold isgn; rw [if_pos (by omega)])
  have HD : Hid (∀ s l, M.Right s l → M.int s l = M.int ma a - M.int mb b → s = false ∧ l.length = 0) := fun s l h e => sign_zero h e (by omega)
  have HSM : Hid (true = decide (ma = mb ∧ a = b)) := (show true = decide (ma = mb ∧ a = b) by symm; apply decide_eq_true; exact M.int_inj (hra.right ha.bd) (hrb.right hb.bd) hab)
  clear hra hrb hrc ela elb elc hshort ha hb hc hab hbc
  have K3 : ∀ x y t, Kept w (((w.alloc x).alloc y).alloc t) := fun x y t => (((Kept.refl w).alloc x).alloc y).alloc t
  go_enter Tryd.func4, Tryd.ntmps4
  go_wp2_with fail
  refine (awake_yes _).mono ?_
  rintro e w1 ⟨rfl, hk⟩
  obtain ⟨hA0, hA1, hB0, hB1, hC0, hC1⟩ := box_kept3 hk
  have HK : Hid (Kept w w1) := (K3 _ _ _).trans hk
  clear hk K3
  go_wp2_with fail
  refine (right_yes ma _ a _ (HS.out.1.kept HK.out) HRa.out).mono ?_
  rintro e w2 ⟨rfl, hk⟩
  have hA0 := cell_kept hk hA0
  have hA1 := cell_kept hk hA1
  have hB0 := cell_kept hk hB0
  have hB1 := cell_kept hk hB1
  have hC0 := cell_kept hk hC0
  have hC1 := cell_kept hk hC1
  have HK : Hid (Kept w w2) := HK.out.trans hk
  clear hk
  go_wp2_with fail
  refine (right_yes mb _ b _ (HS.out.2.1.kept HK.out) HRb.out).mono ?_
  rintro e w3 ⟨rfl, hk⟩
  have hA0 := cell_kept hk hA0
  have hA1 := cell_kept hk hA1
  have hB0 := cell_kept hk hB0
  have hB1 := cell_kept hk hB1
  have hC0 := cell_kept hk hC0
  have hC1 := cell_kept hk hC1
  have HK : Hid (Kept w w3) := HK.out.trans hk
  clear hk
  go_wp2_with fail
  refine (right_yes mc _ c _ (HS.out.2.2.kept HK.out) HRc.out).mono ?_
  rintro e w4 ⟨rfl, hk⟩
  have hA0 := cell_kept hk hA0
  have hA1 := cell_kept hk hA1
  have hB0 := cell_kept hk hB0
  have hB1 := cell_kept hk hB1
  have hC0 := cell_kept hk hC0
  have hC1 := cell_kept hk hC1
  have HK : Hid (Kept w w4) := HK.out.trans hk
  clear hk
  go_wp2_with fail
  refine (icmp_any ma mb _ _ a b _ (HS.out.1.kept HK.out) (HS.out.2.1.kept HK.out) HRa.out HRb.out).mono ?_
  rintro e w5 ⟨rfl, hk⟩
  rw [HAB.out]
  have hA0 := cell_kept hk hA0
  have hA1 := cell_kept hk hA1
  have hB0 := cell_kept hk hB0
  have hB1 := cell_kept hk hB1
  have hC0 := cell_kept hk hC0
  have hC1 := cell_kept hk hC1
  have HK : Hid (Kept w w5) := HK.out.trans hk
  clear hk
  go_wp2_with fail
  refine (icmp_any mb ma _ _ b a _ (HS.out.2.1.kept HK.out) (HS.out.1.kept HK.out) HRb.out HRa.out).mono ?_
  rintro e w6 ⟨rfl, hk⟩
  rw [HBA.out]
  have hA0 := cell_kept hk hA0
  have hA1 := cell_kept hk hA1
  have hB0 := cell_kept hk hB0
  have hB1 := cell_kept hk hB1
  have hC0 := cell_kept hk hC0
  have hC1 := cell_kept hk hC1
  have HK : Hid (Kept w w6) := HK.out.trans hk
  clear hk
  go_wp2_with fail
  refine (icmp_any mb mc _ _ b c _ (HS.out.2.1.kept HK.out) (HS.out.2.2.kept HK.out) HRb.out HRc.out).mono ?_
  rintro e w7 ⟨rfl, hk⟩
  rw [HBC.out]
  have hA0 := cell_kept hk hA0
  have hA1 := cell_kept hk hA1
  have hB0 := cell_kept hk hB0
  have hB1 := cell_kept hk hB1
  have hC0 := cell_kept hk hC0
  have hC1 := cell_kept hk hC1
  have HK : Hid (Kept w w7) := HK.out.trans hk
  clear hk
  go_wp2_with fail
  refine (icmp_any ma mc _ _ a c _ (HS.out.1.kept HK.out) (HS.out.2.2.kept HK.out) HRa.out HRc.out).mono ?_
  rintro e w8 ⟨rfl, hk⟩
  rw [HAC.out]
  have hA0 := cell_kept hk hA0
  have hA1 := cell_kept hk hA1
  have hB0 := cell_kept hk hB0
  have hB1 := cell_kept hk hB1
  have hC0 := cell_kept hk hC0
  have hC1 := cell_kept hk hC1
  have HK : Hid (Kept w w8) := HK.out.trans hk
  clear hk
  go_wp2_with fail
  refine (sub_any ma mb _ _ a b _ (HS.out.1.kept HK.out) (HS.out.2.1.kept HK.out) HRa.out HRb.out).mono ?_
  rintro e w9 ⟨hk, sS, aS, nS, cS, kS, rfl, hF⟩
  obtain ⟨rfl, lS, hn, hr, hi⟩ := fin_fits hF HM.out
  have hns := hn.len
  obtain ⟨hd0, hd1⟩ := HD.out _ _ hr hi
  subst hd0
  rw [← hns] at hd1
  have hA0 := cell_kept hk hA0
  have hA1 := cell_kept hk hA1
  have hB0 := cell_kept hk hB0
  have hB1 := cell_kept hk hB1
  have hC0 := cell_kept hk hC0
  have hC1 := cell_kept hk hC1
  have ghA0 := fun x => cell_kept ((Kept.refl w9).alloc x) hA0
  have ghA1 := fun x => cell_kept ((Kept.refl w9).alloc x) hA1
  have ghB0 := fun x => cell_kept ((Kept.refl w9).alloc x) hB0
  have ghB1 := fun x => cell_kept ((Kept.refl w9).alloc x) hB1
  have ghC0 := fun x => cell_kept ((Kept.refl w9).alloc x) hC0
  have ghC1 := fun x => cell_kept ((Kept.refl w9).alloc x) hC1
  have HK : Hid (Kept w w9) := HK.out.trans hk
  clear hk hF hn hr hi hns hA0 hA1 hB0 hB1 hC0 hC1
  subst hd1
  go_wp2_with fail
  refine (lsame_any true ma mb _ _ a b _ (HS.out.1.kept (HK.out.trans ((Kept.refl w9).alloc _))) (HS.out.2.1.kept (HK.out.trans ((Kept.refl w9).alloc _))) (by omega) (by omega) HSM.out).mono ?_
  rintro e w10 ⟨rfl, hk⟩
  obtain ⟨hS0, hS1⟩ := box_kept hk
  have HK : Hid (Kept w w10) := HK.out.trans (((Kept.refl w9).alloc _).trans hk)
  clear hk ghA0 ghA1 ghB0 ghB1 ghC0 ghC1
  go_wp2
  go_ret
  exact ⟨rfl, HK.out⟩

set_option maxRecDepth 100000 in
set_option maxHeartbeats 4000000 in
theorem lorder_eq2 (ma mb mc : Bool) (aa ab ac : Option Addr) (la lb lc ca cb cc : Nat) (a b c : List Nat) (w : World) (ha : Sl w (.slice aa la ca) a) (hb : Sl w (.slice ab lb cb) b) (hc : Sl w (.slice ac lc cc) c)
    (_hla : a.length ≤ 9223372036854775807) (_hlb : b.length ≤ 9223372036854775807) (_hlc : c.length ≤ 9223372036854775807) (hra : R ma a) (hrb : R mb b) (hrc : R mc c) (hshort : a.length + b.length + c.length ≤ 60) (hab : M.int ma a = M.int mb b) (hbc : M.int mb b = M.int mc c) :
    Calls Tryd.prog 4 #[.agg #[.bool ma, .slice aa la ca], .agg #[.bool mb, .slice ab lb cb], .agg #[.bool mc, .slice ac lc cc]] w fun e w' => e = .returned (.bool true) ∧ Kept w w' := by
  have HS : Hid (Sl w (.slice aa la ca) a ∧ Sl w (.slice ab lb cb) b ∧ Sl w (.slice ac lc cc) c) := ⟨ha, hb, hc⟩
  have ela := ha.len
  have elb := hb.len
  have elc := hc.len
  have HRa : Hid (R ma a) := hra
  have HRb : Hid (R mb b) := hrb
  have HRc : Hid (R mc c) := hrc
  have hl1 : la ≤ 72 := by rw [ela]; exact hra.1
  have hl2 : lb ≤ 72 := by rw [elb]; exact hrb.1
  have hl3 : lc ≤ 72 := by rw [elc]; exact hrc.1
  have hl4 : la + lb + lc ≤ 60 := by omega
  have HM : Hid ((M.int ma a - M.int mb b).natAbs < M.W72) := sub_small ha.bd hb.bd (by omega)
  have HAB : Hid (isgn (M.int ma a) (M.int mb b) = 0) := (show isgn (M.int ma a) (M.int mb b) = 0 by unfold isgn; rw [if_neg (by omega), if_pos (by omega)])
  have HBA : Hid (isgn (M.int mb b) (M.int ma a) = 0) := (show isgn (M.int mb b) (M.int ma a) = 0 by unfold isgn; rw [if_neg (by omega), if_pos (by omega)])
  have HBC : Hid (isgn (M.int mb b) (M.int mc c) = 0) := (show isgn (M.int mb b) (M.int mc c) = 0 by unfold isgn; rw [if_neg (by omega), if_pos (by omega)])
  have HAC : Hid (isgn (M.int ma a) (M.int mc c) = 0) := (show isgn (M.int ma a) (M.int mc c) = 0 by unfold isgn; rw [if_neg (by omega), if_pos (by omega)])
  have HD : Hid (∀ s l, M.Right s l → M.int s l = M.int ma a - M.int mb b → s = false ∧ l.length = 0) := fun s l h e => sign_zero h e (by omega)
  have HSM : Hid (true = decide (ma = mb ∧ a = b)) := (show true = decide (ma = mb ∧ a = b) by symm; apply decide_eq_true; exact M.int_inj (hra.right ha.bd) (hrb.right hb.bd) hab)
  clear hra hrb hrc ela elb elc hshort ha hb hc hab hbc
  have K3 : ∀ x y t, Kept w (((w.alloc x).alloc y).alloc t) := fun x y t => (((Kept.refl w).alloc x).alloc y).alloc t
  go_enter Tryd.func4, Tryd.ntmps4
  go_wp2_with fail
  refine (awake_yes _).mono ?_
  rintro e w1 ⟨rfl, hk⟩
  obtain ⟨hA0, hA1, hB0, hB1, hC0, hC1⟩ := box_kept3 hk
  have HK : Hid (Kept w w1) := (K3 _ _ _).trans hk
  clear hk K3
  go_wp2_with fail
  refine (right_yes ma _ a _ (HS.out.1.kept HK.out) HRa.out).mono ?_
  rintro e w2 ⟨rfl, hk⟩
  have hA0 := cell_kept hk hA0
  have hA1 := cell_kept hk hA1
  have hB0 := cell_kept hk hB0
  have hB1 := cell_kept hk hB1
  have hC0 := cell_kept hk hC0
  have hC1 := cell_kept hk hC1
  have HK : Hid (Kept w w2) := HK.out.trans hk
  clear hk
  go_wp2_with fail
  refine (right_yes mb _ b _ (HS.out.2.1.kept HK.out) HRb.out).mono ?_
  rintro e w3 ⟨rfl, hk⟩
  have hA0 := cell_kept hk hA0
  have hA1 := cell_kept hk hA1
  have hB0 := cell_kept hk hB0
  have hB1 := cell_kept hk hB1
  have hC0 := cell_kept hk hC0
  have hC1 := cell_kept hk hC1
  have HK : Hid (Kept w w3) := HK.out.trans hk
  clear hk
  go_wp2_with fail
  refine (right_yes mc _ c _ (HS.out.2.2.kept HK.out) HRc.out).mono ?_
  rintro e w4 ⟨rfl, hk⟩
  have hA0 := cell_kept hk hA0
  have hA1 := cell_kept hk hA1
  have hB0 := cell_kept hk hB0
  have hB1 := cell_kept hk hB1
  have hC0 := cell_kept hk hC0
  have hC1 := cell_kept hk hC1
  have HK : Hid (Kept w w4) := HK.out.trans hk
  clear hk
  go_wp2_with fail
  refine (icmp_any ma mb _ _ a b _ (HS.out.1.kept HK.out) (HS.out.2.1.kept HK.out) HRa.out HRb.out).mono ?_
  rintro e w5 ⟨rfl, hk⟩
  rw [HAB.out]
  have hA0 := cell_kept hk hA0
  have hA1 := cell_kept hk hA1
  have hB0 := cell_kept hk hB0
  have hB1 := cell_kept hk hB1
  have hC0 := cell_kept hk hC0
  have hC1 := cell_kept hk hC1
  have HK : Hid (Kept w w5) := HK.out.trans hk
  clear hk
  go_wp2_with fail
  refine (icmp_any mb ma _ _ b a _ (HS.out.2.1.kept HK.out) (HS.out.1.kept HK.out) HRb.out HRa.out).mono ?_
  rintro e w6 ⟨rfl, hk⟩
  rw [HBA.out]
  have hA0 := cell_kept hk hA0
  have hA1 := cell_kept hk hA1
  have hB0 := cell_kept hk hB0
  have hB1 := cell_kept hk hB1
  have hC0 := cell_kept hk hC0
  have hC1 := cell_kept hk hC1
  have HK : Hid (Kept w w6) := HK.out.trans hk
  clear hk
  go_wp2_with fail
  refine (icmp_any mb mc _ _ b c _ (HS.out.2.1.kept HK.out) (HS.out.2.2.kept HK.out) HRb.out HRc.out).mono ?_
  rintro e w7 ⟨rfl, hk⟩
  rw [HBC.out]
  have hA0 := cell_kept hk hA0
  have hA1 := cell_kept hk hA1
  have hB0 := cell_kept hk hB0
  have hB1 := cell_kept hk hB1
  have hC0 := cell_kept hk hC0
  have hC1 := cell_kept hk hC1
  have HK : Hid (Kept w w7) := HK.out.trans hk
  clear hk
  go_wp2_with fail
  refine (icmp_any ma mc _ _ a c _ (HS.out.1.kept HK.out) (HS.out.2.2.kept HK.out) HRa.out HRc.out).mono ?_
  rintro e w8 ⟨rfl, hk⟩
  rw [HAC.out]
  have hA0 := cell_kept hk hA0
  have hA1 := cell_kept hk hA1
  have hB0 := cell_kept hk hB0
  have hB1 := cell_kept hk hB1
  have hC0 := cell_kept hk hC0
  have hC1 := cell_kept hk hC1
  have HK : Hid (Kept w w8) := HK.out.trans hk
  clear hk
  go_wp2_with fail
  refine (sub_any ma mb _ _ a b _ (HS.out.1.kept HK.out) (HS.out.2.1.kept HK.out) HRa.out HRb.out).mono ?_
  rintro e w9 ⟨hk, sS, aS, nS, cS, kS, rfl, hF⟩
  obtain ⟨rfl, lS, hn, hr, hi⟩ := fin_fits hF HM.out
  have hns := hn.len
  obtain ⟨hd0, hd1⟩ := HD.out _ _ hr hi
  subst hd0
  rw [← hns] at hd1
  have hA0 := cell_kept hk hA0
  have hA1 := cell_kept hk hA1
  have hB0 := cell_kept hk hB0
  have hB1 := cell_kept hk hB1
  have hC0 := cell_kept hk hC0
  have hC1 := cell_kept hk hC1
  have ghA0 := fun x => cell_kept ((Kept.refl w9).alloc x) hA0
  have ghA1 := fun x => cell_kept ((Kept.refl w9).alloc x) hA1
  have ghB0 := fun x => cell_kept ((Kept.refl w9).alloc x) hB0
  have ghB1 := fun x => cell_kept ((Kept.refl w9).alloc x) hB1
  have ghC0 := fun x => cell_kept ((Kept.refl w9).alloc x) hC0
  have ghC1 := fun x => cell_kept ((Kept.refl w9).alloc x) hC1
  have HK : Hid (Kept w w9) := HK.out.trans hk
  clear hk hF hn hr hi hns hA0 hA1 hB0 hB1 hC0 hC1
  subst hd1
  go_wp2_with fail
  refine (lsame_any true ma mb _ _ a b _ (HS.out.1.kept (HK.out.trans ((Kept.refl w9).alloc _))) (HS.out.2.1.kept (HK.out.trans ((Kept.refl w9).alloc _))) (by omega) (by omega) HSM.out).mono ?_
  rintro e w10 ⟨rfl, hk⟩
  obtain ⟨hS0, hS1⟩ := box_kept hk
  have HK : Hid (Kept w w10) := HK.out.trans (((Kept.refl w9).alloc _).trans hk)
  clear hk ghA0 ghA1 ghB0 ghB1 ghC0 ghC1
  go_wp2
  go_ret
  exact ⟨rfl, HK.out⟩

set_option maxRecDepth 100000 in
set_option maxHeartbeats 4000000 in
theorem lorder_eq3 (ma mb mc : Bool) (aa ab ac : Option Addr) (la lb lc ca cb cc : Nat) (a b c : List Nat) (w : World) (ha : Sl w (.slice aa la ca) a) (hb : Sl w (.slice ab lb cb) b) (hc : Sl w (.slice ac lc cc) c)
    (_hla : a.length ≤ 9223372036854775807) (_hlb : b.length ≤ 9223372036854775807) (_hlc : c.length ≤ 9223372036854775807) (hra : R ma a) (hrb : R mb b) (hrc : R mc c) (hshort : a.length + b.length + c.length ≤ 60) (hab : M.int ma a = M.int mb b) (hbc : M.int mc c < M.int mb b) :
    Calls Tryd.prog 4 #[.agg #[.bool ma, .slice aa la ca], .agg #[.bool mb, .slice ab lb cb], .agg #[.bool mc, .slice ac lc cc]] w fun e w' => e = .returned (.bool true) ∧ Kept w w' := by
  have HS : Hid (Sl w (.slice aa la ca) a ∧ Sl w (.slice ab lb cb) b ∧ Sl w (.slice ac lc cc) c) := ⟨ha, hb, hc⟩
  have ela := ha.len
  have elb := hb.len
  have elc := hc.len
  have HRa : Hid (R ma a) := hra
  have HRb : Hid (R mb b) := hrb
  have HRc : Hid (R mc c) := hrc
  have hl1 : la ≤ 72 := by rw [ela]; exact hra.1
  have hl2 : lb ≤ 72 := by rw [elb]; exact hrb.1
  have hl3 : lc ≤ 72 := by rw [elc]; exact hrc.1
  have hl4 : la + lb + lc ≤ 60 := by omega
  have HM : Hid ((M.int ma a - M.int mb b).natAbs < M.W72) := sub_small ha.bd hb.bd (by omega)
  have HAB : Hid (isgn (M.int ma a) (M.int mb b) = 0) := (show isgn (M.int ma a) (M.int mb b) = 0 by unfold isgn; rw [if_neg (by omega), if_pos (by omega)])
  have HBA : Hid (isgn (M.int mb b) (M.int ma a) = 0) := (show isgn (M.int mb b) (M.int ma a) = 0 by unfold isgn; rw [if_neg (by omega), if_pos (by omega)])
  have HBC : Hid (isgn (M.int mb b) (M.int mc c) = 1) := (show isgn (M.int mb b) (M.int mc c) = 1 by unfold isgn; rw [if_neg (by omega), if_neg (by omega)])
  have HD : Hid (∀ s l, M.Right s l → M.int s l = M.int ma a - M.int mb b → s = false ∧ l.length = 0) := fun s l h e => sign_zero h e (by omega)
  have HSM : Hid (true = decide (ma = mb ∧ a = b)) := (show true = decide (ma = mb ∧ a = b) by symm; apply decide_eq_true; exact M.int_inj (hra.right ha.bd) (hrb.right hb.bd) hab)
  clear hra hrb hrc ela elb elc hshort ha hb hc hab hbc
  have K3 : ∀ x y t, Kept w (((w.alloc x).alloc y).alloc t) := fun x y t => (((Kept.refl w).alloc x).alloc y).alloc t
  go_enter Tryd.func4, Tryd.ntmps4
  go_wp2_with fail
  refine (awake_yes _).mono ?_
  rintro e w1 ⟨rfl, hk⟩
  obtain ⟨hA0, hA1, hB0, hB1, hC0, hC1⟩ := box_kept3 hk
  have HK : Hid (Kept w w1) := (K3 _ _ _).trans hk
  clear hk K3
  go_wp2_with fail
  refine (right_yes ma _ a _ (HS.out.1.kept HK.out) HRa.out).mono ?_
  rintro e w2 ⟨rfl, hk⟩
  have hA0 := cell_kept hk hA0
  have hA1 := cell_kept hk hA1
  have hB0 := cell_kept hk hB0
  have hB1 := cell_kept hk hB1
  have hC0 := cell_kept hk hC0
  have hC1 := cell_kept hk hC1
  have HK : Hid (Kept w w2) := HK.out.trans hk
  clear hk
  go_wp2_with fail
  refine (right_yes mb _ b _ (HS.out.2.1.kept HK.out) HRb.out).mono ?_
  rintro e w3 ⟨rfl, hk⟩
  have hA0 := cell_kept hk hA0
  have hA1 := cell_kept hk hA1
  have hB0 := cell_kept hk hB0
  have hB1 := cell_kept hk hB1
  have hC0 := cell_kept hk hC0
  have hC1 := cell_kept hk hC1
  have HK : Hid (Kept w w3) := HK.out.trans hk
  clear hk
  go_wp2_with fail
  refine (right_yes mc _ c _ (HS.out.2.2.kept HK.out) HRc.out).mono ?_
  rintro e w4 ⟨rfl, hk⟩
  have hA0 := cell_kept hk hA0
  have hA1 := cell_kept hk hA1
  have hB0 := cell_kept hk hB0
  have hB1 := cell_kept hk hB1
  have hC0 := cell_kept hk hC0
  have hC1 := cell_kept hk hC1
  have HK : Hid (Kept w w4) := HK.out.trans hk
  clear hk
  go_wp2_with fail
  refine (icmp_any ma mb _ _ a b _ (HS.out.1.kept HK.out) (HS.out.2.1.kept HK.out) HRa.out HRb.out).mono ?_
  rintro e w5 ⟨rfl, hk⟩
  rw [HAB.out]
  have hA0 := cell_kept hk hA0
  have hA1 := cell_kept hk hA1
  have hB0 := cell_kept hk hB0
  have hB1 := cell_kept hk hB1
  have hC0 := cell_kept hk hC0
  have hC1 := cell_kept hk hC1
  have HK : Hid (Kept w w5) := HK.out.trans hk
  clear hk
  go_wp2_with fail
  refine (icmp_any mb ma _ _ b a _ (HS.out.2.1.kept HK.out) (HS.out.1.kept HK.out) HRb.out HRa.out).mono ?_
  rintro e w6 ⟨rfl, hk⟩
  rw [HBA.out]
  have hA0 := cell_kept hk hA0
  have hA1 := cell_kept hk hA1
  have hB0 := cell_kept hk hB0
  have hB1 := cell_kept hk hB1
  have hC0 := cell_kept hk hC0
  have hC1 := cell_kept hk hC1
  have HK : Hid (Kept w w6) := HK.out.trans hk
  clear hk
  go_wp2_with fail
  refine (icmp_any mb mc _ _ b c _ (HS.out.2.1.kept HK.out) (HS.out.2.2.kept HK.out) HRb.out HRc.out).mono ?_
  rintro e w7 ⟨rfl, hk⟩
  rw [HBC.out]
  have hA0 := cell_kept hk hA0
  have hA1 := cell_kept hk hA1
  have hB0 := cell_kept hk hB0
  have hB1 := cell_kept hk hB1
  have hC0 := cell_kept hk hC0
  have hC1 := cell_kept hk hC1
  have HK : Hid (Kept w w7) := HK.out.trans hk
  clear hk
  go_wp2_with fail
  refine (icmp_any ma mc _ _ a c _ (HS.out.1.kept HK.out) (HS.out.2.2.kept HK.out) HRa.out HRc.out).mono ?_
  rintro e w8 ⟨rfl, hk⟩
  obtain ⟨zAC, hz⟩ : ∃ z, z = isgn (M.int ma a) (M.int mc c) := ⟨_, rfl⟩
  rw [← hz]
  clear hz
  have hA0 := cell_kept hk hA0
  have hA1 := cell_kept hk hA1
  have hB0 := cell_kept hk hB0
  have hB1 := cell_kept hk hB1
  have hC0 := cell_kept hk hC0
  have hC1 := cell_kept hk hC1
  have HK : Hid (Kept w w8) := HK.out.trans hk
  clear hk
  go_wp2_with fail
  refine (sub_any ma mb _ _ a b _ (HS.out.1.kept HK.out) (HS.out.2.1.kept HK.out) HRa.out HRb.out).mono ?_
  rintro e w9 ⟨hk, sS, aS, nS, cS, kS, rfl, hF⟩
  obtain ⟨rfl, lS, hn, hr, hi⟩ := fin_fits hF HM.out
  have hns := hn.len
  obtain ⟨hd0, hd1⟩ := HD.out _ _ hr hi
  subst hd0
  rw [← hns] at hd1
  have hA0 := cell_kept hk hA0
  have hA1 := cell_kept hk hA1
  have hB0 := cell_kept hk hB0
  have hB1 := cell_kept hk hB1
  have hC0 := cell_kept hk hC0
  have hC1 := cell_kept hk hC1
  have ghA0 := fun x => cell_kept ((Kept.refl w9).alloc x) hA0
  have ghA1 := fun x => cell_kept ((Kept.refl w9).alloc x) hA1
  have ghB0 := fun x => cell_kept ((Kept.refl w9).alloc x) hB0
  have ghB1 := fun x => cell_kept ((Kept.refl w9).alloc x) hB1
  have ghC0 := fun x => cell_kept ((Kept.refl w9).alloc x) hC0
  have ghC1 := fun x => cell_kept ((Kept.refl w9).alloc x) hC1
  have HK : Hid (Kept w w9) := HK.out.trans hk
  clear hk hF hn hr hi hns hA0 hA1 hB0 hB1 hC0 hC1
  subst hd1
  go_wp2_with fail
  refine (lsame_any true ma mb _ _ a b _ (HS.out.1.kept (HK.out.trans ((Kept.refl w9).alloc _))) (HS.out.2.1.kept (HK.out.trans ((Kept.refl w9).alloc _))) (by omega) (by omega) HSM.out).mono ?_
  rintro e w10 ⟨rfl, hk⟩
  obtain ⟨hS0, hS1⟩ := box_kept hk
  have HK : Hid (Kept w w10) := HK.out.trans (((Kept.refl w9).alloc _).trans hk)
  clear hk ghA0 ghA1 ghB0 ghB1 ghC0 ghC1
  go_wp2
  go_ret
  exact ⟨rfl, HK.out⟩

set_option maxRecDepth 100000 in
set_option maxHeartbeats 4000000 in
theorem lorder_gt (ma mb mc : Bool) (aa ab ac : Option Addr) (la lb lc ca cb cc : Nat) (a b c : List Nat) (w : World) (ha : Sl w (.slice aa la ca) a) (hb : Sl w (.slice ab lb cb) b) (hc : Sl w (.slice ac lc cc) c)
    (_hla : a.length ≤ 9223372036854775807) (_hlb : b.length ≤ 9223372036854775807) (_hlc : c.length ≤ 9223372036854775807) (hra : R ma a) (hrb : R mb b) (hrc : R mc c) (hshort : a.length + b.length + c.length ≤ 60) (hab : M.int mb b < M.int ma a) :
    Calls Tryd.prog 4 #[.agg #[.bool ma, .slice aa la ca], .agg #[.bool mb, .slice ab lb cb], .agg #[.bool mc, .slice ac lc cc]] w fun e w' => e = .returned (.bool true) ∧ Kept w w' := by
  have HS : Hid (Sl w (.slice aa la ca) a ∧ Sl w (.slice ab lb cb) b ∧ Sl w (.slice ac lc cc) c) := ⟨ha, hb, hc⟩
  have ela := ha.len
  have elb := hb.len
  have elc := hc.len
  have HRa : Hid (R ma a) := hra
  have HRb : Hid (R mb b) := hrb
  have HRc : Hid (R mc c) := hrc
  have hl1 : la ≤ 72 := by rw [ela]; exact hra.1
  have hl2 : lb ≤ 72 := by rw [elb]; exact hrb.1
  have hl3 : lc ≤ 72 := by rw [elc]; exact hrc.1
  have hl4 : la + lb + lc ≤ 60 := by omega
  have HM : Hid ((M.int ma a - M.int mb b).natAbs < M.W72) := sub_small ha.bd hb.bd (by omega)
  have HAB : Hid (isgn (M.int ma a) (M.int mb b) = 1) := (show isgn (M.int ma a) (M.int mb b) = 1 by unfold isgn; rw [if_neg (by omega), if_neg (by omega)])
  have HBA : Hid (isgn (M.int mb b) (M.int ma a) = -1) := (show isgn (M.int mb b) (M.int ma a) = -1 by unfold isgn; rw [if_pos (by omega)])
  have HD : Hid (∀ s l, M.Right s l → M.int s l = M.int ma a - M.int mb b → s = false ∧ 0 < l.length) := fun s l h e => sign_pos h e (by omega)
  have HSM : Hid (false = decide (ma = mb ∧ a = b)) := (show false = decide (ma = mb ∧ a = b) by symm; apply decide_eq_false; rintro ⟨rfl, rfl⟩; omega)
  clear hra hrb hrc ela elb elc hshort ha hb hc hab
  have K3 : ∀ x y t, Kept w (((w.alloc x).alloc y).alloc t) := fun x y t => (((Kept.refl w).alloc x).alloc y).alloc t
  go_enter Tryd.func4, Tryd.ntmps4
  go_wp2_with fail
  refine (awake_yes _).mono ?_
  rintro e w1 ⟨rfl, hk⟩
  obtain ⟨hA0, hA1, hB0, hB1, hC0, hC1⟩ := box_kept3 hk
  have HK : Hid (Kept w w1) := (K3 _ _ _).trans hk
  clear hk K3
  go_wp2_with fail
  refine (right_yes ma _ a _ (HS.out.1.kept HK.out) HRa.out).mono ?_
  rintro e w2 ⟨rfl, hk⟩
  have hA0 := cell_kept hk hA0
  have hA1 := cell_kept hk hA1
  have hB0 := cell_kept hk hB0
  have hB1 := cell_kept hk hB1
  have hC0 := cell_kept hk hC0
  have hC1 := cell_kept hk hC1
  have HK : Hid (Kept w w2) := HK.out.trans hk
  clear hk
  go_wp2_with fail
  refine (right_yes mb _ b _ (HS.out.2.1.kept HK.out) HRb.out).mono ?_
  rintro e w3 ⟨rfl, hk⟩
  have hA0 := cell_kept hk hA0
  have hA1 := cell_kept hk hA1
  have hB0 := cell_kept hk hB0
  have hB1 := cell_kept hk hB1
  have hC0 := cell_kept hk hC0
  have hC1 := cell_kept hk hC1
  have HK : Hid (Kept w w3) := HK.out.trans hk
  clear hk
  go_wp2_with fail
  refine (right_yes mc _ c _ (HS.out.2.2.kept HK.out) HRc.out).mono ?_
  rintro e w4 ⟨rfl, hk⟩
  have hA0 := cell_kept hk hA0
  have hA1 := cell_kept hk hA1
  have hB0 := cell_kept hk hB0
  have hB1 := cell_kept hk hB1
  have hC0 := cell_kept hk hC0
  have hC1 := cell_kept hk hC1
  have HK : Hid (Kept w w4) := HK.out.trans hk
  clear hk
  go_wp2_with fail
  refine (icmp_any ma mb _ _ a b _ (HS.out.1.kept HK.out) (HS.out.2.1.kept HK.out) HRa.out HRb.out).mono ?_
  rintro e w5 ⟨rfl, hk⟩
  rw [HAB.out]
  have hA0 := cell_kept hk hA0
  have hA1 := cell_kept hk hA1
  have hB0 := cell_kept hk hB0
  have hB1 := cell_kept hk hB1
  have hC0 := cell_kept hk hC0
  have hC1 := cell_kept hk hC1
  have HK : Hid (Kept w w5) := HK.out.trans hk
  clear hk
  go_wp2_with fail
  refine (icmp_any mb ma _ _ b a _ (HS.out.2.1.kept HK.out) (HS.out.1.kept HK.out) HRb.out HRa.out).mono ?_
  rintro e w6 ⟨rfl, hk⟩
  rw [HBA.out]
  have hA0 := cell_kept hk hA0
  have hA1 := cell_kept hk hA1
  have hB0 := cell_kept hk hB0
  have hB1 := cell_kept hk hB1
  have hC0 := cell_kept hk hC0
  have hC1 := cell_kept hk hC1
  have HK : Hid (Kept w w6) := HK.out.trans hk
  clear hk
  go_wp2_with fail
  refine (icmp_any mb mc _ _ b c _ (HS.out.2.1.kept HK.out) (HS.out.2.2.kept HK.out) HRb.out HRc.out).mono ?_
  rintro e w7 ⟨rfl, hk⟩
  obtain ⟨zBC, hz⟩ : ∃ z, z = isgn (M.int mb b) (M.int mc c) := ⟨_, rfl⟩
  rw [← hz]
  clear hz
  have hA0 := cell_kept hk hA0
  have hA1 := cell_kept hk hA1
  have hB0 := cell_kept hk hB0
  have hB1 := cell_kept hk hB1
  have hC0 := cell_kept hk hC0
  have hC1 := cell_kept hk hC1
  have HK : Hid (Kept w w7) := HK.out.trans hk
  clear hk
  go_wp2_with fail
  refine (icmp_any ma mc _ _ a c _ (HS.out.1.kept HK.out) (HS.out.2.2.kept HK.out) HRa.out HRc.out).mono ?_
  rintro e w8 ⟨rfl, hk⟩
  obtain ⟨zAC, hz⟩ : ∃ z, z = isgn (M.int ma a) (M.int mc c) := ⟨_, rfl⟩
  rw [← hz]
  clear hz
  have hA0 := cell_kept hk hA0
  have hA1 := cell_kept hk hA1
  have hB0 := cell_kept hk hB0
  have hB1 := cell_kept hk hB1
  have hC0 := cell_kept hk hC0
  have hC1 := cell_kept hk hC1
  have HK : Hid (Kept w w8) := HK.out.trans hk
  clear hk
  go_wp2_with fail
  refine (sub_any ma mb _ _ a b _ (HS.out.1.kept HK.out) (HS.out.2.1.kept HK.out) HRa.out HRb.out).mono ?_
  rintro e w9 ⟨hk, sS, aS, nS, cS, kS, rfl, hF⟩
  obtain ⟨rfl, lS, hn, hr, hi⟩ := fin_fits hF HM.out
  have hns := hn.len
  obtain ⟨hd0, hd1⟩ := HD.out _ _ hr hi
  subst hd0
  rw [← hns] at hd1
  have hA0 := cell_kept hk hA0
  have hA1 := cell_kept hk hA1
  have hB0 := cell_kept hk hB0
  have hB1 := cell_kept hk hB1
  have hC0 := cell_kept hk hC0
  have hC1 := cell_kept hk hC1
  have ghA0 := fun x => cell_kept ((Kept.refl w9).alloc x) hA0
  have ghA1 := fun x => cell_kept ((Kept.refl w9).alloc x) hA1
  have ghB0 := fun x => cell_kept ((Kept.refl w9).alloc x) hB0
  have ghB1 := fun x => cell_kept ((Kept.refl w9).alloc x) hB1
  have ghC0 := fun x => cell_kept ((Kept.refl w9).alloc x) hC0
  have ghC1 := fun x => cell_kept ((Kept.refl w9).alloc x) hC1
  have HK : Hid (Kept w w9) := HK.out.trans hk
  clear hk hF hn hr hi hns hA0 hA1 hB0 hB1 hC0 hC1
  go_wp2_with fail
  refine (lsame_any false ma mb _ _ a b _ (HS.out.1.kept (HK.out.trans ((Kept.refl w9).alloc _))) (HS.out.2.1.kept (HK.out.trans ((Kept.refl w9).alloc _))) (by omega) (by omega) HSM.out).mono ?_
  rintro e w10 ⟨rfl, hk⟩
  obtain ⟨hS0, hS1⟩ := box_kept hk
  have HK : Hid (Kept w w10) := HK.out.trans (((Kept.refl w9).alloc _).trans hk)
  clear hk ghA0 ghA1 ghB0 ghB1 ghC0 ghC1
  go_wp2
  go_ret
  exact ⟨rfl, HK.out⟩


end Go.Proofs.YtiadnlpbbibkgabDoor
