/- Add, Sub, Mul, Cmp of limb, and Cmp of shuntref01, where a number isn't right. -/
import Derived.Test.YtiadnlpbbibkgaaDoorRcmp
import Derived.Test.YtiadnlpbbibkgaaDoorMul
namespace Go.Proofs.YtiadnlpbbibkgaaDoor
open Go.RowKit

set_option maxHeartbeats 1000000 in
theorem add_no (m n : Bool) (va vb : Value) (a b : List Nat) (w : World) (ha : Sl w va a) (hb : Sl w vb b) (hla : a.length ≤ 80) (hlb : b.length ≤ 80) (hr : ¬ (R m a ∧ R n b)) :
    Calls Tryd.prog 12 #[.agg #[.bool m, va], .agg #[.bool n, vb]] w fun e w' => Kept w w' ∧ e = .returned (.tuple #[.agg #[.bool false, .slice none 0 0], .int .i64 10]) := by
  have HR : Hid (¬ (R m a ∧ R n b)) := hr
  have HA : Hid (Sl w va a ∧ Sl w vb b) := ⟨ha, hb⟩
  clear hr ha hb
  have K3 : ∀ x y t, Kept w (((w.alloc x).alloc y).alloc t) := fun x y t => (((Kept.refl w).alloc x).alloc y).alloc t
  go_enter Tryd.func12, Tryd.ntmps12
  go_wp2_with fail
  refine (wrong_yes m n va vb a b _ (HA.out.1.kept (K3 _ _ _)) (HA.out.2.kept (K3 _ _ _)) (by omega) (by omega) HR.out).mono ?_
  rintro e w1 ⟨rfl, hk⟩
  obtain ⟨_, _, _, _, hR0, hR1⟩ := box_kept3 hk
  have hf := hk.frozens
  have HK1 : Hid (Kept w w1) := (K3 _ _ _).trans hk
  clear hk K3
  go_wp2
  exact bodyPost_ret (v := .tuple #[.agg #[.bool false, .slice none 0 0], .int .i64 10]) (by simp [results, Tryd.results12, go_sem, hR0, hR1]) rfl ⟨(HK1.out.setCell (by simp; omega) _).setCell (by simp; omega) _, rfl⟩

set_option maxHeartbeats 1000000 in
theorem sub_no (m n : Bool) (va vb : Value) (a b : List Nat) (w : World) (ha : Sl w va a) (hb : Sl w vb b) (hla : a.length ≤ 80) (hlb : b.length ≤ 80) (hr : ¬ (R m a ∧ R n b)) :
    Calls Tryd.prog 13 #[.agg #[.bool m, va], .agg #[.bool n, vb]] w fun e w' => Kept w w' ∧ e = .returned (.tuple #[.agg #[.bool false, .slice none 0 0], .int .i64 10]) := by
  have HR : Hid (¬ (R m a ∧ R n b)) := hr
  have HA : Hid (Sl w va a ∧ Sl w vb b) := ⟨ha, hb⟩
  clear hr ha hb
  have K3 : ∀ x y t, Kept w (((w.alloc x).alloc y).alloc t) := fun x y t => (((Kept.refl w).alloc x).alloc y).alloc t
  go_enter Tryd.func13, Tryd.ntmps13
  go_wp2_with fail
  refine (wrong_yes m n va vb a b _ (HA.out.1.kept (K3 _ _ _)) (HA.out.2.kept (K3 _ _ _)) (by omega) (by omega) HR.out).mono ?_
  rintro e w1 ⟨rfl, hk⟩
  obtain ⟨_, _, _, _, hR0, hR1⟩ := box_kept3 hk
  have hf := hk.frozens
  have HK1 : Hid (Kept w w1) := (K3 _ _ _).trans hk
  clear hk K3
  go_wp2
  exact bodyPost_ret (v := .tuple #[.agg #[.bool false, .slice none 0 0], .int .i64 10]) (by simp [results, Tryd.results13, go_sem, hR0, hR1]) rfl ⟨(HK1.out.setCell (by simp; omega) _).setCell (by simp; omega) _, rfl⟩

set_option maxHeartbeats 1000000 in
theorem mul_no (m n : Bool) (va vb : Value) (a b : List Nat) (w : World) (ha : Sl w va a) (hb : Sl w vb b) (hla : a.length ≤ 80) (hlb : b.length ≤ 80) (hr : ¬ (R m a ∧ R n b)) :
    Calls Tryd.prog 14 #[.agg #[.bool m, va], .agg #[.bool n, vb]] w fun e w' => Kept w w' ∧ e = .returned (.tuple #[.agg #[.bool false, .slice none 0 0], .int .i64 10]) := by
  have HR : Hid (¬ (R m a ∧ R n b)) := hr
  have HA : Hid (Sl w va a ∧ Sl w vb b) := ⟨ha, hb⟩
  clear hr ha hb
  have K3 : ∀ x y t, Kept w (((w.alloc x).alloc y).alloc t) := fun x y t => (((Kept.refl w).alloc x).alloc y).alloc t
  go_enter Tryd.func14, Tryd.ntmps14
  go_wp2_with fail
  refine (wrong_yes m n va vb a b _ (HA.out.1.kept (K3 _ _ _)) (HA.out.2.kept (K3 _ _ _)) (by omega) (by omega) HR.out).mono ?_
  rintro e w1 ⟨rfl, hk⟩
  obtain ⟨_, _, _, _, hR0, hR1⟩ := box_kept3 hk
  have hf := hk.frozens
  have HK1 : Hid (Kept w w1) := (K3 _ _ _).trans hk
  clear hk K3
  go_wp2
  exact bodyPost_ret (v := .tuple #[.agg #[.bool false, .slice none 0 0], .int .i64 10]) (by simp [results, Tryd.results14, go_sem, hR0, hR1]) rfl ⟨(HK1.out.setCell (by simp; omega) _).setCell (by simp; omega) _, rfl⟩

set_option maxHeartbeats 1000000 in
theorem icmp_no (m n : Bool) (va vb : Value) (a b : List Nat) (w : World) (ha : Sl w va a) (hb : Sl w vb b) (hla : a.length ≤ 80) (hlb : b.length ≤ 80) (hr : ¬ (R m a ∧ R n b)) :
    Calls Tryd.prog 15 #[.agg #[.bool m, va], .agg #[.bool n, vb]] w fun e w' => e = .returned (.tuple #[.int .i64 0, .int .i64 10]) ∧ Kept w w' := by
  have HR : Hid (¬ (R m a ∧ R n b)) := hr
  have HA : Hid (Sl w va a ∧ Sl w vb b) := ⟨ha, hb⟩
  clear hr ha hb
  have K2 : ∀ x y, Kept w ((w.alloc x).alloc y) := fun x y => ((Kept.refl w).alloc x).alloc y
  go_enter Tryd.func15, Tryd.ntmps15
  go_wp2_with fail
  refine (wrong_yes m n va vb a b _ (HA.out.1.kept (K2 _ _)) (HA.out.2.kept (K2 _ _)) (by omega) (by omega) HR.out).mono ?_
  rintro e w1 ⟨rfl, hk⟩
  have HK1 : Hid (Kept w w1) := (K2 _ _).trans hk
  clear hk K2
  go_wp2
  exact bodyPost_ret (v := .tuple #[.int .i64 0, .int .i64 10]) (by simp [results, Tryd.results15, go_sem]) rfl ⟨rfl, HK1.out⟩

namespace D
set_option maxRecDepth 100000 in
set_option maxHeartbeats 1000000 in
theorem Cmp_no (m n : Bool) (aoa aob : Option Addr) (ka kb capa capb : Nat) (a b : List Nat) (w : World) (ha : Go.Proofs.YtiadnlpbbibkgaaDoor.Sl w (.slice aoa ka capa) a) (hb : Go.Proofs.YtiadnlpbbibkgaaDoor.Sl w (.slice aob kb capb) b) (hla : a.length ≤ 80) (hlb : b.length ≤ 80) (hr : ¬ (R m a ∧ R n b)) :
    Calls Tryd.prog 17 #[.agg #[.bool m, .slice aoa ka capa], .agg #[.bool n, .slice aob kb capb]] w fun e w' => e = .returned (.tuple #[.int .i64 0, .int .i64 10]) ∧ Kept w w' := by
  have HA : Hid (Go.Proofs.YtiadnlpbbibkgaaDoor.Sl w (.slice aoa ka capa) a) := ha
  have HB : Hid (Go.Proofs.YtiadnlpbbibkgaaDoor.Sl w (.slice aob kb capb) b) := hb
  have K2 : ∀ x y, Kept w ((w.alloc x).alloc y) := fun x y => ((Kept.refl w).alloc x).alloc y
  by_cases hra : R m a
  · have HR : Hid (R m a ∧ ¬ R n b) := ⟨hra, fun h => hr ⟨hra, h⟩⟩
    clear ha hb hr hra
    go_enter Tryd.func17, Tryd.ntmps17
    go_wp2_with fail
    refine (right_yes m _ a _ (HA.out.kept (K2 _ _)) HR.out.1).mono ?_
    rintro e w1 ⟨rfl, hk1⟩
    obtain ⟨hA0, hA1, hB0, hB1⟩ := box_kept2 hk1
    have HK1 : Hid (Kept w w1) := (K2 _ _).trans hk1
    clear hk1
    go_wp2_with fail
    refine (right_no n _ b _ (HB.out.kept HK1.out) (by omega) HR.out.2).mono ?_
    rintro e w2 ⟨rfl, hk2⟩
    have HK2 : Hid (Kept w w2) := HK1.out.trans hk2
    clear hk2 K2 hA0 hA1 hB0 hB1
    go_wp2
    exact bodyPost_ret (v := .tuple #[.int .i64 0, .int .i64 10]) (by simp [results, Tryd.results17, go_sem]) rfl ⟨rfl, HK2.out⟩
  · have HR : Hid (¬ R m a) := hra
    clear ha hb hr hra
    go_enter Tryd.func17, Tryd.ntmps17
    go_wp2_with fail
    refine (right_no m _ a _ (HA.out.kept (K2 _ _)) (by omega) HR.out).mono ?_
    rintro e w1 ⟨rfl, hk1⟩
    have HK1 : Hid (Kept w w1) := (K2 _ _).trans hk1
    clear hk1 K2
    go_wp2
    exact bodyPost_ret (v := .tuple #[.int .i64 0, .int .i64 10]) (by simp [results, Tryd.results17, go_sem]) rfl ⟨rfl, HK1.out⟩
end D

end Go.Proofs.YtiadnlpbbibkgaaDoor
