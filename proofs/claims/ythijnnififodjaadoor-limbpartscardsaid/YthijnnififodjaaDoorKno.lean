/- QuoRem, Exact, Gcd of limb, and QuoRem of shuntref01, where a number isn't right, or where it is divided by 0. -/
import Derived.Test.YthijnnififodjaaDoorGe
import Derived.Test.YthijnnififodjaaDoorGf
namespace Go.Proofs.YthijnnififodjaaDoor
open Go.RowKit

set_option maxHeartbeats 1000000 in
theorem gcd_no (m n : Bool) (va vb : Value) (a b : List Nat) (w : World) (ha : Sl w va a) (hb : Sl w vb b) (hla : a.length ≤ 80) (hlb : b.length ≤ 80) (hr : ¬ (R m a ∧ R n b)) :
    Calls Tryd.prog 12 #[.agg #[.bool m, va], .agg #[.bool n, vb]] w fun e w' => Kept w w' ∧ e = .returned (.tuple #[.agg #[.bool false, .slice none 0 0], .int .i64 10]) := by
  have HR : Hid (¬ (R m a ∧ R n b)) := hr
  have HA : Hid (Sl w va a ∧ Sl w vb b) := ⟨ha, hb⟩
  clear hr ha hb
  have K3 : ∀ x y t, Kept w (((w.alloc x).alloc y).alloc t) := fun x y t => (((Kept.refl w).alloc x).alloc y).alloc t
  go_enter Tryd.func12, Tryd.ntmps12
  go_wp2_with fail
  refine (wrong_yes m n va vb a b _ (HA.out.1.kept (K3 _ _ _)) (HA.out.2.kept (K3 _ _ _)) (by omega) (by omega) HR.out).mono ?_
  rintro e w1 ⟨rfl, hk⟩
  obtain ⟨_, _, _, _, hR0, hR1⟩ := box_kept3 hk
  have hf := hk.frozens
  have HK1 : Hid (Kept w w1) := (K3 _ _ _).trans hk
  clear hk K3
  go_wp2
  exact bodyPost_ret (v := .tuple #[.agg #[.bool false, .slice none 0 0], .int .i64 10]) (by simp [results, Tryd.results12, go_sem, hR0, hR1]) rfl ⟨(HK1.out.setCell (by simp; omega) _).setCell (by simp; omega) _, rfl⟩

/-- Both parts nought, and an error. -/
def QuoErr (c : Int) : Ending := .returned (.tuple #[.agg #[.bool false, .slice none 0 0], .agg #[.bool false, .slice none 0 0], .int .i64 c])

set_option maxHeartbeats 1000000 in
theorem quoRem_no (m n : Bool) (va vb : Value) (a b : List Nat) (w : World) (ha : Sl w va a) (hb : Sl w vb b) (hla : a.length ≤ 80) (hlb : b.length ≤ 80) (hr : ¬ (R m a ∧ R n b)) :
    Calls Tryd.prog 8 #[.agg #[.bool m, va], .agg #[.bool n, vb]] w fun e w' => Kept w w' ∧ e = QuoErr 10 := by
  have HR : Hid (¬ (R m a ∧ R n b)) := hr
  have HA : Hid (Sl w va a ∧ Sl w vb b) := ⟨ha, hb⟩
  clear hr ha hb
  have K4 : ∀ x y t u, Kept w ((((w.alloc x).alloc y).alloc t).alloc u) := fun x y t u => ((((Kept.refl w).alloc x).alloc y).alloc t).alloc u
  go_enter Tryd.func8, Tryd.ntmps8
  go_wp2_with fail
  refine (wrong_yes m n va vb a b _ (HA.out.1.kept (K4 _ _ _ _)) (HA.out.2.kept (K4 _ _ _ _)) (by omega) (by omega) HR.out).mono ?_
  rintro e w1 ⟨rfl, hk⟩
  obtain ⟨_, _, _, _, hR0, hR1, hS0, hS1⟩ := D.box_kept4 hk
  have hf := hk.frozens
  have HK1 : Hid (Kept w w1) := (K4 _ _ _ _).trans hk
  clear hk K4
  go_wp2
  exact bodyPost_ret (v := .tuple #[.agg #[.bool false, .slice none 0 0], .agg #[.bool false, .slice none 0 0], .int .i64 10]) (by simp [results, Tryd.results8, go_sem, hR0, hR1, hS0, hS1]) rfl ⟨(((HK1.out.setCell (by simp; omega) _).setCell (by simp; omega) _).setCell (by simp; omega) _).setCell (by simp; omega) _, rfl⟩

set_option maxHeartbeats 1000000 in
theorem quoRem_zero (m n : Bool) (va : Value) (aob : Option Addr) (capb : Nat) (a : List Nat) (w : World) (ha : Sl w va a) (hra : R m a) (hrb : R n []) :
    Calls Tryd.prog 8 #[.agg #[.bool m, va], .agg #[.bool n, .slice aob 0 capb]] w fun e w' => Kept w w' ∧ e = QuoErr 11 := by
  have HR : Hid (R m a ∧ R n []) := ⟨hra, hrb⟩
  have HA : Hid (Sl w va a) := ha
  clear hra hrb ha
  have K4 : ∀ x y t u, Kept w ((((w.alloc x).alloc y).alloc t).alloc u) := fun x y t u => ((((Kept.refl w).alloc x).alloc y).alloc t).alloc u
  go_enter Tryd.func8, Tryd.ntmps8
  go_wp2_with fail
  refine (wrong_no m n va _ a [] _ (HA.out.kept (K4 _ _ _ _)) (Sl.nil _ _ _) HR.out.1 HR.out.2).mono ?_
  rintro e w1 ⟨rfl, hk⟩
  obtain ⟨_, _, hB0, hB1, hR0, hR1, hS0, hS1⟩ := D.box_kept4 hk
  have hf := hk.frozens
  have HK1 : Hid (Kept w w1) := (K4 _ _ _ _).trans hk
  clear hk K4
  go_wp2
  exact bodyPost_ret (v := .tuple #[.agg #[.bool false, .slice none 0 0], .agg #[.bool false, .slice none 0 0], .int .i64 11]) (by simp [results, Tryd.results8, go_sem, hR0, hR1, hS0, hS1]) rfl ⟨(((HK1.out.setCell (by simp; omega) _).setCell (by simp; omega) _).setCell (by simp; omega) _).setCell (by simp; omega) _, rfl⟩

set_option maxHeartbeats 1000000 in
theorem exact_err (c : Int) (hc0 : c = 10 ∨ c = 11) (m n : Bool) (va vb : Value) (w : World)
    (hq : ∀ W, Kept w W → Calls Tryd.prog 8 #[.agg #[.bool m, va], .agg #[.bool n, vb]] W fun e w' => Kept W w' ∧ e = QuoErr c) :
    Calls Tryd.prog 10 #[.agg #[.bool m, va], .agg #[.bool n, vb]] w fun e w' => Kept w w' ∧ e = .returned (.tuple #[.agg #[.bool false, .slice none 0 0], .int .i64 c]) := by
  have HQ : Hid (∀ W, Kept w W → Calls Tryd.prog 8 #[.agg #[.bool m, va], .agg #[.bool n, vb]] W fun e w' => Kept W w' ∧ e = QuoErr c) := hq
  have hc : (c == 0) = false := by rcases hc0 with rfl | rfl <;> rfl
  have hcn : ¬ c = 0 := by omega
  clear hq
  have K3 : ∀ x y t, Kept w (((w.alloc x).alloc y).alloc t) := fun x y t => (((Kept.refl w).alloc x).alloc y).alloc t
  rcases hc0 with rfl | rfl
  all_goals
    go_enter Tryd.func10, Tryd.ntmps10
    go_wp2_with fail
    refine (HQ.out _ (K3 _ _ _)).mono ?_
    rintro e w1 ⟨hk, rfl⟩
    unfold QuoErr
    obtain ⟨_, _, _, _, hR0, hR1⟩ := box_kept3 hk
    have hsz := hk.size
    simp at hsz
    have hsz1 : w.heap.size + 1 + 1 < w1.heap.size := by omega
    have hsz2 : w.heap.size + 1 + 1 < w1.heap.size + 1 := by omega
    have hf : ∀ o, w1.frozen? ⟨w.heap.size + 1 + 1, o, none⟩ = false := fun o => by rw [hk.frozens (w.heap.size + 1 + 1) o (by simp)]; exact World.frozen?_alloc_at _ _ _ _ (by simp)
    have HK1 : Hid (Kept w w1) := (K3 _ _ _).trans hk
    clear hk K3 HQ
    go_wp2
  · exact bodyPost_ret (v := .tuple #[.agg #[.bool false, .slice none 0 0], .int .i64 10]) (by simp [results, Tryd.results10, go_sem, hR0, hR1, hsz1, hsz2]) rfl ⟨(((HK1.out.setCell (by show w.heap.size ≤ w.heap.size + 1 + 1; omega) _).setCell (by show w.heap.size ≤ w.heap.size + 1 + 1; omega) _).alloc _).alloc _, rfl⟩
  · exact bodyPost_ret (v := .tuple #[.agg #[.bool false, .slice none 0 0], .int .i64 11]) (by simp [results, Tryd.results10, go_sem, hR0, hR1, hsz1, hsz2]) rfl ⟨(((HK1.out.setCell (by show w.heap.size ≤ w.heap.size + 1 + 1; omega) _).setCell (by show w.heap.size ≤ w.heap.size + 1 + 1; omega) _).alloc _).alloc _, rfl⟩

namespace D
set_option maxRecDepth 100000 in
set_option maxHeartbeats 1000000 in
theorem QuoRem_zero (m n : Bool) (aoa aob : Option Addr) (ka capa capb : Nat) (a : List Nat) (w : World) (ha : Go.Proofs.YthijnnififodjaaDoor.Sl w (.slice aoa ka capa) a) (hra : R m a) (hrb : R n []) :
    Calls Tryd.prog 9 #[.agg #[.bool m, .slice aoa ka capa], .agg #[.bool n, .slice aob 0 capb]] w fun e w' => Kept w w' ∧ e = QuoErr 11 := by
  have HA : Hid (Go.Proofs.YthijnnififodjaaDoor.Sl w (.slice aoa ka capa) a ∧ R m a ∧ R n []) := ⟨ha, hra, hrb⟩
  have K4 : ∀ x y z u, Kept w ((((w.alloc x).alloc y).alloc z).alloc u) := fun x y z u => ((((Kept.refl w).alloc x).alloc y).alloc z).alloc u
  clear ha hra hrb
  go_enter Tryd.func9, Tryd.ntmps9
  go_wp2_with fail
  refine (right_yes m _ a _ (HA.out.1.kept (K4 _ _ _ _)) HA.out.2.1).mono ?_
  rintro e w1 ⟨rfl, hk1⟩
  obtain ⟨hA0, hA1, hB0, hB1, hR0, hR1, hS0, hS1⟩ := box_kept4 hk1
  have HK1 : Hid (Kept w w1) := (K4 _ _ _ _).trans hk1
  have hz1 : w.heap.size + 1 + 1 + 1 + 1 ≤ w1.heap.size := by have := hk1.size; simpa using this
  have hfR : ∀ j, w1.frozen? ⟨w.heap.size + 1 + 1, j, none⟩ = false := fun j => by rw [hk1.frozens (w.heap.size + 1 + 1) j (by simp)]; exact (World.frozen?_alloc_past _ _ _ (by simp)).trans (World.frozen?_alloc_at _ _ _ _ (by simp))
  have hfS : ∀ j, w1.frozen? ⟨w.heap.size + 1 + 1 + 1, j, none⟩ = false := fun j => by rw [hk1.frozens (w.heap.size + 1 + 1 + 1) j (by simp)]; exact World.frozen?_alloc_at _ _ _ _ (by simp)
  clear hk1
  go_wp2_with fail
  refine (right_yes n _ [] _ (Go.Proofs.YthijnnififodjaaDoor.Sl.nil _ _ _) HA.out.2.2).mono ?_
  rintro e w2 ⟨rfl, hk2⟩
  have hB1 := cell_kept hk2 hB1
  have hR0 := cell_kept hk2 hR0
  have hR1 := cell_kept hk2 hR1
  have hS0 := cell_kept hk2 hS0
  have hS1 := cell_kept hk2 hS1
  have hfR : ∀ j, w2.frozen? ⟨w.heap.size + 1 + 1, j, none⟩ = false := fun j => by rw [hk2.frozens _ _ (by omega)]; exact hfR j
  have hfS : ∀ j, w2.frozen? ⟨w.heap.size + 1 + 1 + 1, j, none⟩ = false := fun j => by rw [hk2.frozens _ _ (by omega)]; exact hfS j
  have HK2 : Hid (Kept w w2) := HK1.out.trans hk2
  clear hk2 K4
  go_wp2
  exact bodyPost_ret (v := .tuple #[.agg #[.bool false, .slice none 0 0], .agg #[.bool false, .slice none 0 0], .int .i64 11]) (by simp [results, Tryd.results9, go_sem, hR0, hR1, hS0, hS1]) rfl ⟨(((HK2.out.setCell (by simp; omega) _).setCell (by simp; omega) _).setCell (by simp; omega) _).setCell (by simp; omega) _, rfl⟩

set_option maxRecDepth 100000 in
set_option maxHeartbeats 1000000 in
theorem QuoRem_no (m n : Bool) (aoa aob : Option Addr) (ka kb capa capb : Nat) (a b : List Nat) (w : World) (ha : Go.Proofs.YthijnnififodjaaDoor.Sl w (.slice aoa ka capa) a) (hb : Go.Proofs.YthijnnififodjaaDoor.Sl w (.slice aob kb capb) b) (hla : a.length ≤ 80) (hlb : b.length ≤ 80) (hr : ¬ (R m a ∧ R n b)) :
    Calls Tryd.prog 9 #[.agg #[.bool m, .slice aoa ka capa], .agg #[.bool n, .slice aob kb capb]] w fun e w' => Kept w w' ∧ e = QuoErr 10 := by
  have HA : Hid (Go.Proofs.YthijnnififodjaaDoor.Sl w (.slice aoa ka capa) a) := ha
  have HB : Hid (Go.Proofs.YthijnnififodjaaDoor.Sl w (.slice aob kb capb) b) := hb
  have K4 : ∀ x y z u, Kept w ((((w.alloc x).alloc y).alloc z).alloc u) := fun x y z u => ((((Kept.refl w).alloc x).alloc y).alloc z).alloc u
  by_cases hra : R m a
  · have HR : Hid (R m a ∧ ¬ R n b) := ⟨hra, fun h => hr ⟨hra, h⟩⟩
    clear ha hb hr hra
    go_enter Tryd.func9, Tryd.ntmps9
    go_wp2_with fail
    refine (right_yes m _ a _ (HA.out.kept (K4 _ _ _ _)) HR.out.1).mono ?_
    rintro e w1 ⟨rfl, hk1⟩
    obtain ⟨hA0, hA1, hB0, hB1, hR0, hR1, hS0, hS1⟩ := box_kept4 hk1
    have HK1 : Hid (Kept w w1) := (K4 _ _ _ _).trans hk1
    have hz1 : w.heap.size + 1 + 1 + 1 + 1 ≤ w1.heap.size := by have := hk1.size; simpa using this
    have hfR : ∀ j, w1.frozen? ⟨w.heap.size + 1 + 1, j, none⟩ = false := fun j => by rw [hk1.frozens (w.heap.size + 1 + 1) j (by simp)]; exact (World.frozen?_alloc_past _ _ _ (by simp)).trans (World.frozen?_alloc_at _ _ _ _ (by simp))
    have hfS : ∀ j, w1.frozen? ⟨w.heap.size + 1 + 1 + 1, j, none⟩ = false := fun j => by rw [hk1.frozens (w.heap.size + 1 + 1 + 1) j (by simp)]; exact World.frozen?_alloc_at _ _ _ _ (by simp)
    clear hk1
    go_wp2_with fail
    refine (right_no n _ b _ (HB.out.kept HK1.out) (by omega) HR.out.2).mono ?_
    rintro e w2 ⟨rfl, hk2⟩
    have hR0 := cell_kept hk2 hR0
    have hR1 := cell_kept hk2 hR1
    have hS0 := cell_kept hk2 hS0
    have hS1 := cell_kept hk2 hS1
    have hfR : ∀ j, w2.frozen? ⟨w.heap.size + 1 + 1, j, none⟩ = false := fun j => by rw [hk2.frozens _ _ (by omega)]; exact hfR j
    have hfS : ∀ j, w2.frozen? ⟨w.heap.size + 1 + 1 + 1, j, none⟩ = false := fun j => by rw [hk2.frozens _ _ (by omega)]; exact hfS j
    have HK2 : Hid (Kept w w2) := HK1.out.trans hk2
    clear hk2 K4 hA0 hA1 hB0 hB1
    go_wp2
    exact bodyPost_ret (v := .tuple #[.agg #[.bool false, .slice none 0 0], .agg #[.bool false, .slice none 0 0], .int .i64 10]) (by simp [results, Tryd.results9, go_sem, hR0, hR1, hS0, hS1]) rfl ⟨(((HK2.out.setCell (by simp; omega) _).setCell (by simp; omega) _).setCell (by simp; omega) _).setCell (by simp; omega) _, rfl⟩
  · have HR : Hid (¬ R m a) := hra
    clear ha hb hr hra
    go_enter Tryd.func9, Tryd.ntmps9
    go_wp2_with fail
    refine (right_no m _ a _ (HA.out.kept (K4 _ _ _ _)) (by omega) HR.out).mono ?_
    rintro e w1 ⟨rfl, hk1⟩
    obtain ⟨hA0, hA1, hB0, hB1, hR0, hR1, hS0, hS1⟩ := box_kept4 hk1
    have HK1 : Hid (Kept w w1) := (K4 _ _ _ _).trans hk1
    have hfR : ∀ j, w1.frozen? ⟨w.heap.size + 1 + 1, j, none⟩ = false := fun j => by rw [hk1.frozens (w.heap.size + 1 + 1) j (by simp)]; exact (World.frozen?_alloc_past _ _ _ (by simp)).trans (World.frozen?_alloc_at _ _ _ _ (by simp))
    have hfS : ∀ j, w1.frozen? ⟨w.heap.size + 1 + 1 + 1, j, none⟩ = false := fun j => by rw [hk1.frozens (w.heap.size + 1 + 1 + 1) j (by simp)]; exact World.frozen?_alloc_at _ _ _ _ (by simp)
    clear hk1 K4 hA0 hA1 hB0 hB1
    go_wp2
    exact bodyPost_ret (v := .tuple #[.agg #[.bool false, .slice none 0 0], .agg #[.bool false, .slice none 0 0], .int .i64 10]) (by simp [results, Tryd.results9, go_sem, hR0, hR1, hS0, hS1]) rfl ⟨(((HK1.out.setCell (by simp; omega) _).setCell (by simp; omega) _).setCell (by simp; omega) _).setCell (by simp; omega) _, rfl⟩

end D
end Go.Proofs.YthijnnififodjaaDoor
