/- Two of package shuntref01, where a number isn't right. -/
import Derived.Test.YthijnnififodjaaDoorRtold
import Derived.Test.YthijnnififodjaaDoorRtake
namespace Go.Proofs.YthijnnififodjaaDoor
open Go.RowKit
namespace D

set_option maxRecDepth 100000 in
set_option maxHeartbeats 1000000 in
theorem Two_no (op : Int) (m n : Bool) (aoa aob : Option Addr) (ka kb capa capb : Nat) (a b : List Nat) (w : World) (ha : Go.Proofs.YthijnnififodjaaDoor.Sl w (.slice aoa ka capa) a) (hb : Go.Proofs.YthijnnififodjaaDoor.Sl w (.slice aob kb capb) b) (hla : a.length ≤ 80) (hlb : b.length ≤ 80) (hr : ¬ (R m a ∧ R n b)) :
    Calls Tryd.prog 11 #[.int .u8 op, .agg #[.bool m, .slice aoa ka capa], .agg #[.bool n, .slice aob kb capb]] w fun e w' => Kept w w' ∧ e = .returned (.tuple #[.agg #[.bool false, .slice none 0 0], .int .i64 10]) := by
  have HA : Hid (Go.Proofs.YthijnnififodjaaDoor.Sl w (.slice aoa ka capa) a) := ha
  have HB : Hid (Go.Proofs.YthijnnififodjaaDoor.Sl w (.slice aob kb capb) b) := hb
  have K3 : ∀ x y z, Kept w (((w.alloc x).alloc y).alloc z) := fun x y z => (((Kept.refl w).alloc x).alloc y).alloc z
  by_cases hra : R m a
  · have HR : Hid (R m a ∧ ¬ R n b) := ⟨hra, fun h => hr ⟨hra, h⟩⟩
    clear ha hb hr hra
    go_enter Tryd.func11, Tryd.ntmps11
    go_wp2_with fail
    refine (right_yes m _ a _ (HA.out.kept (K3 _ _ _)) HR.out.1).mono ?_
    rintro e w1 ⟨rfl, hk1⟩
    obtain ⟨hA0, hA1, hB0, hB1, hR0, hR1⟩ := box_kept3 hk1
    have HK1 : Hid (Kept w w1) := (K3 _ _ _).trans hk1
    have hz1 : w.heap.size + 1 + 1 + 1 ≤ w1.heap.size := by have := hk1.size; simpa using this
    have hfR : ∀ j, w1.frozen? ⟨w.heap.size + 1 + 1, j, none⟩ = false := fun j => (hk1.frozens _ _ (by simp)).trans (World.frozen?_alloc_at _ _ _ _ (by simp))
    clear hk1
    go_wp2_with fail
    refine (right_no n _ b _ (HB.out.kept HK1.out) (by omega) HR.out.2).mono ?_
    rintro e w2 ⟨rfl, hk2⟩
    have hR0 := cell_kept hk2 hR0
    have hR1 := cell_kept hk2 hR1
    have hfR : ∀ j, w2.frozen? ⟨w.heap.size + 1 + 1, j, none⟩ = false := fun j => by rw [hk2.frozens _ _ (by omega)]; exact hfR j
    have HK2 : Hid (Kept w w2) := HK1.out.trans hk2
    clear hk2 K3 hA0 hA1 hB0 hB1
    go_wp2
    exact bodyPost_ret (v := .tuple #[.agg #[.bool false, .slice none 0 0], .int .i64 10]) (by simp [results, Tryd.results11, go_sem, hR0, hR1]) rfl ⟨(HK2.out.setCell (by simp; omega) _).setCell (by simp; omega) _, rfl⟩
  · have HR : Hid (¬ R m a) := hra
    clear ha hb hr hra
    go_enter Tryd.func11, Tryd.ntmps11
    go_wp2_with fail
    refine (right_no m _ a _ (HA.out.kept (K3 _ _ _)) (by omega) HR.out).mono ?_
    rintro e w1 ⟨rfl, hk1⟩
    obtain ⟨hA0, hA1, hB0, hB1, hR0, hR1⟩ := box_kept3 hk1
    have HK1 : Hid (Kept w w1) := (K3 _ _ _).trans hk1
    have hfR : ∀ j, w1.frozen? ⟨w.heap.size + 1 + 1, j, none⟩ = false := fun j => (hk1.frozens _ _ (by simp)).trans (World.frozen?_alloc_at _ _ _ _ (by simp))
    clear hk1 K3 hA0 hA1 hB0 hB1
    go_wp2
    exact bodyPost_ret (v := .tuple #[.agg #[.bool false, .slice none 0 0], .int .i64 10]) (by simp [results, Tryd.results11, go_sem, hR0, hR1]) rfl ⟨(HK1.out.setCell (by simp; omega) _).setCell (by simp; omega) _, rfl⟩

end D
end Go.Proofs.YthijnnififodjaaDoor
