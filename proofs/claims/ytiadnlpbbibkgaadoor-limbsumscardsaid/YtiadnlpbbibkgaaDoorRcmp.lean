/- Cmp of package shuntref01. -/
import Derived.Test.YtiadnlpbbibkgaaDoorRtwo
namespace Go.Proofs.YtiadnlpbbibkgaaDoor
open Go.RowKit
namespace D

set_option maxRecDepth 100000 in
set_option maxHeartbeats 2000000 in
theorem Cmp_yes (m n : Bool) (aoa aob : Option Addr) (ka kb capa capb : Nat) (a b : List Nat) (w : World) (ha : Go.Proofs.YtiadnlpbbibkgaaDoor.Sl w (.slice aoa ka capa) a) (hb : Go.Proofs.YtiadnlpbbibkgaaDoor.Sl w (.slice aob kb capb) b) (hra : R m a) (hrb : R n b) :
    Calls Tryd.prog 17 #[.agg #[.bool m, .slice aoa ka capa], .agg #[.bool n, .slice aob kb capb]] w fun e w' => e = .returned (.tuple #[.int .i64 (isgn (M.int m a) (M.int n b)), .int .i64 0]) ∧ Kept w w' := by
  have HA : Hid (Go.Proofs.YtiadnlpbbibkgaaDoor.Sl w (.slice aoa ka capa) a ∧ R m a) := ⟨ha, hra⟩
  have HB : Hid (Go.Proofs.YtiadnlpbbibkgaaDoor.Sl w (.slice aob kb capb) b ∧ R n b) := ⟨hb, hrb⟩
  have hla : a.length ≤ 72 := hra.1
  have hlb : b.length ≤ 72 := hrb.1
  have K2 : ∀ x y, Kept w ((w.alloc x).alloc y) := fun x y => ((Kept.refl w).alloc x).alloc y
  clear ha hb hra hrb
  go_enter Tryd.func17, Tryd.ntmps17
  go_wp2_with fail
  refine (right_yes m _ a _ (HA.out.1.kept (K2 _ _)) HA.out.2).mono ?_
  rintro e w1 ⟨rfl, hk1⟩
  obtain ⟨hA0, hA1, hB0, hB1⟩ := box_kept2 hk1
  have HK1 : Hid (Kept w w1) := (K2 _ _).trans hk1
  clear hk1
  go_wp2_with fail
  refine (right_yes n _ b _ (HB.out.1.kept HK1.out) HB.out.2).mono ?_
  rintro e w2 ⟨rfl, hk2⟩
  have hA0 := cell_kept hk2 hA0
  have hA1 := cell_kept hk2 hA1
  have hB0 := cell_kept hk2 hB0
  have hB1 := cell_kept hk2 hB1
  have HK2 : Hid (Kept w w2) := HK1.out.trans hk2
  have hkc : Kept w2 w2.drew := (Kept.refl w2).drew
  clear hk2 K2
  go_wp2_with fail
  go_region_held3 (fun w' => w'.cell? ⟨w.heap.size, 0, none⟩ = some (.bool m) ∧ w'.cell? ⟨w.heap.size, 1, none⟩ = some (.slice aoa ka capa) ∧ w'.cell? ⟨w.heap.size + 1, 0, none⟩ = some (.bool n) ∧ w'.cell? ⟨w.heap.size + 1, 1, none⟩ = some (.slice aob kb capb)) (go_keep) (first
    | (go_at_call_of 41 (Value.slice aoa ka capa); refine (Take_any m aoa ka capa a _ (HA.out.1.kept (HK2.out.trans hkc)) (by omega)).mono ?_; rintro e w3 ⟨hk3, s3, a3, k3, c3, rfl, hN3, hl3⟩; have hA0 := cell_kept hk3 (cell_kept hkc hA0); have hA1 := cell_kept hk3 (cell_kept hkc hA1); have hB0 := cell_kept hk3 (cell_kept hkc hB0); have hB1 := cell_kept hk3 (cell_kept hkc hB1))
    | (go_at_call_of 41 (Value.slice aob kb capb); refine (Take_any n aob kb capb b _ (HB.out.1.kept ((HK2.out.trans hkc).trans hk3)) (by omega)).mono ?_; rintro e w4 ⟨hk4, s4, a4, k4, c4, rfl, hN4, hl4⟩; have hA0 := cell_kept hk4 hA0; have hA1 := cell_kept hk4 hA1; have hB0 := cell_kept hk4 hB0; have hB1 := cell_kept hk4 hB1)
    | (go_at_call 49; refine (Held_any s3 s4 a3 a4 k3 k4 c3 c4 _ _ _ (hN3.kept hk4) hN4 (by omega) (by omega)).mono ?_; rintro e w5 ⟨rfl, hk5⟩; have hA0 := cell_kept hk5 hA0; have hA1 := cell_kept hk5 hA1; have hB0 := cell_kept hk5 hB0; have hB1 := cell_kept hk5 hB1))
  have HK : Hid (Kept w w5) := (((HK2.out.trans hkc).trans hk3).trans hk4).trans hk5
  clear hk3 hk4 hk5 hN3 hN4 hkc
  go_wp2
  exact bodyPost_ret (v := .tuple #[.int .i64 (isgn (M.int m a) (M.int n b)), .int .i64 0]) (by simp [results, Tryd.results17, go_sem]) rfl ⟨rfl, HK.out⟩

end D
end Go.Proofs.YtiadnlpbbibkgaaDoor
