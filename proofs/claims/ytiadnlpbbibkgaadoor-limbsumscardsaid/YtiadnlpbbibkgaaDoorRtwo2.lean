/- Two of package shuntref01: sums, differences, products. -/
import Derived.Test.YtiadnlpbbibkgaaDoorRtwo
import Derived.Deep.DeepCutAuto
namespace Go.Proofs.YtiadnlpbbibkgaaDoor
open Go.RowKit
namespace D

theorem set2_far {W : World} {p c o : Nat} {v x y : Value} (h : W.cell? ⟨c, o, none⟩ = some v) (hne : ¬ p = c) : ((W.setCell ⟨p, 0, none⟩ x).setCell ⟨p, 1, none⟩ y).cell? ⟨c, o, none⟩ = some v := by
  rw [World.cell?_setCell_far _ _ _ _ hne, World.cell?_setCell_far _ _ _ _ hne]; exact h

theorem set2_at {W : World} {p : Nat} {u v x y : Value} (h0 : W.cell? ⟨p, 0, none⟩ = some u) (h1 : W.cell? ⟨p, 1, none⟩ = some v) : ((W.setCell ⟨p, 0, none⟩ x).setCell ⟨p, 1, none⟩ y).cell? ⟨p, 0, none⟩ = some x ∧ ((W.setCell ⟨p, 0, none⟩ x).setCell ⟨p, 1, none⟩ y).cell? ⟨p, 1, none⟩ = some y :=
  ⟨by rw [World.cell?_setCell_other _ _ _ _ (by simp)]; exact World.cell?_setCell_same _ _ _ h0, World.cell?_setCell_same _ _ _ (by rw [World.cell?_setCell_other _ _ _ _ (by simp)]; exact h1)⟩

theorem NIs.box2 {w : World} {sg : Bool} {v : Value} {z : Int} {b : Nat} {q : Bool} {ao : Option Addr} {n cap : Nat} (h : NIs w sg v z) (h0 : w.cell? ⟨b, 0, none⟩ = some (.bool q)) (h1 : w.cell? ⟨b, 1, none⟩ = some (.slice ao n cap)) (x y : Value) : NIs ((w.setCell ⟨b, 0, none⟩ x).setCell ⟨b, 1, none⟩ y) sg v z := by
  obtain ⟨l, h2, h3⟩ := h
  exact ⟨l, h2.box h0 h1 x y, h3⟩

set_option maxRecDepth 100000 in
set_option maxHeartbeats 4000000 in
theorem Two_yes (op z : Int) (m n : Bool) (aoa aob : Option Addr) (ka kb capa capb : Nat) (a b : List Nat) (w : World) (ha : Go.Proofs.YtiadnlpbbibkgaaDoor.Sl w (.slice aoa ka capa) a) (hb : Go.Proofs.YtiadnlpbbibkgaaDoor.Sl w (.slice aob kb capb) b) (hra : R m a) (hrb : R n b)
    (hop : (op = 43 ∧ z = M.int m a + M.int n b) ∨ (op = 45 ∧ z = M.int m a - M.int n b) ∨ (op = 42 ∧ z = M.int m a * M.int n b)) :
    Calls Tryd.prog 16 #[.int .u8 op, .agg #[.bool m, .slice aoa ka capa], .agg #[.bool n, .slice aob kb capb]] w fun e w' => Kept w w' ∧ AnsIs w.heap.size w' e z := by
  have HA : Hid (Go.Proofs.YtiadnlpbbibkgaaDoor.Sl w (.slice aoa ka capa) a ∧ R m a) := ⟨ha, hra⟩
  have HB : Hid (Go.Proofs.YtiadnlpbbibkgaaDoor.Sl w (.slice aob kb capb) b ∧ R n b) := ⟨hb, hrb⟩
  have HOP : Hid ((op = 43 ∧ z = M.int m a + M.int n b) ∨ (op = 45 ∧ z = M.int m a - M.int n b) ∨ (op = 42 ∧ z = M.int m a * M.int n b)) := hop
  have hla : a.length ≤ 72 := hra.1
  have hlb : b.length ≤ 72 := hrb.1
  have K3 : ∀ x y z, Kept w (((w.alloc x).alloc y).alloc z) := fun x y z => (((Kept.refl w).alloc x).alloc y).alloc z
  clear ha hb hra hrb hop
  go_enter Tryd.func16, Tryd.ntmps16
  go_wp2_with fail
  refine (right_yes m _ a _ (HA.out.1.kept (K3 _ _ _)) HA.out.2).mono ?_
  rintro e w1 ⟨rfl, hk1⟩
  obtain ⟨hA0, hA1, hB0, hB1, hR0, hR1⟩ := box_kept3 hk1
  have HK1 : Hid (Kept w w1) := (K3 _ _ _).trans hk1
  have hfR : ∀ j, w1.frozen? ⟨w.heap.size + 1 + 1, j, none⟩ = false := fun j => (hk1.frozens _ _ (by simp)).trans (World.frozen?_alloc_at _ _ _ _ (by simp))
  have hz1 : w.heap.size + 1 + 1 + 1 ≤ w1.heap.size := by have := hk1.size; simpa using this
  clear hk1
  go_wp2_with fail
  refine (right_yes n _ b _ (HB.out.1.kept HK1.out) HB.out.2).mono ?_
  rintro e w2 ⟨rfl, hk2⟩
  have hA0 := cell_kept hk2 hA0
  have hA1 := cell_kept hk2 hA1
  have hB0 := cell_kept hk2 hB0
  have hB1 := cell_kept hk2 hB1
  have hR0 := cell_kept hk2 hR0
  have hR1 := cell_kept hk2 hR1
  have hfR : ∀ j, w2.frozen? ⟨w.heap.size + 1 + 1, j, none⟩ = false := fun j => by rw [hk2.frozens _ _ (by omega)]; exact hfR j
  have hz2 : w.heap.size + 1 + 1 + 1 ≤ w2.heap.size := Nat.le_trans hz1 hk2.size
  have HK2 : Hid (Kept w w2) := HK1.out.trans hk2
  clear hk2 K3
  go_upto_region 3 with fail
  go_cut [8, 9] (fun s8 s9 wc => ∃ (p8 p9 : Nat) (s3 s4 : Bool) (a3 a4 : Option Addr) (k3 k4 c3 c4 : Nat), s8 = .pointer (some ⟨p8, 0, none⟩) ∧ s9 = .pointer (some ⟨p9, 0, none⟩) ∧ wc.cell? ⟨p8, 0, none⟩ = some (.bool s3) ∧ wc.cell? ⟨p8, 1, none⟩ = some (.slice a3 k3 c3) ∧ wc.cell? ⟨p9, 0, none⟩ = some (.bool s4) ∧ wc.cell? ⟨p9, 1, none⟩ = some (.slice a4 k4 c4) ∧ k3 ≤ 200 ∧ k4 ≤ 200 ∧ Hid (Kept w2 wc ∧ NIs wc s3 (.slice a3 k3 c3) (M.int m a) ∧ NIs wc s4 (.slice a4 k4 c4) (M.int n b)))
  case first =>
    refine wp_region_held_drew (S := fun w' => w'.cell? ⟨w.heap.size, 0, none⟩ = some (.bool m) ∧ w'.cell? ⟨w.heap.size, 1, none⟩ = some (.slice aoa ka capa) ∧ w'.cell? ⟨w.heap.size + 1, 0, none⟩ = some (.bool n) ∧ w'.cell? ⟨w.heap.size + 1, 1, none⟩ = some (.slice aob kb capb)) (by kernel_rfl) ⟨hA0, hA1, hB0, hB1⟩ (fun hHeld => ?_)
    refine wpAnyH_take (i := 0) (v := ?v0) rfl (by kernel_rfl) (by kernel_rfl) (by kernel_rfl) (fun _ _ _ h => h) (Or.inl ⟨by rfl, ?y0⟩) hHeld ?r0
    case y0 =>
      intro w' hSw
      obtain ⟨hSw0, hSw1, hSw2, hSw3⟩ := hSw
      go_simp
      with_reducible rfl
    case r0 =>
    refine wpAnyH_take (i := 2) (v := ?v2) rfl (by kernel_rfl) (by kernel_rfl) (by kernel_rfl) (fun _ _ _ h => h) (Or.inl ⟨by rfl, ?y2⟩) hHeld ?r2
    case y2 =>
      intro w' hSw
      obtain ⟨hSw0, hSw1, hSw2, hSw3⟩ := hSw
      go_simp
      with_reducible rfl
    case r2 =>
    refine wpAnyH_ready (rs := [1, 4, 5]) (by kernel_rfl) (by simp) ?_
    refine AllReadyH.cons rfl (fun K hK => ?_) ?_
    · go_simp
      refine (Take_any m aoa ka capa a _ (HA.out.1.kept (HK2.out.trans (Kept.refl w2).drew)) (by omega)).mono ?_
      rintro e w3 ⟨hk3, s3, a3, k3, c3, rfl, hN3, hl3⟩
      have hs3 : w2.heap.size ≤ w3.heap.size := ((Kept.refl w2).drew.trans hk3).size
      have ht3 := hk3.size
      try simp at ht3
      refine hK.out _ _ ⟨cell_kept ((Kept.refl w2).drew.trans hk3) hA0, cell_kept ((Kept.refl w2).drew.trans hk3) hA1, cell_kept ((Kept.refl w2).drew.trans hk3) hB0, cell_kept ((Kept.refl w2).drew.trans hk3) hB1⟩ (fun hHeld => ?_)
      clear hK K
      refine wpAnyH_ready (rs := [3, 4, 5]) (by kernel_rfl) (by simp) ?_
      refine AllReadyH.cons rfl (fun K hK => ?_) ?_
      · go_simp
        refine (Take_any n aob kb capb b _ (HB.out.1.kept (HK2.out.trans ((Kept.refl w2).drew.trans hk3))) (by omega)).mono ?_
        rintro e w4 ⟨hk4, s4, a4, k4, c4, rfl, hN4, hl4⟩
        have hs4 : w2.heap.size ≤ w4.heap.size := (((Kept.refl w2).drew.trans hk3).trans hk4).size
        have ht4 := hk4.size
        try simp at ht4
        refine hK.out _ _ ⟨cell_kept (((Kept.refl w2).drew.trans hk3).trans hk4) hA0, cell_kept (((Kept.refl w2).drew.trans hk3).trans hk4) hA1, cell_kept (((Kept.refl w2).drew.trans hk3).trans hk4) hB0, cell_kept (((Kept.refl w2).drew.trans hk3).trans hk4) hB1⟩ (fun hHeld => ?_)
        clear hK K
        refine wpAnyH_ready (rs := [4, 5]) (by kernel_rfl) (by simp) ?_
        refine AllReadyH.cons rfl (fun K hK => ?_) ?_
        · go_simp
          refine hK.out _ _ ⟨cell_kept ((((Kept.refl w2).drew.trans hk3).trans hk4).alloc _) hA0, cell_kept ((((Kept.refl w2).drew.trans hk3).trans hk4).alloc _) hA1, cell_kept ((((Kept.refl w2).drew.trans hk3).trans hk4).alloc _) hB0, cell_kept ((((Kept.refl w2).drew.trans hk3).trans hk4).alloc _) hB1⟩ (fun hHeld => ?_)
          clear hK K
          refine wpAnyH_ready (rs := [5]) (by kernel_rfl) (by simp) ?_
          refine AllReadyH.cons rfl (fun K hK => ?_) AllReadyH.nil
          go_simp
          refine hK.out _ _ ⟨cell_kept (((((Kept.refl w2).drew.trans hk3).trans hk4).alloc _).alloc _) hA0, cell_kept (((((Kept.refl w2).drew.trans hk3).trans hk4).alloc _).alloc _) hA1, cell_kept (((((Kept.refl w2).drew.trans hk3).trans hk4).alloc _).alloc _) hB0, cell_kept (((((Kept.refl w2).drew.trans hk3).trans hk4).alloc _).alloc _) hB1⟩ (fun hHeld => ?_)
          clear hK K
          have hz80 : ((w4.alloc (Obj.cells #[.bool false, .slice none 0 0] 55)).alloc (Obj.cells #[.bool false, .slice none 0 0] 55)).cell? ⟨w4.heap.size, 0, none⟩ = some (.bool false) := cell_kept ((Kept.refl _).alloc _) (World.cell?_alloc_at _ _ _ _ (by simp))
          have hg80 : ((w4.alloc (Obj.cells #[.bool false, .slice none 0 0] 55)).alloc (Obj.cells #[.bool false, .slice none 0 0] 55)).frozen? ⟨w4.heap.size, 0, none⟩ = false := (((Kept.refl _).alloc _).frozens _ _ (by simp)).trans (World.frozen?_alloc_at _ _ _ _ (by simp))
          have hz81 : ((w4.alloc (Obj.cells #[.bool false, .slice none 0 0] 55)).alloc (Obj.cells #[.bool false, .slice none 0 0] 55)).cell? ⟨w4.heap.size, 1, none⟩ = some (.slice none 0 0) := cell_kept ((Kept.refl _).alloc _) (World.cell?_alloc_at _ _ _ _ (by simp))
          have hg81 : ((w4.alloc (Obj.cells #[.bool false, .slice none 0 0] 55)).alloc (Obj.cells #[.bool false, .slice none 0 0] 55)).frozen? ⟨w4.heap.size, 1, none⟩ = false := (((Kept.refl _).alloc _).frozens _ _ (by simp)).trans (World.frozen?_alloc_at _ _ _ _ (by simp))
          have hz90 : ((w4.alloc (Obj.cells #[.bool false, .slice none 0 0] 55)).alloc (Obj.cells #[.bool false, .slice none 0 0] 55)).cell? ⟨w4.heap.size + 1, 0, none⟩ = some (.bool false) := cell_kept (Kept.refl _) (World.cell?_alloc_at _ _ _ _ (by simp))
          have hg90 : ((w4.alloc (Obj.cells #[.bool false, .slice none 0 0] 55)).alloc (Obj.cells #[.bool false, .slice none 0 0] 55)).frozen? ⟨w4.heap.size + 1, 0, none⟩ = false := ((Kept.refl _).frozens _ _ (by simp)).trans (World.frozen?_alloc_at _ _ _ _ (by simp))
          have hz91 : ((w4.alloc (Obj.cells #[.bool false, .slice none 0 0] 55)).alloc (Obj.cells #[.bool false, .slice none 0 0] 55)).cell? ⟨w4.heap.size + 1, 1, none⟩ = some (.slice none 0 0) := cell_kept (Kept.refl _) (World.cell?_alloc_at _ _ _ _ (by simp))
          have hg91 : ((w4.alloc (Obj.cells #[.bool false, .slice none 0 0] 55)).alloc (Obj.cells #[.bool false, .slice none 0 0] 55)).frozen? ⟨w4.heap.size + 1, 1, none⟩ = false := ((Kept.refl _).frozens _ _ (by simp)).trans (World.frozen?_alloc_at _ _ _ _ (by simp))
          obtain ⟨p8, hp⟩ : ∃ p, p = w4.heap.size := ⟨_, rfl⟩
          obtain ⟨p9, hq⟩ : ∃ p, p = w4.heap.size + 1 := ⟨_, rfl⟩
          have hp8 : w2.heap.size ≤ p8 := by omega
          have hp9 : w2.heap.size ≤ p9 := by omega
          have hne : ¬ (p8 = p9) := by omega
          have hne' : ¬ (p9 = p8) := by omega
          rw [← hq] at hz90 hz91 hg90 hg91 ⊢
          rw [← hp] at hz80 hz81 hg80 hg81 ⊢
          clear hp hq
          have hKT : Kept w2 ((w4.alloc (Obj.cells #[.bool false, .slice none 0 0] 55)).alloc (Obj.cells #[.bool false, .slice none 0 0] 55)) := (((((Kept.refl w2).drew.trans hk3).trans hk4).alloc _).alloc _)
          have ghA0 := cell_kept hKT hA0
          have ghA1 := cell_kept hKT hA1
          have ghB0 := cell_kept hKT hB0
          have ghB1 := cell_kept hKT hB1
          have HN : Hid (NIs ((w4.alloc (Obj.cells #[.bool false, .slice none 0 0] 55)).alloc (Obj.cells #[.bool false, .slice none 0 0] 55)) s3 (.slice a3 k3 c3) (M.int m a) ∧ NIs ((w4.alloc (Obj.cells #[.bool false, .slice none 0 0] 55)).alloc (Obj.cells #[.bool false, .slice none 0 0] 55)) s4 (.slice a4 k4 c4) (M.int n b) ∧ Kept w2 ((w4.alloc (Obj.cells #[.bool false, .slice none 0 0] 55)).alloc (Obj.cells #[.bool false, .slice none 0 0] 55))) := ⟨hN3.kept ((((Kept.refl _).trans hk4).alloc _).alloc _), hN4.kept (((Kept.refl _).alloc _).alloc _), hKT⟩
          clear hN3 hN4 hk3 hk4 hHeld hKT
          generalize ((w4.alloc (Obj.cells #[.bool false, .slice none 0 0] 55)).alloc (Obj.cells #[.bool false, .slice none 0 0] 55)) = Wx at ghA0 ghA1 ghB0 ghB1 hz80 hz81 hz90 hz91 hg80 hg81 hg90 hg91 HN ⊢
          refine wpAnyH_ready (rs := [6]) (by kernel_rfl) (by simp) ?_
          refine AllReadyH.cons rfl (fun K hK => ?_) AllReadyH.nil
          go_simp
          refine hK.out _ _ ⟨set2_far (p := p8) ghA0 (by omega), set2_far (p := p8) ghA1 (by omega), set2_far (p := p8) ghB0 (by omega), set2_far (p := p8) ghB1 (by omega)⟩ (fun hHeld => ?_)
          clear hK K
          refine wpAnyH_ready (rs := [7]) (by kernel_rfl) (by simp) ?_
          refine AllReadyH.cons rfl (fun K hK => ?_) AllReadyH.nil
          go_simp
          refine hK.out _ _ ⟨set2_far (p := p9) (set2_far (p := p8) ghA0 (by omega)) (by omega), set2_far (p := p9) (set2_far (p := p8) ghA1 (by omega)) (by omega), set2_far (p := p9) (set2_far (p := p8) ghB0 (by omega)) (by omega), set2_far (p := p9) (set2_far (p := p8) ghB1 (by omega)) (by omega)⟩ (fun hHeld => ?_)
          clear hK K
          refine wpAnyH_done (by kernel_rfl) ?_ _
          go_wp2_with fail
          go_meet
          case rel =>
            have e8 := set2_at (x := .bool s3) (y := .slice a3 k3 c3) hz80 hz81
            have z90 := set2_far (x := .bool s3) (y := .slice a3 k3 c3) hz90 hne
            have z91 := set2_far (x := .bool s3) (y := .slice a3 k3 c3) hz91 hne
            have e9 := set2_at (x := .bool s4) (y := .slice a4 k4 c4) z90 z91
            exact ⟨p8, p9, s3, s4, a3, a4, k3, k4, c3, c4, rfl, rfl, set2_far e8.1 hne', set2_far e8.2 hne', e9.1, e9.2, by omega, by omega, (((HN.out.2.2.setCell hp8 _).setCell hp8 _).setCell hp9 _).setCell hp9 _, (HN.out.1.box2 hz80 hz81 _ _).box2 z90 z91 _ _, (HN.out.2.1.box2 hz80 hz81 _ _).box2 z90 z91 _ _⟩
        refine AllReadyH.cons rfl (fun K hK => ?_) AllReadyH.nil
        go_simp
        refine hK.out _ _ ⟨cell_kept ((((Kept.refl w2).drew.trans hk3).trans hk4).alloc _) hA0, cell_kept ((((Kept.refl w2).drew.trans hk3).trans hk4).alloc _) hA1, cell_kept ((((Kept.refl w2).drew.trans hk3).trans hk4).alloc _) hB0, cell_kept ((((Kept.refl w2).drew.trans hk3).trans hk4).alloc _) hB1⟩ (fun hHeld => ?_)
        clear hK K
        refine wpAnyH_ready (rs := [4]) (by kernel_rfl) (by simp) ?_
        refine AllReadyH.cons rfl (fun K hK => ?_) AllReadyH.nil
        go_simp
        refine hK.out _ _ ⟨cell_kept (((((Kept.refl w2).drew.trans hk3).trans hk4).alloc _).alloc _) hA0, cell_kept (((((Kept.refl w2).drew.trans hk3).trans hk4).alloc _).alloc _) hA1, cell_kept (((((Kept.refl w2).drew.trans hk3).trans hk4).alloc _).alloc _) hB0, cell_kept (((((Kept.refl w2).drew.trans hk3).trans hk4).alloc _).alloc _) hB1⟩ (fun hHeld => ?_)
        clear hK K
        have hz80 : ((w4.alloc (Obj.cells #[.bool false, .slice none 0 0] 55)).alloc (Obj.cells #[.bool false, .slice none 0 0] 55)).cell? ⟨w4.heap.size + 1, 0, none⟩ = some (.bool false) := cell_kept (Kept.refl _) (World.cell?_alloc_at _ _ _ _ (by simp))
        have hg80 : ((w4.alloc (Obj.cells #[.bool false, .slice none 0 0] 55)).alloc (Obj.cells #[.bool false, .slice none 0 0] 55)).frozen? ⟨w4.heap.size + 1, 0, none⟩ = false := ((Kept.refl _).frozens _ _ (by simp)).trans (World.frozen?_alloc_at _ _ _ _ (by simp))
        have hz81 : ((w4.alloc (Obj.cells #[.bool false, .slice none 0 0] 55)).alloc (Obj.cells #[.bool false, .slice none 0 0] 55)).cell? ⟨w4.heap.size + 1, 1, none⟩ = some (.slice none 0 0) := cell_kept (Kept.refl _) (World.cell?_alloc_at _ _ _ _ (by simp))
        have hg81 : ((w4.alloc (Obj.cells #[.bool false, .slice none 0 0] 55)).alloc (Obj.cells #[.bool false, .slice none 0 0] 55)).frozen? ⟨w4.heap.size + 1, 1, none⟩ = false := ((Kept.refl _).frozens _ _ (by simp)).trans (World.frozen?_alloc_at _ _ _ _ (by simp))
        have hz90 : ((w4.alloc (Obj.cells #[.bool false, .slice none 0 0] 55)).alloc (Obj.cells #[.bool false, .slice none 0 0] 55)).cell? ⟨w4.heap.size, 0, none⟩ = some (.bool false) := cell_kept ((Kept.refl _).alloc _) (World.cell?_alloc_at _ _ _ _ (by simp))
        have hg90 : ((w4.alloc (Obj.cells #[.bool false, .slice none 0 0] 55)).alloc (Obj.cells #[.bool false, .slice none 0 0] 55)).frozen? ⟨w4.heap.size, 0, none⟩ = false := (((Kept.refl _).alloc _).frozens _ _ (by simp)).trans (World.frozen?_alloc_at _ _ _ _ (by simp))
        have hz91 : ((w4.alloc (Obj.cells #[.bool false, .slice none 0 0] 55)).alloc (Obj.cells #[.bool false, .slice none 0 0] 55)).cell? ⟨w4.heap.size, 1, none⟩ = some (.slice none 0 0) := cell_kept ((Kept.refl _).alloc _) (World.cell?_alloc_at _ _ _ _ (by simp))
        have hg91 : ((w4.alloc (Obj.cells #[.bool false, .slice none 0 0] 55)).alloc (Obj.cells #[.bool false, .slice none 0 0] 55)).frozen? ⟨w4.heap.size, 1, none⟩ = false := (((Kept.refl _).alloc _).frozens _ _ (by simp)).trans (World.frozen?_alloc_at _ _ _ _ (by simp))
        obtain ⟨p8, hp⟩ : ∃ p, p = w4.heap.size + 1 := ⟨_, rfl⟩
        obtain ⟨p9, hq⟩ : ∃ p, p = w4.heap.size := ⟨_, rfl⟩
        have hp8 : w2.heap.size ≤ p8 := by omega
        have hp9 : w2.heap.size ≤ p9 := by omega
        have hne : ¬ (p8 = p9) := by omega
        have hne' : ¬ (p9 = p8) := by omega
        rw [← hp] at hz80 hz81 hg80 hg81 ⊢
        rw [← hq] at hz90 hz91 hg90 hg91 ⊢
        clear hp hq
        have hKT : Kept w2 ((w4.alloc (Obj.cells #[.bool false, .slice none 0 0] 55)).alloc (Obj.cells #[.bool false, .slice none 0 0] 55)) := (((((Kept.refl w2).drew.trans hk3).trans hk4).alloc _).alloc _)
        have ghA0 := cell_kept hKT hA0
        have ghA1 := cell_kept hKT hA1
        have ghB0 := cell_kept hKT hB0
        have ghB1 := cell_kept hKT hB1
        have HN : Hid (NIs ((w4.alloc (Obj.cells #[.bool false, .slice none 0 0] 55)).alloc (Obj.cells #[.bool false, .slice none 0 0] 55)) s3 (.slice a3 k3 c3) (M.int m a) ∧ NIs ((w4.alloc (Obj.cells #[.bool false, .slice none 0 0] 55)).alloc (Obj.cells #[.bool false, .slice none 0 0] 55)) s4 (.slice a4 k4 c4) (M.int n b) ∧ Kept w2 ((w4.alloc (Obj.cells #[.bool false, .slice none 0 0] 55)).alloc (Obj.cells #[.bool false, .slice none 0 0] 55))) := ⟨hN3.kept ((((Kept.refl _).trans hk4).alloc _).alloc _), hN4.kept (((Kept.refl _).alloc _).alloc _), hKT⟩
        clear hN3 hN4 hk3 hk4 hHeld hKT
        generalize ((w4.alloc (Obj.cells #[.bool false, .slice none 0 0] 55)).alloc (Obj.cells #[.bool false, .slice none 0 0] 55)) = Wx at ghA0 ghA1 ghB0 ghB1 hz80 hz81 hz90 hz91 hg80 hg81 hg90 hg91 HN ⊢
        refine wpAnyH_ready (rs := [6]) (by kernel_rfl) (by simp) ?_
        refine AllReadyH.cons rfl (fun K hK => ?_) AllReadyH.nil
        go_simp
        refine hK.out _ _ ⟨set2_far (p := p8) ghA0 (by omega), set2_far (p := p8) ghA1 (by omega), set2_far (p := p8) ghB0 (by omega), set2_far (p := p8) ghB1 (by omega)⟩ (fun hHeld => ?_)
        clear hK K
        refine wpAnyH_ready (rs := [7]) (by kernel_rfl) (by simp) ?_
        refine AllReadyH.cons rfl (fun K hK => ?_) AllReadyH.nil
        go_simp
        refine hK.out _ _ ⟨set2_far (p := p9) (set2_far (p := p8) ghA0 (by omega)) (by omega), set2_far (p := p9) (set2_far (p := p8) ghA1 (by omega)) (by omega), set2_far (p := p9) (set2_far (p := p8) ghB0 (by omega)) (by omega), set2_far (p := p9) (set2_far (p := p8) ghB1 (by omega)) (by omega)⟩ (fun hHeld => ?_)
        clear hK K
        refine wpAnyH_done (by kernel_rfl) ?_ _
        go_wp2_with fail
        go_meet
        case rel =>
          have e8 := set2_at (x := .bool s3) (y := .slice a3 k3 c3) hz80 hz81
          have z90 := set2_far (x := .bool s3) (y := .slice a3 k3 c3) hz90 hne
          have z91 := set2_far (x := .bool s3) (y := .slice a3 k3 c3) hz91 hne
          have e9 := set2_at (x := .bool s4) (y := .slice a4 k4 c4) z90 z91
          exact ⟨p8, p9, s3, s4, a3, a4, k3, k4, c3, c4, rfl, rfl, set2_far e8.1 hne', set2_far e8.2 hne', e9.1, e9.2, by omega, by omega, (((HN.out.2.2.setCell hp8 _).setCell hp8 _).setCell hp9 _).setCell hp9 _, (HN.out.1.box2 hz80 hz81 _ _).box2 z90 z91 _ _, (HN.out.2.1.box2 hz80 hz81 _ _).box2 z90 z91 _ _⟩
      refine AllReadyH.cons rfl (fun K hK => ?_) ?_
      · go_simp
        refine hK.out _ _ ⟨cell_kept (((Kept.refl w2).drew.trans hk3).alloc _) hA0, cell_kept (((Kept.refl w2).drew.trans hk3).alloc _) hA1, cell_kept (((Kept.refl w2).drew.trans hk3).alloc _) hB0, cell_kept (((Kept.refl w2).drew.trans hk3).alloc _) hB1⟩ (fun hHeld => ?_)
        clear hK K
        refine wpAnyH_ready (rs := [3, 5]) (by kernel_rfl) (by simp) ?_
        refine AllReadyH.cons rfl (fun K hK => ?_) ?_
        · go_simp
          refine (Take_any n aob kb capb b _ (HB.out.1.kept (HK2.out.trans (((Kept.refl w2).drew.trans hk3).alloc _))) (by omega)).mono ?_
          rintro e w4 ⟨hk4, s4, a4, k4, c4, rfl, hN4, hl4⟩
          have hs4 : w2.heap.size ≤ w4.heap.size := ((((Kept.refl w2).drew.trans hk3).alloc _).trans hk4).size
          have ht4 := hk4.size
          try simp at ht4
          refine hK.out _ _ ⟨cell_kept ((((Kept.refl w2).drew.trans hk3).alloc _).trans hk4) hA0, cell_kept ((((Kept.refl w2).drew.trans hk3).alloc _).trans hk4) hA1, cell_kept ((((Kept.refl w2).drew.trans hk3).alloc _).trans hk4) hB0, cell_kept ((((Kept.refl w2).drew.trans hk3).alloc _).trans hk4) hB1⟩ (fun hHeld => ?_)
          clear hK K
          refine wpAnyH_ready (rs := [5]) (by kernel_rfl) (by simp) ?_
          refine AllReadyH.cons rfl (fun K hK => ?_) AllReadyH.nil
          go_simp
          refine hK.out _ _ ⟨cell_kept (((((Kept.refl w2).drew.trans hk3).alloc _).trans hk4).alloc _) hA0, cell_kept (((((Kept.refl w2).drew.trans hk3).alloc _).trans hk4).alloc _) hA1, cell_kept (((((Kept.refl w2).drew.trans hk3).alloc _).trans hk4).alloc _) hB0, cell_kept (((((Kept.refl w2).drew.trans hk3).alloc _).trans hk4).alloc _) hB1⟩ (fun hHeld => ?_)
          clear hK K
          have hz80 : (w4.alloc (Obj.cells #[.bool false, .slice none 0 0] 55)).cell? ⟨w3.heap.size, 0, none⟩ = some (.bool false) := cell_kept (((Kept.refl _).trans hk4).alloc _) (World.cell?_alloc_at _ _ _ _ (by simp))
          have hg80 : (w4.alloc (Obj.cells #[.bool false, .slice none 0 0] 55)).frozen? ⟨w3.heap.size, 0, none⟩ = false := ((((Kept.refl _).trans hk4).alloc _).frozens _ _ (by simp)).trans (World.frozen?_alloc_at _ _ _ _ (by simp))
          have hz81 : (w4.alloc (Obj.cells #[.bool false, .slice none 0 0] 55)).cell? ⟨w3.heap.size, 1, none⟩ = some (.slice none 0 0) := cell_kept (((Kept.refl _).trans hk4).alloc _) (World.cell?_alloc_at _ _ _ _ (by simp))
          have hg81 : (w4.alloc (Obj.cells #[.bool false, .slice none 0 0] 55)).frozen? ⟨w3.heap.size, 1, none⟩ = false := ((((Kept.refl _).trans hk4).alloc _).frozens _ _ (by simp)).trans (World.frozen?_alloc_at _ _ _ _ (by simp))
          have hz90 : (w4.alloc (Obj.cells #[.bool false, .slice none 0 0] 55)).cell? ⟨w4.heap.size, 0, none⟩ = some (.bool false) := cell_kept (Kept.refl _) (World.cell?_alloc_at _ _ _ _ (by simp))
          have hg90 : (w4.alloc (Obj.cells #[.bool false, .slice none 0 0] 55)).frozen? ⟨w4.heap.size, 0, none⟩ = false := ((Kept.refl _).frozens _ _ (by simp)).trans (World.frozen?_alloc_at _ _ _ _ (by simp))
          have hz91 : (w4.alloc (Obj.cells #[.bool false, .slice none 0 0] 55)).cell? ⟨w4.heap.size, 1, none⟩ = some (.slice none 0 0) := cell_kept (Kept.refl _) (World.cell?_alloc_at _ _ _ _ (by simp))
          have hg91 : (w4.alloc (Obj.cells #[.bool false, .slice none 0 0] 55)).frozen? ⟨w4.heap.size, 1, none⟩ = false := ((Kept.refl _).frozens _ _ (by simp)).trans (World.frozen?_alloc_at _ _ _ _ (by simp))
          obtain ⟨p8, hp⟩ : ∃ p, p = w3.heap.size := ⟨_, rfl⟩
          obtain ⟨p9, hq⟩ : ∃ p, p = w4.heap.size := ⟨_, rfl⟩
          have hp8 : w2.heap.size ≤ p8 := by omega
          have hp9 : w2.heap.size ≤ p9 := by omega
          have hne : ¬ (p8 = p9) := by omega
          have hne' : ¬ (p9 = p8) := by omega
          rw [← hp] at hz80 hz81 hg80 hg81 ⊢
          rw [← hq] at hz90 hz91 hg90 hg91 ⊢
          clear hp hq
          have hKT : Kept w2 (w4.alloc (Obj.cells #[.bool false, .slice none 0 0] 55)) := (((((Kept.refl w2).drew.trans hk3).alloc _).trans hk4).alloc _)
          have ghA0 := cell_kept hKT hA0
          have ghA1 := cell_kept hKT hA1
          have ghB0 := cell_kept hKT hB0
          have ghB1 := cell_kept hKT hB1
          have HN : Hid (NIs (w4.alloc (Obj.cells #[.bool false, .slice none 0 0] 55)) s3 (.slice a3 k3 c3) (M.int m a) ∧ NIs (w4.alloc (Obj.cells #[.bool false, .slice none 0 0] 55)) s4 (.slice a4 k4 c4) (M.int n b) ∧ Kept w2 (w4.alloc (Obj.cells #[.bool false, .slice none 0 0] 55))) := ⟨hN3.kept ((((Kept.refl _).alloc _).trans hk4).alloc _), hN4.kept ((Kept.refl _).alloc _), hKT⟩
          clear hN3 hN4 hk3 hk4 hHeld hKT
          generalize (w4.alloc (Obj.cells #[.bool false, .slice none 0 0] 55)) = Wx at ghA0 ghA1 ghB0 ghB1 hz80 hz81 hz90 hz91 hg80 hg81 hg90 hg91 HN ⊢
          refine wpAnyH_ready (rs := [6]) (by kernel_rfl) (by simp) ?_
          refine AllReadyH.cons rfl (fun K hK => ?_) AllReadyH.nil
          go_simp
          refine hK.out _ _ ⟨set2_far (p := p8) ghA0 (by omega), set2_far (p := p8) ghA1 (by omega), set2_far (p := p8) ghB0 (by omega), set2_far (p := p8) ghB1 (by omega)⟩ (fun hHeld => ?_)
          clear hK K
          refine wpAnyH_ready (rs := [7]) (by kernel_rfl) (by simp) ?_
          refine AllReadyH.cons rfl (fun K hK => ?_) AllReadyH.nil
          go_simp
          refine hK.out _ _ ⟨set2_far (p := p9) (set2_far (p := p8) ghA0 (by omega)) (by omega), set2_far (p := p9) (set2_far (p := p8) ghA1 (by omega)) (by omega), set2_far (p := p9) (set2_far (p := p8) ghB0 (by omega)) (by omega), set2_far (p := p9) (set2_far (p := p8) ghB1 (by omega)) (by omega)⟩ (fun hHeld => ?_)
          clear hK K
          refine wpAnyH_done (by kernel_rfl) ?_ _
          go_wp2_with fail
          go_meet
          case rel =>
            have e8 := set2_at (x := .bool s3) (y := .slice a3 k3 c3) hz80 hz81
            have z90 := set2_far (x := .bool s3) (y := .slice a3 k3 c3) hz90 hne
            have z91 := set2_far (x := .bool s3) (y := .slice a3 k3 c3) hz91 hne
            have e9 := set2_at (x := .bool s4) (y := .slice a4 k4 c4) z90 z91
            exact ⟨p8, p9, s3, s4, a3, a4, k3, k4, c3, c4, rfl, rfl, set2_far e8.1 hne', set2_far e8.2 hne', e9.1, e9.2, by omega, by omega, (((HN.out.2.2.setCell hp8 _).setCell hp8 _).setCell hp9 _).setCell hp9 _, (HN.out.1.box2 hz80 hz81 _ _).box2 z90 z91 _ _, (HN.out.2.1.box2 hz80 hz81 _ _).box2 z90 z91 _ _⟩
        refine AllReadyH.cons rfl (fun K hK => ?_) AllReadyH.nil
        go_simp
        refine hK.out _ _ ⟨cell_kept ((((Kept.refl w2).drew.trans hk3).alloc _).alloc _) hA0, cell_kept ((((Kept.refl w2).drew.trans hk3).alloc _).alloc _) hA1, cell_kept ((((Kept.refl w2).drew.trans hk3).alloc _).alloc _) hB0, cell_kept ((((Kept.refl w2).drew.trans hk3).alloc _).alloc _) hB1⟩ (fun hHeld => ?_)
        clear hK K
        refine wpAnyH_ready (rs := [3]) (by kernel_rfl) (by simp) ?_
        refine AllReadyH.cons rfl (fun K hK => ?_) AllReadyH.nil
        go_simp
        refine (Take_any n aob kb capb b _ (HB.out.1.kept (HK2.out.trans ((((Kept.refl w2).drew.trans hk3).alloc _).alloc _))) (by omega)).mono ?_
        rintro e w4 ⟨hk4, s4, a4, k4, c4, rfl, hN4, hl4⟩
        have hs4 : w2.heap.size ≤ w4.heap.size := (((((Kept.refl w2).drew.trans hk3).alloc _).alloc _).trans hk4).size
        have ht4 := hk4.size
        try simp at ht4
        refine hK.out _ _ ⟨cell_kept (((((Kept.refl w2).drew.trans hk3).alloc _).alloc _).trans hk4) hA0, cell_kept (((((Kept.refl w2).drew.trans hk3).alloc _).alloc _).trans hk4) hA1, cell_kept (((((Kept.refl w2).drew.trans hk3).alloc _).alloc _).trans hk4) hB0, cell_kept (((((Kept.refl w2).drew.trans hk3).alloc _).alloc _).trans hk4) hB1⟩ (fun hHeld => ?_)
        clear hK K
        have hz80 : w4.cell? ⟨w3.heap.size, 0, none⟩ = some (.bool false) := cell_kept (((Kept.refl _).alloc _).trans hk4) (World.cell?_alloc_at _ _ _ _ (by simp))
        have hg80 : w4.frozen? ⟨w3.heap.size, 0, none⟩ = false := ((((Kept.refl _).alloc _).trans hk4).frozens _ _ (by simp)).trans (World.frozen?_alloc_at _ _ _ _ (by simp))
        have hz81 : w4.cell? ⟨w3.heap.size, 1, none⟩ = some (.slice none 0 0) := cell_kept (((Kept.refl _).alloc _).trans hk4) (World.cell?_alloc_at _ _ _ _ (by simp))
        have hg81 : w4.frozen? ⟨w3.heap.size, 1, none⟩ = false := ((((Kept.refl _).alloc _).trans hk4).frozens _ _ (by simp)).trans (World.frozen?_alloc_at _ _ _ _ (by simp))
        have hz90 : w4.cell? ⟨w3.heap.size + 1, 0, none⟩ = some (.bool false) := cell_kept ((Kept.refl _).trans hk4) (World.cell?_alloc_at _ _ _ _ (by simp))
        have hg90 : w4.frozen? ⟨w3.heap.size + 1, 0, none⟩ = false := (((Kept.refl _).trans hk4).frozens _ _ (by simp)).trans (World.frozen?_alloc_at _ _ _ _ (by simp))
        have hz91 : w4.cell? ⟨w3.heap.size + 1, 1, none⟩ = some (.slice none 0 0) := cell_kept ((Kept.refl _).trans hk4) (World.cell?_alloc_at _ _ _ _ (by simp))
        have hg91 : w4.frozen? ⟨w3.heap.size + 1, 1, none⟩ = false := (((Kept.refl _).trans hk4).frozens _ _ (by simp)).trans (World.frozen?_alloc_at _ _ _ _ (by simp))
        obtain ⟨p8, hp⟩ : ∃ p, p = w3.heap.size := ⟨_, rfl⟩
        obtain ⟨p9, hq⟩ : ∃ p, p = w3.heap.size + 1 := ⟨_, rfl⟩
        have hp8 : w2.heap.size ≤ p8 := by omega
        have hp9 : w2.heap.size ≤ p9 := by omega
        have hne : ¬ (p8 = p9) := by omega
        have hne' : ¬ (p9 = p8) := by omega
        rw [← hq] at hz90 hz91 hg90 hg91 ⊢
        rw [← hp] at hz80 hz81 hg80 hg81 ⊢
        clear hp hq
        have hKT : Kept w2 w4 := (((((Kept.refl w2).drew.trans hk3).alloc _).alloc _).trans hk4)
        have ghA0 := cell_kept hKT hA0
        have ghA1 := cell_kept hKT hA1
        have ghB0 := cell_kept hKT hB0
        have ghB1 := cell_kept hKT hB1
        have HN : Hid (NIs w4 s3 (.slice a3 k3 c3) (M.int m a) ∧ NIs w4 s4 (.slice a4 k4 c4) (M.int n b) ∧ Kept w2 w4) := ⟨hN3.kept ((((Kept.refl _).alloc _).alloc _).trans hk4), hN4.kept (Kept.refl _), hKT⟩
        clear hN3 hN4 hk3 hk4 hHeld hKT
        generalize w4 = Wx at ghA0 ghA1 ghB0 ghB1 hz80 hz81 hz90 hz91 hg80 hg81 hg90 hg91 HN ⊢
        refine wpAnyH_ready (rs := [6]) (by kernel_rfl) (by simp) ?_
        refine AllReadyH.cons rfl (fun K hK => ?_) AllReadyH.nil
        go_simp
        refine hK.out _ _ ⟨set2_far (p := p8) ghA0 (by omega), set2_far (p := p8) ghA1 (by omega), set2_far (p := p8) ghB0 (by omega), set2_far (p := p8) ghB1 (by omega)⟩ (fun hHeld => ?_)
        clear hK K
        refine wpAnyH_ready (rs := [7]) (by kernel_rfl) (by simp) ?_
        refine AllReadyH.cons rfl (fun K hK => ?_) AllReadyH.nil
        go_simp
        refine hK.out _ _ ⟨set2_far (p := p9) (set2_far (p := p8) ghA0 (by omega)) (by omega), set2_far (p := p9) (set2_far (p := p8) ghA1 (by omega)) (by omega), set2_far (p := p9) (set2_far (p := p8) ghB0 (by omega)) (by omega), set2_far (p := p9) (set2_far (p := p8) ghB1 (by omega)) (by omega)⟩ (fun hHeld => ?_)
        clear hK K
        refine wpAnyH_done (by kernel_rfl) ?_ _
        go_wp2_with fail
        go_meet
        case rel =>
          have e8 := set2_at (x := .bool s3) (y := .slice a3 k3 c3) hz80 hz81
          have z90 := set2_far (x := .bool s3) (y := .slice a3 k3 c3) hz90 hne
          have z91 := set2_far (x := .bool s3) (y := .slice a3 k3 c3) hz91 hne
          have e9 := set2_at (x := .bool s4) (y := .slice a4 k4 c4) z90 z91
          exact ⟨p8, p9, s3, s4, a3, a4, k3, k4, c3, c4, rfl, rfl, set2_far e8.1 hne', set2_far e8.2 hne', e9.1, e9.2, by omega, by omega, (((HN.out.2.2.setCell hp8 _).setCell hp8 _).setCell hp9 _).setCell hp9 _, (HN.out.1.box2 hz80 hz81 _ _).box2 z90 z91 _ _, (HN.out.2.1.box2 hz80 hz81 _ _).box2 z90 z91 _ _⟩
      refine AllReadyH.cons rfl (fun K hK => ?_) AllReadyH.nil
      go_simp
      refine hK.out _ _ ⟨cell_kept (((Kept.refl w2).drew.trans hk3).alloc _) hA0, cell_kept (((Kept.refl w2).drew.trans hk3).alloc _) hA1, cell_kept (((Kept.refl w2).drew.trans hk3).alloc _) hB0, cell_kept (((Kept.refl w2).drew.trans hk3).alloc _) hB1⟩ (fun hHeld => ?_)
      clear hK K
      refine wpAnyH_ready (rs := [3, 4]) (by kernel_rfl) (by simp) ?_
      refine AllReadyH.cons rfl (fun K hK => ?_) ?_
      · go_simp
        refine (Take_any n aob kb capb b _ (HB.out.1.kept (HK2.out.trans (((Kept.refl w2).drew.trans hk3).alloc _))) (by omega)).mono ?_
        rintro e w4 ⟨hk4, s4, a4, k4, c4, rfl, hN4, hl4⟩
        have hs4 : w2.heap.size ≤ w4.heap.size := ((((Kept.refl w2).drew.trans hk3).alloc _).trans hk4).size
        have ht4 := hk4.size
        try simp at ht4
        refine hK.out _ _ ⟨cell_kept ((((Kept.refl w2).drew.trans hk3).alloc _).trans hk4) hA0, cell_kept ((((Kept.refl w2).drew.trans hk3).alloc _).trans hk4) hA1, cell_kept ((((Kept.refl w2).drew.trans hk3).alloc _).trans hk4) hB0, cell_kept ((((Kept.refl w2).drew.trans hk3).alloc _).trans hk4) hB1⟩ (fun hHeld => ?_)
        clear hK K
        refine wpAnyH_ready (rs := [4]) (by kernel_rfl) (by simp) ?_
        refine AllReadyH.cons rfl (fun K hK => ?_) AllReadyH.nil
        go_simp
        refine hK.out _ _ ⟨cell_kept (((((Kept.refl w2).drew.trans hk3).alloc _).trans hk4).alloc _) hA0, cell_kept (((((Kept.refl w2).drew.trans hk3).alloc _).trans hk4).alloc _) hA1, cell_kept (((((Kept.refl w2).drew.trans hk3).alloc _).trans hk4).alloc _) hB0, cell_kept (((((Kept.refl w2).drew.trans hk3).alloc _).trans hk4).alloc _) hB1⟩ (fun hHeld => ?_)
        clear hK K
        have hz80 : (w4.alloc (Obj.cells #[.bool false, .slice none 0 0] 55)).cell? ⟨w4.heap.size, 0, none⟩ = some (.bool false) := cell_kept (Kept.refl _) (World.cell?_alloc_at _ _ _ _ (by simp))
        have hg80 : (w4.alloc (Obj.cells #[.bool false, .slice none 0 0] 55)).frozen? ⟨w4.heap.size, 0, none⟩ = false := ((Kept.refl _).frozens _ _ (by simp)).trans (World.frozen?_alloc_at _ _ _ _ (by simp))
        have hz81 : (w4.alloc (Obj.cells #[.bool false, .slice none 0 0] 55)).cell? ⟨w4.heap.size, 1, none⟩ = some (.slice none 0 0) := cell_kept (Kept.refl _) (World.cell?_alloc_at _ _ _ _ (by simp))
        have hg81 : (w4.alloc (Obj.cells #[.bool false, .slice none 0 0] 55)).frozen? ⟨w4.heap.size, 1, none⟩ = false := ((Kept.refl _).frozens _ _ (by simp)).trans (World.frozen?_alloc_at _ _ _ _ (by simp))
        have hz90 : (w4.alloc (Obj.cells #[.bool false, .slice none 0 0] 55)).cell? ⟨w3.heap.size, 0, none⟩ = some (.bool false) := cell_kept (((Kept.refl _).trans hk4).alloc _) (World.cell?_alloc_at _ _ _ _ (by simp))
        have hg90 : (w4.alloc (Obj.cells #[.bool false, .slice none 0 0] 55)).frozen? ⟨w3.heap.size, 0, none⟩ = false := ((((Kept.refl _).trans hk4).alloc _).frozens _ _ (by simp)).trans (World.frozen?_alloc_at _ _ _ _ (by simp))
        have hz91 : (w4.alloc (Obj.cells #[.bool false, .slice none 0 0] 55)).cell? ⟨w3.heap.size, 1, none⟩ = some (.slice none 0 0) := cell_kept (((Kept.refl _).trans hk4).alloc _) (World.cell?_alloc_at _ _ _ _ (by simp))
        have hg91 : (w4.alloc (Obj.cells #[.bool false, .slice none 0 0] 55)).frozen? ⟨w3.heap.size, 1, none⟩ = false := ((((Kept.refl _).trans hk4).alloc _).frozens _ _ (by simp)).trans (World.frozen?_alloc_at _ _ _ _ (by simp))
        obtain ⟨p8, hp⟩ : ∃ p, p = w4.heap.size := ⟨_, rfl⟩
        obtain ⟨p9, hq⟩ : ∃ p, p = w3.heap.size := ⟨_, rfl⟩
        have hp8 : w2.heap.size ≤ p8 := by omega
        have hp9 : w2.heap.size ≤ p9 := by omega
        have hne : ¬ (p8 = p9) := by omega
        have hne' : ¬ (p9 = p8) := by omega
        rw [← hp] at hz80 hz81 hg80 hg81 ⊢
        rw [← hq] at hz90 hz91 hg90 hg91 ⊢
        clear hp hq
        have hKT : Kept w2 (w4.alloc (Obj.cells #[.bool false, .slice none 0 0] 55)) := (((((Kept.refl w2).drew.trans hk3).alloc _).trans hk4).alloc _)
        have ghA0 := cell_kept hKT hA0
        have ghA1 := cell_kept hKT hA1
        have ghB0 := cell_kept hKT hB0
        have ghB1 := cell_kept hKT hB1
        have HN : Hid (NIs (w4.alloc (Obj.cells #[.bool false, .slice none 0 0] 55)) s3 (.slice a3 k3 c3) (M.int m a) ∧ NIs (w4.alloc (Obj.cells #[.bool false, .slice none 0 0] 55)) s4 (.slice a4 k4 c4) (M.int n b) ∧ Kept w2 (w4.alloc (Obj.cells #[.bool false, .slice none 0 0] 55))) := ⟨hN3.kept ((((Kept.refl _).alloc _).trans hk4).alloc _), hN4.kept ((Kept.refl _).alloc _), hKT⟩
        clear hN3 hN4 hk3 hk4 hHeld hKT
        generalize (w4.alloc (Obj.cells #[.bool false, .slice none 0 0] 55)) = Wx at ghA0 ghA1 ghB0 ghB1 hz80 hz81 hz90 hz91 hg80 hg81 hg90 hg91 HN ⊢
        refine wpAnyH_ready (rs := [6]) (by kernel_rfl) (by simp) ?_
        refine AllReadyH.cons rfl (fun K hK => ?_) AllReadyH.nil
        go_simp
        refine hK.out _ _ ⟨set2_far (p := p8) ghA0 (by omega), set2_far (p := p8) ghA1 (by omega), set2_far (p := p8) ghB0 (by omega), set2_far (p := p8) ghB1 (by omega)⟩ (fun hHeld => ?_)
        clear hK K
        refine wpAnyH_ready (rs := [7]) (by kernel_rfl) (by simp) ?_
        refine AllReadyH.cons rfl (fun K hK => ?_) AllReadyH.nil
        go_simp
        refine hK.out _ _ ⟨set2_far (p := p9) (set2_far (p := p8) ghA0 (by omega)) (by omega), set2_far (p := p9) (set2_far (p := p8) ghA1 (by omega)) (by omega), set2_far (p := p9) (set2_far (p := p8) ghB0 (by omega)) (by omega), set2_far (p := p9) (set2_far (p := p8) ghB1 (by omega)) (by omega)⟩ (fun hHeld => ?_)
        clear hK K
        refine wpAnyH_done (by kernel_rfl) ?_ _
        go_wp2_with fail
        go_meet
        case rel =>
          have e8 := set2_at (x := .bool s3) (y := .slice a3 k3 c3) hz80 hz81
          have z90 := set2_far (x := .bool s3) (y := .slice a3 k3 c3) hz90 hne
          have z91 := set2_far (x := .bool s3) (y := .slice a3 k3 c3) hz91 hne
          have e9 := set2_at (x := .bool s4) (y := .slice a4 k4 c4) z90 z91
          exact ⟨p8, p9, s3, s4, a3, a4, k3, k4, c3, c4, rfl, rfl, set2_far e8.1 hne', set2_far e8.2 hne', e9.1, e9.2, by omega, by omega, (((HN.out.2.2.setCell hp8 _).setCell hp8 _).setCell hp9 _).setCell hp9 _, (HN.out.1.box2 hz80 hz81 _ _).box2 z90 z91 _ _, (HN.out.2.1.box2 hz80 hz81 _ _).box2 z90 z91 _ _⟩
      refine AllReadyH.cons rfl (fun K hK => ?_) AllReadyH.nil
      go_simp
      refine hK.out _ _ ⟨cell_kept ((((Kept.refl w2).drew.trans hk3).alloc _).alloc _) hA0, cell_kept ((((Kept.refl w2).drew.trans hk3).alloc _).alloc _) hA1, cell_kept ((((Kept.refl w2).drew.trans hk3).alloc _).alloc _) hB0, cell_kept ((((Kept.refl w2).drew.trans hk3).alloc _).alloc _) hB1⟩ (fun hHeld => ?_)
      clear hK K
      refine wpAnyH_ready (rs := [3]) (by kernel_rfl) (by simp) ?_
      refine AllReadyH.cons rfl (fun K hK => ?_) AllReadyH.nil
      go_simp
      refine (Take_any n aob kb capb b _ (HB.out.1.kept (HK2.out.trans ((((Kept.refl w2).drew.trans hk3).alloc _).alloc _))) (by omega)).mono ?_
      rintro e w4 ⟨hk4, s4, a4, k4, c4, rfl, hN4, hl4⟩
      have hs4 : w2.heap.size ≤ w4.heap.size := (((((Kept.refl w2).drew.trans hk3).alloc _).alloc _).trans hk4).size
      have ht4 := hk4.size
      try simp at ht4
      refine hK.out _ _ ⟨cell_kept (((((Kept.refl w2).drew.trans hk3).alloc _).alloc _).trans hk4) hA0, cell_kept (((((Kept.refl w2).drew.trans hk3).alloc _).alloc _).trans hk4) hA1, cell_kept (((((Kept.refl w2).drew.trans hk3).alloc _).alloc _).trans hk4) hB0, cell_kept (((((Kept.refl w2).drew.trans hk3).alloc _).alloc _).trans hk4) hB1⟩ (fun hHeld => ?_)
      clear hK K
      have hz80 : w4.cell? ⟨w3.heap.size + 1, 0, none⟩ = some (.bool false) := cell_kept ((Kept.refl _).trans hk4) (World.cell?_alloc_at _ _ _ _ (by simp))
      have hg80 : w4.frozen? ⟨w3.heap.size + 1, 0, none⟩ = false := (((Kept.refl _).trans hk4).frozens _ _ (by simp)).trans (World.frozen?_alloc_at _ _ _ _ (by simp))
      have hz81 : w4.cell? ⟨w3.heap.size + 1, 1, none⟩ = some (.slice none 0 0) := cell_kept ((Kept.refl _).trans hk4) (World.cell?_alloc_at _ _ _ _ (by simp))
      have hg81 : w4.frozen? ⟨w3.heap.size + 1, 1, none⟩ = false := (((Kept.refl _).trans hk4).frozens _ _ (by simp)).trans (World.frozen?_alloc_at _ _ _ _ (by simp))
      have hz90 : w4.cell? ⟨w3.heap.size, 0, none⟩ = some (.bool false) := cell_kept (((Kept.refl _).alloc _).trans hk4) (World.cell?_alloc_at _ _ _ _ (by simp))
      have hg90 : w4.frozen? ⟨w3.heap.size, 0, none⟩ = false := ((((Kept.refl _).alloc _).trans hk4).frozens _ _ (by simp)).trans (World.frozen?_alloc_at _ _ _ _ (by simp))
      have hz91 : w4.cell? ⟨w3.heap.size, 1, none⟩ = some (.slice none 0 0) := cell_kept (((Kept.refl _).alloc _).trans hk4) (World.cell?_alloc_at _ _ _ _ (by simp))
      have hg91 : w4.frozen? ⟨w3.heap.size, 1, none⟩ = false := ((((Kept.refl _).alloc _).trans hk4).frozens _ _ (by simp)).trans (World.frozen?_alloc_at _ _ _ _ (by simp))
      obtain ⟨p8, hp⟩ : ∃ p, p = w3.heap.size + 1 := ⟨_, rfl⟩
      obtain ⟨p9, hq⟩ : ∃ p, p = w3.heap.size := ⟨_, rfl⟩
      have hp8 : w2.heap.size ≤ p8 := by omega
      have hp9 : w2.heap.size ≤ p9 := by omega
      have hne : ¬ (p8 = p9) := by omega
      have hne' : ¬ (p9 = p8) := by omega
      rw [← hp] at hz80 hz81 hg80 hg81 ⊢
      rw [← hq] at hz90 hz91 hg90 hg91 ⊢
      clear hp hq
      have hKT : Kept w2 w4 := (((((Kept.refl w2).drew.trans hk3).alloc _).alloc _).trans hk4)
      have ghA0 := cell_kept hKT hA0
      have ghA1 := cell_kept hKT hA1
      have ghB0 := cell_kept hKT hB0
      have ghB1 := cell_kept hKT hB1
      have HN : Hid (NIs w4 s3 (.slice a3 k3 c3) (M.int m a) ∧ NIs w4 s4 (.slice a4 k4 c4) (M.int n b) ∧ Kept w2 w4) := ⟨hN3.kept ((((Kept.refl _).alloc _).alloc _).trans hk4), hN4.kept (Kept.refl _), hKT⟩
      clear hN3 hN4 hk3 hk4 hHeld hKT
      generalize w4 = Wx at ghA0 ghA1 ghB0 ghB1 hz80 hz81 hz90 hz91 hg80 hg81 hg90 hg91 HN ⊢
      refine wpAnyH_ready (rs := [6]) (by kernel_rfl) (by simp) ?_
      refine AllReadyH.cons rfl (fun K hK => ?_) AllReadyH.nil
      go_simp
      refine hK.out _ _ ⟨set2_far (p := p8) ghA0 (by omega), set2_far (p := p8) ghA1 (by omega), set2_far (p := p8) ghB0 (by omega), set2_far (p := p8) ghB1 (by omega)⟩ (fun hHeld => ?_)
      clear hK K
      refine wpAnyH_ready (rs := [7]) (by kernel_rfl) (by simp) ?_
      refine AllReadyH.cons rfl (fun K hK => ?_) AllReadyH.nil
      go_simp
      refine hK.out _ _ ⟨set2_far (p := p9) (set2_far (p := p8) ghA0 (by omega)) (by omega), set2_far (p := p9) (set2_far (p := p8) ghA1 (by omega)) (by omega), set2_far (p := p9) (set2_far (p := p8) ghB0 (by omega)) (by omega), set2_far (p := p9) (set2_far (p := p8) ghB1 (by omega)) (by omega)⟩ (fun hHeld => ?_)
      clear hK K
      refine wpAnyH_done (by kernel_rfl) ?_ _
      go_wp2_with fail
      go_meet
      case rel =>
        have e8 := set2_at (x := .bool s3) (y := .slice a3 k3 c3) hz80 hz81
        have z90 := set2_far (x := .bool s3) (y := .slice a3 k3 c3) hz90 hne
        have z91 := set2_far (x := .bool s3) (y := .slice a3 k3 c3) hz91 hne
        have e9 := set2_at (x := .bool s4) (y := .slice a4 k4 c4) z90 z91
        exact ⟨p8, p9, s3, s4, a3, a4, k3, k4, c3, c4, rfl, rfl, set2_far e8.1 hne', set2_far e8.2 hne', e9.1, e9.2, by omega, by omega, (((HN.out.2.2.setCell hp8 _).setCell hp8 _).setCell hp9 _).setCell hp9 _, (HN.out.1.box2 hz80 hz81 _ _).box2 z90 z91 _ _, (HN.out.2.1.box2 hz80 hz81 _ _).box2 z90 z91 _ _⟩
    refine AllReadyH.cons rfl (fun K hK => ?_) ?_
    · go_simp
      refine hK.out _ _ ⟨cell_kept ((Kept.refl w2).drew.alloc _) hA0, cell_kept ((Kept.refl w2).drew.alloc _) hA1, cell_kept ((Kept.refl w2).drew.alloc _) hB0, cell_kept ((Kept.refl w2).drew.alloc _) hB1⟩ (fun hHeld => ?_)
      clear hK K
      refine wpAnyH_ready (rs := [1, 5]) (by kernel_rfl) (by simp) ?_
      refine AllReadyH.cons rfl (fun K hK => ?_) ?_
      · go_simp
        refine (Take_any m aoa ka capa a _ (HA.out.1.kept (HK2.out.trans ((Kept.refl w2).drew.alloc _))) (by omega)).mono ?_
        rintro e w3 ⟨hk3, s3, a3, k3, c3, rfl, hN3, hl3⟩
        have hs3 : w2.heap.size ≤ w3.heap.size := (((Kept.refl w2).drew.alloc _).trans hk3).size
        have ht3 := hk3.size
        try simp at ht3
        refine hK.out _ _ ⟨cell_kept (((Kept.refl w2).drew.alloc _).trans hk3) hA0, cell_kept (((Kept.refl w2).drew.alloc _).trans hk3) hA1, cell_kept (((Kept.refl w2).drew.alloc _).trans hk3) hB0, cell_kept (((Kept.refl w2).drew.alloc _).trans hk3) hB1⟩ (fun hHeld => ?_)
        clear hK K
        refine wpAnyH_ready (rs := [3, 5]) (by kernel_rfl) (by simp) ?_
        refine AllReadyH.cons rfl (fun K hK => ?_) ?_
        · go_simp
          refine (Take_any n aob kb capb b _ (HB.out.1.kept (HK2.out.trans (((Kept.refl w2).drew.alloc _).trans hk3))) (by omega)).mono ?_
          rintro e w4 ⟨hk4, s4, a4, k4, c4, rfl, hN4, hl4⟩
          have hs4 : w2.heap.size ≤ w4.heap.size := ((((Kept.refl w2).drew.alloc _).trans hk3).trans hk4).size
          have ht4 := hk4.size
          try simp at ht4
          refine hK.out _ _ ⟨cell_kept ((((Kept.refl w2).drew.alloc _).trans hk3).trans hk4) hA0, cell_kept ((((Kept.refl w2).drew.alloc _).trans hk3).trans hk4) hA1, cell_kept ((((Kept.refl w2).drew.alloc _).trans hk3).trans hk4) hB0, cell_kept ((((Kept.refl w2).drew.alloc _).trans hk3).trans hk4) hB1⟩ (fun hHeld => ?_)
          clear hK K
          refine wpAnyH_ready (rs := [5]) (by kernel_rfl) (by simp) ?_
          refine AllReadyH.cons rfl (fun K hK => ?_) AllReadyH.nil
          go_simp
          refine hK.out _ _ ⟨cell_kept (((((Kept.refl w2).drew.alloc _).trans hk3).trans hk4).alloc _) hA0, cell_kept (((((Kept.refl w2).drew.alloc _).trans hk3).trans hk4).alloc _) hA1, cell_kept (((((Kept.refl w2).drew.alloc _).trans hk3).trans hk4).alloc _) hB0, cell_kept (((((Kept.refl w2).drew.alloc _).trans hk3).trans hk4).alloc _) hB1⟩ (fun hHeld => ?_)
          clear hK K
          have hz80 : (w4.alloc (Obj.cells #[.bool false, .slice none 0 0] 55)).cell? ⟨w2.heap.size, 0, none⟩ = some (.bool false) := cell_kept ((((Kept.refl _).trans hk3).trans hk4).alloc _) (World.cell?_alloc_at _ _ _ _ (by simp))
          have hg80 : (w4.alloc (Obj.cells #[.bool false, .slice none 0 0] 55)).frozen? ⟨w2.heap.size, 0, none⟩ = false := (((((Kept.refl _).trans hk3).trans hk4).alloc _).frozens _ _ (by simp)).trans (World.frozen?_alloc_at _ _ _ _ (by simp))
          have hz81 : (w4.alloc (Obj.cells #[.bool false, .slice none 0 0] 55)).cell? ⟨w2.heap.size, 1, none⟩ = some (.slice none 0 0) := cell_kept ((((Kept.refl _).trans hk3).trans hk4).alloc _) (World.cell?_alloc_at _ _ _ _ (by simp))
          have hg81 : (w4.alloc (Obj.cells #[.bool false, .slice none 0 0] 55)).frozen? ⟨w2.heap.size, 1, none⟩ = false := (((((Kept.refl _).trans hk3).trans hk4).alloc _).frozens _ _ (by simp)).trans (World.frozen?_alloc_at _ _ _ _ (by simp))
          have hz90 : (w4.alloc (Obj.cells #[.bool false, .slice none 0 0] 55)).cell? ⟨w4.heap.size, 0, none⟩ = some (.bool false) := cell_kept (Kept.refl _) (World.cell?_alloc_at _ _ _ _ (by simp))
          have hg90 : (w4.alloc (Obj.cells #[.bool false, .slice none 0 0] 55)).frozen? ⟨w4.heap.size, 0, none⟩ = false := ((Kept.refl _).frozens _ _ (by simp)).trans (World.frozen?_alloc_at _ _ _ _ (by simp))
          have hz91 : (w4.alloc (Obj.cells #[.bool false, .slice none 0 0] 55)).cell? ⟨w4.heap.size, 1, none⟩ = some (.slice none 0 0) := cell_kept (Kept.refl _) (World.cell?_alloc_at _ _ _ _ (by simp))
          have hg91 : (w4.alloc (Obj.cells #[.bool false, .slice none 0 0] 55)).frozen? ⟨w4.heap.size, 1, none⟩ = false := ((Kept.refl _).frozens _ _ (by simp)).trans (World.frozen?_alloc_at _ _ _ _ (by simp))
          obtain ⟨p8, hp⟩ : ∃ p, p = w2.heap.size := ⟨_, rfl⟩
          obtain ⟨p9, hq⟩ : ∃ p, p = w4.heap.size := ⟨_, rfl⟩
          have hp8 : w2.heap.size ≤ p8 := by omega
          have hp9 : w2.heap.size ≤ p9 := by omega
          have hne : ¬ (p8 = p9) := by omega
          have hne' : ¬ (p9 = p8) := by omega
          rw [← hp] at hz80 hz81 hg80 hg81 ⊢
          rw [← hq] at hz90 hz91 hg90 hg91 ⊢
          clear hp hq
          have hKT : Kept w2 (w4.alloc (Obj.cells #[.bool false, .slice none 0 0] 55)) := (((((Kept.refl w2).drew.alloc _).trans hk3).trans hk4).alloc _)
          have ghA0 := cell_kept hKT hA0
          have ghA1 := cell_kept hKT hA1
          have ghB0 := cell_kept hKT hB0
          have ghB1 := cell_kept hKT hB1
          have HN : Hid (NIs (w4.alloc (Obj.cells #[.bool false, .slice none 0 0] 55)) s3 (.slice a3 k3 c3) (M.int m a) ∧ NIs (w4.alloc (Obj.cells #[.bool false, .slice none 0 0] 55)) s4 (.slice a4 k4 c4) (M.int n b) ∧ Kept w2 (w4.alloc (Obj.cells #[.bool false, .slice none 0 0] 55))) := ⟨hN3.kept (((Kept.refl _).trans hk4).alloc _), hN4.kept ((Kept.refl _).alloc _), hKT⟩
          clear hN3 hN4 hk3 hk4 hHeld hKT
          generalize (w4.alloc (Obj.cells #[.bool false, .slice none 0 0] 55)) = Wx at ghA0 ghA1 ghB0 ghB1 hz80 hz81 hz90 hz91 hg80 hg81 hg90 hg91 HN ⊢
          refine wpAnyH_ready (rs := [6]) (by kernel_rfl) (by simp) ?_
          refine AllReadyH.cons rfl (fun K hK => ?_) AllReadyH.nil
          go_simp
          refine hK.out _ _ ⟨set2_far (p := p8) ghA0 (by omega), set2_far (p := p8) ghA1 (by omega), set2_far (p := p8) ghB0 (by omega), set2_far (p := p8) ghB1 (by omega)⟩ (fun hHeld => ?_)
          clear hK K
          refine wpAnyH_ready (rs := [7]) (by kernel_rfl) (by simp) ?_
          refine AllReadyH.cons rfl (fun K hK => ?_) AllReadyH.nil
          go_simp
          refine hK.out _ _ ⟨set2_far (p := p9) (set2_far (p := p8) ghA0 (by omega)) (by omega), set2_far (p := p9) (set2_far (p := p8) ghA1 (by omega)) (by omega), set2_far (p := p9) (set2_far (p := p8) ghB0 (by omega)) (by omega), set2_far (p := p9) (set2_far (p := p8) ghB1 (by omega)) (by omega)⟩ (fun hHeld => ?_)
          clear hK K
          refine wpAnyH_done (by kernel_rfl) ?_ _
          go_wp2_with fail
          go_meet
          case rel =>
            have e8 := set2_at (x := .bool s3) (y := .slice a3 k3 c3) hz80 hz81
            have z90 := set2_far (x := .bool s3) (y := .slice a3 k3 c3) hz90 hne
            have z91 := set2_far (x := .bool s3) (y := .slice a3 k3 c3) hz91 hne
            have e9 := set2_at (x := .bool s4) (y := .slice a4 k4 c4) z90 z91
            exact ⟨p8, p9, s3, s4, a3, a4, k3, k4, c3, c4, rfl, rfl, set2_far e8.1 hne', set2_far e8.2 hne', e9.1, e9.2, by omega, by omega, (((HN.out.2.2.setCell hp8 _).setCell hp8 _).setCell hp9 _).setCell hp9 _, (HN.out.1.box2 hz80 hz81 _ _).box2 z90 z91 _ _, (HN.out.2.1.box2 hz80 hz81 _ _).box2 z90 z91 _ _⟩
        refine AllReadyH.cons rfl (fun K hK => ?_) AllReadyH.nil
        go_simp
        refine hK.out _ _ ⟨cell_kept ((((Kept.refl w2).drew.alloc _).trans hk3).alloc _) hA0, cell_kept ((((Kept.refl w2).drew.alloc _).trans hk3).alloc _) hA1, cell_kept ((((Kept.refl w2).drew.alloc _).trans hk3).alloc _) hB0, cell_kept ((((Kept.refl w2).drew.alloc _).trans hk3).alloc _) hB1⟩ (fun hHeld => ?_)
        clear hK K
        refine wpAnyH_ready (rs := [3]) (by kernel_rfl) (by simp) ?_
        refine AllReadyH.cons rfl (fun K hK => ?_) AllReadyH.nil
        go_simp
        refine (Take_any n aob kb capb b _ (HB.out.1.kept (HK2.out.trans ((((Kept.refl w2).drew.alloc _).trans hk3).alloc _))) (by omega)).mono ?_
        rintro e w4 ⟨hk4, s4, a4, k4, c4, rfl, hN4, hl4⟩
        have hs4 : w2.heap.size ≤ w4.heap.size := (((((Kept.refl w2).drew.alloc _).trans hk3).alloc _).trans hk4).size
        have ht4 := hk4.size
        try simp at ht4
        refine hK.out _ _ ⟨cell_kept (((((Kept.refl w2).drew.alloc _).trans hk3).alloc _).trans hk4) hA0, cell_kept (((((Kept.refl w2).drew.alloc _).trans hk3).alloc _).trans hk4) hA1, cell_kept (((((Kept.refl w2).drew.alloc _).trans hk3).alloc _).trans hk4) hB0, cell_kept (((((Kept.refl w2).drew.alloc _).trans hk3).alloc _).trans hk4) hB1⟩ (fun hHeld => ?_)
        clear hK K
        have hz80 : w4.cell? ⟨w2.heap.size, 0, none⟩ = some (.bool false) := cell_kept ((((Kept.refl _).trans hk3).alloc _).trans hk4) (World.cell?_alloc_at _ _ _ _ (by simp))
        have hg80 : w4.frozen? ⟨w2.heap.size, 0, none⟩ = false := (((((Kept.refl _).trans hk3).alloc _).trans hk4).frozens _ _ (by simp)).trans (World.frozen?_alloc_at _ _ _ _ (by simp))
        have hz81 : w4.cell? ⟨w2.heap.size, 1, none⟩ = some (.slice none 0 0) := cell_kept ((((Kept.refl _).trans hk3).alloc _).trans hk4) (World.cell?_alloc_at _ _ _ _ (by simp))
        have hg81 : w4.frozen? ⟨w2.heap.size, 1, none⟩ = false := (((((Kept.refl _).trans hk3).alloc _).trans hk4).frozens _ _ (by simp)).trans (World.frozen?_alloc_at _ _ _ _ (by simp))
        have hz90 : w4.cell? ⟨w3.heap.size, 0, none⟩ = some (.bool false) := cell_kept ((Kept.refl _).trans hk4) (World.cell?_alloc_at _ _ _ _ (by simp))
        have hg90 : w4.frozen? ⟨w3.heap.size, 0, none⟩ = false := (((Kept.refl _).trans hk4).frozens _ _ (by simp)).trans (World.frozen?_alloc_at _ _ _ _ (by simp))
        have hz91 : w4.cell? ⟨w3.heap.size, 1, none⟩ = some (.slice none 0 0) := cell_kept ((Kept.refl _).trans hk4) (World.cell?_alloc_at _ _ _ _ (by simp))
        have hg91 : w4.frozen? ⟨w3.heap.size, 1, none⟩ = false := (((Kept.refl _).trans hk4).frozens _ _ (by simp)).trans (World.frozen?_alloc_at _ _ _ _ (by simp))
        obtain ⟨p8, hp⟩ : ∃ p, p = w2.heap.size := ⟨_, rfl⟩
        obtain ⟨p9, hq⟩ : ∃ p, p = w3.heap.size := ⟨_, rfl⟩
        have hp8 : w2.heap.size ≤ p8 := by omega
        have hp9 : w2.heap.size ≤ p9 := by omega
        have hne : ¬ (p8 = p9) := by omega
        have hne' : ¬ (p9 = p8) := by omega
        rw [← hp] at hz80 hz81 hg80 hg81 ⊢
        rw [← hq] at hz90 hz91 hg90 hg91 ⊢
        clear hp hq
        have hKT : Kept w2 w4 := (((((Kept.refl w2).drew.alloc _).trans hk3).alloc _).trans hk4)
        have ghA0 := cell_kept hKT hA0
        have ghA1 := cell_kept hKT hA1
        have ghB0 := cell_kept hKT hB0
        have ghB1 := cell_kept hKT hB1
        have HN : Hid (NIs w4 s3 (.slice a3 k3 c3) (M.int m a) ∧ NIs w4 s4 (.slice a4 k4 c4) (M.int n b) ∧ Kept w2 w4) := ⟨hN3.kept (((Kept.refl _).alloc _).trans hk4), hN4.kept (Kept.refl _), hKT⟩
        clear hN3 hN4 hk3 hk4 hHeld hKT
        generalize w4 = Wx at ghA0 ghA1 ghB0 ghB1 hz80 hz81 hz90 hz91 hg80 hg81 hg90 hg91 HN ⊢
        refine wpAnyH_ready (rs := [6]) (by kernel_rfl) (by simp) ?_
        refine AllReadyH.cons rfl (fun K hK => ?_) AllReadyH.nil
        go_simp
        refine hK.out _ _ ⟨set2_far (p := p8) ghA0 (by omega), set2_far (p := p8) ghA1 (by omega), set2_far (p := p8) ghB0 (by omega), set2_far (p := p8) ghB1 (by omega)⟩ (fun hHeld => ?_)
        clear hK K
        refine wpAnyH_ready (rs := [7]) (by kernel_rfl) (by simp) ?_
        refine AllReadyH.cons rfl (fun K hK => ?_) AllReadyH.nil
        go_simp
        refine hK.out _ _ ⟨set2_far (p := p9) (set2_far (p := p8) ghA0 (by omega)) (by omega), set2_far (p := p9) (set2_far (p := p8) ghA1 (by omega)) (by omega), set2_far (p := p9) (set2_far (p := p8) ghB0 (by omega)) (by omega), set2_far (p := p9) (set2_far (p := p8) ghB1 (by omega)) (by omega)⟩ (fun hHeld => ?_)
        clear hK K
        refine wpAnyH_done (by kernel_rfl) ?_ _
        go_wp2_with fail
        go_meet
        case rel =>
          have e8 := set2_at (x := .bool s3) (y := .slice a3 k3 c3) hz80 hz81
          have z90 := set2_far (x := .bool s3) (y := .slice a3 k3 c3) hz90 hne
          have z91 := set2_far (x := .bool s3) (y := .slice a3 k3 c3) hz91 hne
          have e9 := set2_at (x := .bool s4) (y := .slice a4 k4 c4) z90 z91
          exact ⟨p8, p9, s3, s4, a3, a4, k3, k4, c3, c4, rfl, rfl, set2_far e8.1 hne', set2_far e8.2 hne', e9.1, e9.2, by omega, by omega, (((HN.out.2.2.setCell hp8 _).setCell hp8 _).setCell hp9 _).setCell hp9 _, (HN.out.1.box2 hz80 hz81 _ _).box2 z90 z91 _ _, (HN.out.2.1.box2 hz80 hz81 _ _).box2 z90 z91 _ _⟩
      refine AllReadyH.cons rfl (fun K hK => ?_) AllReadyH.nil
      go_simp
      refine hK.out _ _ ⟨cell_kept (((Kept.refl w2).drew.alloc _).alloc _) hA0, cell_kept (((Kept.refl w2).drew.alloc _).alloc _) hA1, cell_kept (((Kept.refl w2).drew.alloc _).alloc _) hB0, cell_kept (((Kept.refl w2).drew.alloc _).alloc _) hB1⟩ (fun hHeld => ?_)
      clear hK K
      refine wpAnyH_ready (rs := [1]) (by kernel_rfl) (by simp) ?_
      refine AllReadyH.cons rfl (fun K hK => ?_) AllReadyH.nil
      go_simp
      refine (Take_any m aoa ka capa a _ (HA.out.1.kept (HK2.out.trans (((Kept.refl w2).drew.alloc _).alloc _))) (by omega)).mono ?_
      rintro e w3 ⟨hk3, s3, a3, k3, c3, rfl, hN3, hl3⟩
      have hs3 : w2.heap.size ≤ w3.heap.size := ((((Kept.refl w2).drew.alloc _).alloc _).trans hk3).size
      have ht3 := hk3.size
      try simp at ht3
      refine hK.out _ _ ⟨cell_kept ((((Kept.refl w2).drew.alloc _).alloc _).trans hk3) hA0, cell_kept ((((Kept.refl w2).drew.alloc _).alloc _).trans hk3) hA1, cell_kept ((((Kept.refl w2).drew.alloc _).alloc _).trans hk3) hB0, cell_kept ((((Kept.refl w2).drew.alloc _).alloc _).trans hk3) hB1⟩ (fun hHeld => ?_)
      clear hK K
      refine wpAnyH_ready (rs := [3]) (by kernel_rfl) (by simp) ?_
      refine AllReadyH.cons rfl (fun K hK => ?_) AllReadyH.nil
      go_simp
      refine (Take_any n aob kb capb b _ (HB.out.1.kept (HK2.out.trans ((((Kept.refl w2).drew.alloc _).alloc _).trans hk3))) (by omega)).mono ?_
      rintro e w4 ⟨hk4, s4, a4, k4, c4, rfl, hN4, hl4⟩
      have hs4 : w2.heap.size ≤ w4.heap.size := (((((Kept.refl w2).drew.alloc _).alloc _).trans hk3).trans hk4).size
      have ht4 := hk4.size
      try simp at ht4
      refine hK.out _ _ ⟨cell_kept (((((Kept.refl w2).drew.alloc _).alloc _).trans hk3).trans hk4) hA0, cell_kept (((((Kept.refl w2).drew.alloc _).alloc _).trans hk3).trans hk4) hA1, cell_kept (((((Kept.refl w2).drew.alloc _).alloc _).trans hk3).trans hk4) hB0, cell_kept (((((Kept.refl w2).drew.alloc _).alloc _).trans hk3).trans hk4) hB1⟩ (fun hHeld => ?_)
      clear hK K
      have hz80 : w4.cell? ⟨w2.heap.size, 0, none⟩ = some (.bool false) := cell_kept ((((Kept.refl _).alloc _).trans hk3).trans hk4) (World.cell?_alloc_at _ _ _ _ (by simp))
      have hg80 : w4.frozen? ⟨w2.heap.size, 0, none⟩ = false := (((((Kept.refl _).alloc _).trans hk3).trans hk4).frozens _ _ (by simp)).trans (World.frozen?_alloc_at _ _ _ _ (by simp))
      have hz81 : w4.cell? ⟨w2.heap.size, 1, none⟩ = some (.slice none 0 0) := cell_kept ((((Kept.refl _).alloc _).trans hk3).trans hk4) (World.cell?_alloc_at _ _ _ _ (by simp))
      have hg81 : w4.frozen? ⟨w2.heap.size, 1, none⟩ = false := (((((Kept.refl _).alloc _).trans hk3).trans hk4).frozens _ _ (by simp)).trans (World.frozen?_alloc_at _ _ _ _ (by simp))
      have hz90 : w4.cell? ⟨w2.heap.size + 1, 0, none⟩ = some (.bool false) := cell_kept (((Kept.refl _).trans hk3).trans hk4) (World.cell?_alloc_at _ _ _ _ (by simp))
      have hg90 : w4.frozen? ⟨w2.heap.size + 1, 0, none⟩ = false := ((((Kept.refl _).trans hk3).trans hk4).frozens _ _ (by simp)).trans (World.frozen?_alloc_at _ _ _ _ (by simp))
      have hz91 : w4.cell? ⟨w2.heap.size + 1, 1, none⟩ = some (.slice none 0 0) := cell_kept (((Kept.refl _).trans hk3).trans hk4) (World.cell?_alloc_at _ _ _ _ (by simp))
      have hg91 : w4.frozen? ⟨w2.heap.size + 1, 1, none⟩ = false := ((((Kept.refl _).trans hk3).trans hk4).frozens _ _ (by simp)).trans (World.frozen?_alloc_at _ _ _ _ (by simp))
      obtain ⟨p8, hp⟩ : ∃ p, p = w2.heap.size := ⟨_, rfl⟩
      obtain ⟨p9, hq⟩ : ∃ p, p = w2.heap.size + 1 := ⟨_, rfl⟩
      have hp8 : w2.heap.size ≤ p8 := by omega
      have hp9 : w2.heap.size ≤ p9 := by omega
      have hne : ¬ (p8 = p9) := by omega
      have hne' : ¬ (p9 = p8) := by omega
      rw [← hq] at hz90 hz91 hg90 hg91 ⊢
      rw [← hp] at hz80 hz81 hg80 hg81 ⊢
      clear hp hq
      have hKT : Kept w2 w4 := (((((Kept.refl w2).drew.alloc _).alloc _).trans hk3).trans hk4)
      have ghA0 := cell_kept hKT hA0
      have ghA1 := cell_kept hKT hA1
      have ghB0 := cell_kept hKT hB0
      have ghB1 := cell_kept hKT hB1
      have HN : Hid (NIs w4 s3 (.slice a3 k3 c3) (M.int m a) ∧ NIs w4 s4 (.slice a4 k4 c4) (M.int n b) ∧ Kept w2 w4) := ⟨hN3.kept ((Kept.refl _).trans hk4), hN4.kept (Kept.refl _), hKT⟩
      clear hN3 hN4 hk3 hk4 hHeld hKT
      generalize w4 = Wx at ghA0 ghA1 ghB0 ghB1 hz80 hz81 hz90 hz91 hg80 hg81 hg90 hg91 HN ⊢
      refine wpAnyH_ready (rs := [6]) (by kernel_rfl) (by simp) ?_
      refine AllReadyH.cons rfl (fun K hK => ?_) AllReadyH.nil
      go_simp
      refine hK.out _ _ ⟨set2_far (p := p8) ghA0 (by omega), set2_far (p := p8) ghA1 (by omega), set2_far (p := p8) ghB0 (by omega), set2_far (p := p8) ghB1 (by omega)⟩ (fun hHeld => ?_)
      clear hK K
      refine wpAnyH_ready (rs := [7]) (by kernel_rfl) (by simp) ?_
      refine AllReadyH.cons rfl (fun K hK => ?_) AllReadyH.nil
      go_simp
      refine hK.out _ _ ⟨set2_far (p := p9) (set2_far (p := p8) ghA0 (by omega)) (by omega), set2_far (p := p9) (set2_far (p := p8) ghA1 (by omega)) (by omega), set2_far (p := p9) (set2_far (p := p8) ghB0 (by omega)) (by omega), set2_far (p := p9) (set2_far (p := p8) ghB1 (by omega)) (by omega)⟩ (fun hHeld => ?_)
      clear hK K
      refine wpAnyH_done (by kernel_rfl) ?_ _
      go_wp2_with fail
      go_meet
      case rel =>
        have e8 := set2_at (x := .bool s3) (y := .slice a3 k3 c3) hz80 hz81
        have z90 := set2_far (x := .bool s3) (y := .slice a3 k3 c3) hz90 hne
        have z91 := set2_far (x := .bool s3) (y := .slice a3 k3 c3) hz91 hne
        have e9 := set2_at (x := .bool s4) (y := .slice a4 k4 c4) z90 z91
        exact ⟨p8, p9, s3, s4, a3, a4, k3, k4, c3, c4, rfl, rfl, set2_far e8.1 hne', set2_far e8.2 hne', e9.1, e9.2, by omega, by omega, (((HN.out.2.2.setCell hp8 _).setCell hp8 _).setCell hp9 _).setCell hp9 _, (HN.out.1.box2 hz80 hz81 _ _).box2 z90 z91 _ _, (HN.out.2.1.box2 hz80 hz81 _ _).box2 z90 z91 _ _⟩
    refine AllReadyH.cons rfl (fun K hK => ?_) AllReadyH.nil
    go_simp
    refine hK.out _ _ ⟨cell_kept ((Kept.refl w2).drew.alloc _) hA0, cell_kept ((Kept.refl w2).drew.alloc _) hA1, cell_kept ((Kept.refl w2).drew.alloc _) hB0, cell_kept ((Kept.refl w2).drew.alloc _) hB1⟩ (fun hHeld => ?_)
    clear hK K
    refine wpAnyH_ready (rs := [1, 4]) (by kernel_rfl) (by simp) ?_
    refine AllReadyH.cons rfl (fun K hK => ?_) ?_
    · go_simp
      refine (Take_any m aoa ka capa a _ (HA.out.1.kept (HK2.out.trans ((Kept.refl w2).drew.alloc _))) (by omega)).mono ?_
      rintro e w3 ⟨hk3, s3, a3, k3, c3, rfl, hN3, hl3⟩
      have hs3 : w2.heap.size ≤ w3.heap.size := (((Kept.refl w2).drew.alloc _).trans hk3).size
      have ht3 := hk3.size
      try simp at ht3
      refine hK.out _ _ ⟨cell_kept (((Kept.refl w2).drew.alloc _).trans hk3) hA0, cell_kept (((Kept.refl w2).drew.alloc _).trans hk3) hA1, cell_kept (((Kept.refl w2).drew.alloc _).trans hk3) hB0, cell_kept (((Kept.refl w2).drew.alloc _).trans hk3) hB1⟩ (fun hHeld => ?_)
      clear hK K
      refine wpAnyH_ready (rs := [3, 4]) (by kernel_rfl) (by simp) ?_
      refine AllReadyH.cons rfl (fun K hK => ?_) ?_
      · go_simp
        refine (Take_any n aob kb capb b _ (HB.out.1.kept (HK2.out.trans (((Kept.refl w2).drew.alloc _).trans hk3))) (by omega)).mono ?_
        rintro e w4 ⟨hk4, s4, a4, k4, c4, rfl, hN4, hl4⟩
        have hs4 : w2.heap.size ≤ w4.heap.size := ((((Kept.refl w2).drew.alloc _).trans hk3).trans hk4).size
        have ht4 := hk4.size
        try simp at ht4
        refine hK.out _ _ ⟨cell_kept ((((Kept.refl w2).drew.alloc _).trans hk3).trans hk4) hA0, cell_kept ((((Kept.refl w2).drew.alloc _).trans hk3).trans hk4) hA1, cell_kept ((((Kept.refl w2).drew.alloc _).trans hk3).trans hk4) hB0, cell_kept ((((Kept.refl w2).drew.alloc _).trans hk3).trans hk4) hB1⟩ (fun hHeld => ?_)
        clear hK K
        refine wpAnyH_ready (rs := [4]) (by kernel_rfl) (by simp) ?_
        refine AllReadyH.cons rfl (fun K hK => ?_) AllReadyH.nil
        go_simp
        refine hK.out _ _ ⟨cell_kept (((((Kept.refl w2).drew.alloc _).trans hk3).trans hk4).alloc _) hA0, cell_kept (((((Kept.refl w2).drew.alloc _).trans hk3).trans hk4).alloc _) hA1, cell_kept (((((Kept.refl w2).drew.alloc _).trans hk3).trans hk4).alloc _) hB0, cell_kept (((((Kept.refl w2).drew.alloc _).trans hk3).trans hk4).alloc _) hB1⟩ (fun hHeld => ?_)
        clear hK K
        have hz80 : (w4.alloc (Obj.cells #[.bool false, .slice none 0 0] 55)).cell? ⟨w4.heap.size, 0, none⟩ = some (.bool false) := cell_kept (Kept.refl _) (World.cell?_alloc_at _ _ _ _ (by simp))
        have hg80 : (w4.alloc (Obj.cells #[.bool false, .slice none 0 0] 55)).frozen? ⟨w4.heap.size, 0, none⟩ = false := ((Kept.refl _).frozens _ _ (by simp)).trans (World.frozen?_alloc_at _ _ _ _ (by simp))
        have hz81 : (w4.alloc (Obj.cells #[.bool false, .slice none 0 0] 55)).cell? ⟨w4.heap.size, 1, none⟩ = some (.slice none 0 0) := cell_kept (Kept.refl _) (World.cell?_alloc_at _ _ _ _ (by simp))
        have hg81 : (w4.alloc (Obj.cells #[.bool false, .slice none 0 0] 55)).frozen? ⟨w4.heap.size, 1, none⟩ = false := ((Kept.refl _).frozens _ _ (by simp)).trans (World.frozen?_alloc_at _ _ _ _ (by simp))
        have hz90 : (w4.alloc (Obj.cells #[.bool false, .slice none 0 0] 55)).cell? ⟨w2.heap.size, 0, none⟩ = some (.bool false) := cell_kept ((((Kept.refl _).trans hk3).trans hk4).alloc _) (World.cell?_alloc_at _ _ _ _ (by simp))
        have hg90 : (w4.alloc (Obj.cells #[.bool false, .slice none 0 0] 55)).frozen? ⟨w2.heap.size, 0, none⟩ = false := (((((Kept.refl _).trans hk3).trans hk4).alloc _).frozens _ _ (by simp)).trans (World.frozen?_alloc_at _ _ _ _ (by simp))
        have hz91 : (w4.alloc (Obj.cells #[.bool false, .slice none 0 0] 55)).cell? ⟨w2.heap.size, 1, none⟩ = some (.slice none 0 0) := cell_kept ((((Kept.refl _).trans hk3).trans hk4).alloc _) (World.cell?_alloc_at _ _ _ _ (by simp))
        have hg91 : (w4.alloc (Obj.cells #[.bool false, .slice none 0 0] 55)).frozen? ⟨w2.heap.size, 1, none⟩ = false := (((((Kept.refl _).trans hk3).trans hk4).alloc _).frozens _ _ (by simp)).trans (World.frozen?_alloc_at _ _ _ _ (by simp))
        obtain ⟨p8, hp⟩ : ∃ p, p = w4.heap.size := ⟨_, rfl⟩
        obtain ⟨p9, hq⟩ : ∃ p, p = w2.heap.size := ⟨_, rfl⟩
        have hp8 : w2.heap.size ≤ p8 := by omega
        have hp9 : w2.heap.size ≤ p9 := by omega
        have hne : ¬ (p8 = p9) := by omega
        have hne' : ¬ (p9 = p8) := by omega
        rw [← hp] at hz80 hz81 hg80 hg81 ⊢
        rw [← hq] at hz90 hz91 hg90 hg91 ⊢
        clear hp hq
        have hKT : Kept w2 (w4.alloc (Obj.cells #[.bool false, .slice none 0 0] 55)) := (((((Kept.refl w2).drew.alloc _).trans hk3).trans hk4).alloc _)
        have ghA0 := cell_kept hKT hA0
        have ghA1 := cell_kept hKT hA1
        have ghB0 := cell_kept hKT hB0
        have ghB1 := cell_kept hKT hB1
        have HN : Hid (NIs (w4.alloc (Obj.cells #[.bool false, .slice none 0 0] 55)) s3 (.slice a3 k3 c3) (M.int m a) ∧ NIs (w4.alloc (Obj.cells #[.bool false, .slice none 0 0] 55)) s4 (.slice a4 k4 c4) (M.int n b) ∧ Kept w2 (w4.alloc (Obj.cells #[.bool false, .slice none 0 0] 55))) := ⟨hN3.kept (((Kept.refl _).trans hk4).alloc _), hN4.kept ((Kept.refl _).alloc _), hKT⟩
        clear hN3 hN4 hk3 hk4 hHeld hKT
        generalize (w4.alloc (Obj.cells #[.bool false, .slice none 0 0] 55)) = Wx at ghA0 ghA1 ghB0 ghB1 hz80 hz81 hz90 hz91 hg80 hg81 hg90 hg91 HN ⊢
        refine wpAnyH_ready (rs := [6]) (by kernel_rfl) (by simp) ?_
        refine AllReadyH.cons rfl (fun K hK => ?_) AllReadyH.nil
        go_simp
        refine hK.out _ _ ⟨set2_far (p := p8) ghA0 (by omega), set2_far (p := p8) ghA1 (by omega), set2_far (p := p8) ghB0 (by omega), set2_far (p := p8) ghB1 (by omega)⟩ (fun hHeld => ?_)
        clear hK K
        refine wpAnyH_ready (rs := [7]) (by kernel_rfl) (by simp) ?_
        refine AllReadyH.cons rfl (fun K hK => ?_) AllReadyH.nil
        go_simp
        refine hK.out _ _ ⟨set2_far (p := p9) (set2_far (p := p8) ghA0 (by omega)) (by omega), set2_far (p := p9) (set2_far (p := p8) ghA1 (by omega)) (by omega), set2_far (p := p9) (set2_far (p := p8) ghB0 (by omega)) (by omega), set2_far (p := p9) (set2_far (p := p8) ghB1 (by omega)) (by omega)⟩ (fun hHeld => ?_)
        clear hK K
        refine wpAnyH_done (by kernel_rfl) ?_ _
        go_wp2_with fail
        go_meet
        case rel =>
          have e8 := set2_at (x := .bool s3) (y := .slice a3 k3 c3) hz80 hz81
          have z90 := set2_far (x := .bool s3) (y := .slice a3 k3 c3) hz90 hne
          have z91 := set2_far (x := .bool s3) (y := .slice a3 k3 c3) hz91 hne
          have e9 := set2_at (x := .bool s4) (y := .slice a4 k4 c4) z90 z91
          exact ⟨p8, p9, s3, s4, a3, a4, k3, k4, c3, c4, rfl, rfl, set2_far e8.1 hne', set2_far e8.2 hne', e9.1, e9.2, by omega, by omega, (((HN.out.2.2.setCell hp8 _).setCell hp8 _).setCell hp9 _).setCell hp9 _, (HN.out.1.box2 hz80 hz81 _ _).box2 z90 z91 _ _, (HN.out.2.1.box2 hz80 hz81 _ _).box2 z90 z91 _ _⟩
      refine AllReadyH.cons rfl (fun K hK => ?_) AllReadyH.nil
      go_simp
      refine hK.out _ _ ⟨cell_kept ((((Kept.refl w2).drew.alloc _).trans hk3).alloc _) hA0, cell_kept ((((Kept.refl w2).drew.alloc _).trans hk3).alloc _) hA1, cell_kept ((((Kept.refl w2).drew.alloc _).trans hk3).alloc _) hB0, cell_kept ((((Kept.refl w2).drew.alloc _).trans hk3).alloc _) hB1⟩ (fun hHeld => ?_)
      clear hK K
      refine wpAnyH_ready (rs := [3]) (by kernel_rfl) (by simp) ?_
      refine AllReadyH.cons rfl (fun K hK => ?_) AllReadyH.nil
      go_simp
      refine (Take_any n aob kb capb b _ (HB.out.1.kept (HK2.out.trans ((((Kept.refl w2).drew.alloc _).trans hk3).alloc _))) (by omega)).mono ?_
      rintro e w4 ⟨hk4, s4, a4, k4, c4, rfl, hN4, hl4⟩
      have hs4 : w2.heap.size ≤ w4.heap.size := (((((Kept.refl w2).drew.alloc _).trans hk3).alloc _).trans hk4).size
      have ht4 := hk4.size
      try simp at ht4
      refine hK.out _ _ ⟨cell_kept (((((Kept.refl w2).drew.alloc _).trans hk3).alloc _).trans hk4) hA0, cell_kept (((((Kept.refl w2).drew.alloc _).trans hk3).alloc _).trans hk4) hA1, cell_kept (((((Kept.refl w2).drew.alloc _).trans hk3).alloc _).trans hk4) hB0, cell_kept (((((Kept.refl w2).drew.alloc _).trans hk3).alloc _).trans hk4) hB1⟩ (fun hHeld => ?_)
      clear hK K
      have hz80 : w4.cell? ⟨w3.heap.size, 0, none⟩ = some (.bool false) := cell_kept ((Kept.refl _).trans hk4) (World.cell?_alloc_at _ _ _ _ (by simp))
      have hg80 : w4.frozen? ⟨w3.heap.size, 0, none⟩ = false := (((Kept.refl _).trans hk4).frozens _ _ (by simp)).trans (World.frozen?_alloc_at _ _ _ _ (by simp))
      have hz81 : w4.cell? ⟨w3.heap.size, 1, none⟩ = some (.slice none 0 0) := cell_kept ((Kept.refl _).trans hk4) (World.cell?_alloc_at _ _ _ _ (by simp))
      have hg81 : w4.frozen? ⟨w3.heap.size, 1, none⟩ = false := (((Kept.refl _).trans hk4).frozens _ _ (by simp)).trans (World.frozen?_alloc_at _ _ _ _ (by simp))
      have hz90 : w4.cell? ⟨w2.heap.size, 0, none⟩ = some (.bool false) := cell_kept ((((Kept.refl _).trans hk3).alloc _).trans hk4) (World.cell?_alloc_at _ _ _ _ (by simp))
      have hg90 : w4.frozen? ⟨w2.heap.size, 0, none⟩ = false := (((((Kept.refl _).trans hk3).alloc _).trans hk4).frozens _ _ (by simp)).trans (World.frozen?_alloc_at _ _ _ _ (by simp))
      have hz91 : w4.cell? ⟨w2.heap.size, 1, none⟩ = some (.slice none 0 0) := cell_kept ((((Kept.refl _).trans hk3).alloc _).trans hk4) (World.cell?_alloc_at _ _ _ _ (by simp))
      have hg91 : w4.frozen? ⟨w2.heap.size, 1, none⟩ = false := (((((Kept.refl _).trans hk3).alloc _).trans hk4).frozens _ _ (by simp)).trans (World.frozen?_alloc_at _ _ _ _ (by simp))
      obtain ⟨p8, hp⟩ : ∃ p, p = w3.heap.size := ⟨_, rfl⟩
      obtain ⟨p9, hq⟩ : ∃ p, p = w2.heap.size := ⟨_, rfl⟩
      have hp8 : w2.heap.size ≤ p8 := by omega
      have hp9 : w2.heap.size ≤ p9 := by omega
      have hne : ¬ (p8 = p9) := by omega
      have hne' : ¬ (p9 = p8) := by omega
      rw [← hp] at hz80 hz81 hg80 hg81 ⊢
      rw [← hq] at hz90 hz91 hg90 hg91 ⊢
      clear hp hq
      have hKT : Kept w2 w4 := (((((Kept.refl w2).drew.alloc _).trans hk3).alloc _).trans hk4)
      have ghA0 := cell_kept hKT hA0
      have ghA1 := cell_kept hKT hA1
      have ghB0 := cell_kept hKT hB0
      have ghB1 := cell_kept hKT hB1
      have HN : Hid (NIs w4 s3 (.slice a3 k3 c3) (M.int m a) ∧ NIs w4 s4 (.slice a4 k4 c4) (M.int n b) ∧ Kept w2 w4) := ⟨hN3.kept (((Kept.refl _).alloc _).trans hk4), hN4.kept (Kept.refl _), hKT⟩
      clear hN3 hN4 hk3 hk4 hHeld hKT
      generalize w4 = Wx at ghA0 ghA1 ghB0 ghB1 hz80 hz81 hz90 hz91 hg80 hg81 hg90 hg91 HN ⊢
      refine wpAnyH_ready (rs := [6]) (by kernel_rfl) (by simp) ?_
      refine AllReadyH.cons rfl (fun K hK => ?_) AllReadyH.nil
      go_simp
      refine hK.out _ _ ⟨set2_far (p := p8) ghA0 (by omega), set2_far (p := p8) ghA1 (by omega), set2_far (p := p8) ghB0 (by omega), set2_far (p := p8) ghB1 (by omega)⟩ (fun hHeld => ?_)
      clear hK K
      refine wpAnyH_ready (rs := [7]) (by kernel_rfl) (by simp) ?_
      refine AllReadyH.cons rfl (fun K hK => ?_) AllReadyH.nil
      go_simp
      refine hK.out _ _ ⟨set2_far (p := p9) (set2_far (p := p8) ghA0 (by omega)) (by omega), set2_far (p := p9) (set2_far (p := p8) ghA1 (by omega)) (by omega), set2_far (p := p9) (set2_far (p := p8) ghB0 (by omega)) (by omega), set2_far (p := p9) (set2_far (p := p8) ghB1 (by omega)) (by omega)⟩ (fun hHeld => ?_)
      clear hK K
      refine wpAnyH_done (by kernel_rfl) ?_ _
      go_wp2_with fail
      go_meet
      case rel =>
        have e8 := set2_at (x := .bool s3) (y := .slice a3 k3 c3) hz80 hz81
        have z90 := set2_far (x := .bool s3) (y := .slice a3 k3 c3) hz90 hne
        have z91 := set2_far (x := .bool s3) (y := .slice a3 k3 c3) hz91 hne
        have e9 := set2_at (x := .bool s4) (y := .slice a4 k4 c4) z90 z91
        exact ⟨p8, p9, s3, s4, a3, a4, k3, k4, c3, c4, rfl, rfl, set2_far e8.1 hne', set2_far e8.2 hne', e9.1, e9.2, by omega, by omega, (((HN.out.2.2.setCell hp8 _).setCell hp8 _).setCell hp9 _).setCell hp9 _, (HN.out.1.box2 hz80 hz81 _ _).box2 z90 z91 _ _, (HN.out.2.1.box2 hz80 hz81 _ _).box2 z90 z91 _ _⟩
    refine AllReadyH.cons rfl (fun K hK => ?_) AllReadyH.nil
    go_simp
    refine hK.out _ _ ⟨cell_kept (((Kept.refl w2).drew.alloc _).alloc _) hA0, cell_kept (((Kept.refl w2).drew.alloc _).alloc _) hA1, cell_kept (((Kept.refl w2).drew.alloc _).alloc _) hB0, cell_kept (((Kept.refl w2).drew.alloc _).alloc _) hB1⟩ (fun hHeld => ?_)
    clear hK K
    refine wpAnyH_ready (rs := [1]) (by kernel_rfl) (by simp) ?_
    refine AllReadyH.cons rfl (fun K hK => ?_) AllReadyH.nil
    go_simp
    refine (Take_any m aoa ka capa a _ (HA.out.1.kept (HK2.out.trans (((Kept.refl w2).drew.alloc _).alloc _))) (by omega)).mono ?_
    rintro e w3 ⟨hk3, s3, a3, k3, c3, rfl, hN3, hl3⟩
    have hs3 : w2.heap.size ≤ w3.heap.size := ((((Kept.refl w2).drew.alloc _).alloc _).trans hk3).size
    have ht3 := hk3.size
    try simp at ht3
    refine hK.out _ _ ⟨cell_kept ((((Kept.refl w2).drew.alloc _).alloc _).trans hk3) hA0, cell_kept ((((Kept.refl w2).drew.alloc _).alloc _).trans hk3) hA1, cell_kept ((((Kept.refl w2).drew.alloc _).alloc _).trans hk3) hB0, cell_kept ((((Kept.refl w2).drew.alloc _).alloc _).trans hk3) hB1⟩ (fun hHeld => ?_)
    clear hK K
    refine wpAnyH_ready (rs := [3]) (by kernel_rfl) (by simp) ?_
    refine AllReadyH.cons rfl (fun K hK => ?_) AllReadyH.nil
    go_simp
    refine (Take_any n aob kb capb b _ (HB.out.1.kept (HK2.out.trans ((((Kept.refl w2).drew.alloc _).alloc _).trans hk3))) (by omega)).mono ?_
    rintro e w4 ⟨hk4, s4, a4, k4, c4, rfl, hN4, hl4⟩
    have hs4 : w2.heap.size ≤ w4.heap.size := (((((Kept.refl w2).drew.alloc _).alloc _).trans hk3).trans hk4).size
    have ht4 := hk4.size
    try simp at ht4
    refine hK.out _ _ ⟨cell_kept (((((Kept.refl w2).drew.alloc _).alloc _).trans hk3).trans hk4) hA0, cell_kept (((((Kept.refl w2).drew.alloc _).alloc _).trans hk3).trans hk4) hA1, cell_kept (((((Kept.refl w2).drew.alloc _).alloc _).trans hk3).trans hk4) hB0, cell_kept (((((Kept.refl w2).drew.alloc _).alloc _).trans hk3).trans hk4) hB1⟩ (fun hHeld => ?_)
    clear hK K
    have hz80 : w4.cell? ⟨w2.heap.size + 1, 0, none⟩ = some (.bool false) := cell_kept (((Kept.refl _).trans hk3).trans hk4) (World.cell?_alloc_at _ _ _ _ (by simp))
    have hg80 : w4.frozen? ⟨w2.heap.size + 1, 0, none⟩ = false := ((((Kept.refl _).trans hk3).trans hk4).frozens _ _ (by simp)).trans (World.frozen?_alloc_at _ _ _ _ (by simp))
    have hz81 : w4.cell? ⟨w2.heap.size + 1, 1, none⟩ = some (.slice none 0 0) := cell_kept (((Kept.refl _).trans hk3).trans hk4) (World.cell?_alloc_at _ _ _ _ (by simp))
    have hg81 : w4.frozen? ⟨w2.heap.size + 1, 1, none⟩ = false := ((((Kept.refl _).trans hk3).trans hk4).frozens _ _ (by simp)).trans (World.frozen?_alloc_at _ _ _ _ (by simp))
    have hz90 : w4.cell? ⟨w2.heap.size, 0, none⟩ = some (.bool false) := cell_kept ((((Kept.refl _).alloc _).trans hk3).trans hk4) (World.cell?_alloc_at _ _ _ _ (by simp))
    have hg90 : w4.frozen? ⟨w2.heap.size, 0, none⟩ = false := (((((Kept.refl _).alloc _).trans hk3).trans hk4).frozens _ _ (by simp)).trans (World.frozen?_alloc_at _ _ _ _ (by simp))
    have hz91 : w4.cell? ⟨w2.heap.size, 1, none⟩ = some (.slice none 0 0) := cell_kept ((((Kept.refl _).alloc _).trans hk3).trans hk4) (World.cell?_alloc_at _ _ _ _ (by simp))
    have hg91 : w4.frozen? ⟨w2.heap.size, 1, none⟩ = false := (((((Kept.refl _).alloc _).trans hk3).trans hk4).frozens _ _ (by simp)).trans (World.frozen?_alloc_at _ _ _ _ (by simp))
    obtain ⟨p8, hp⟩ : ∃ p, p = w2.heap.size + 1 := ⟨_, rfl⟩
    obtain ⟨p9, hq⟩ : ∃ p, p = w2.heap.size := ⟨_, rfl⟩
    have hp8 : w2.heap.size ≤ p8 := by omega
    have hp9 : w2.heap.size ≤ p9 := by omega
    have hne : ¬ (p8 = p9) := by omega
    have hne' : ¬ (p9 = p8) := by omega
    rw [← hp] at hz80 hz81 hg80 hg81 ⊢
    rw [← hq] at hz90 hz91 hg90 hg91 ⊢
    clear hp hq
    have hKT : Kept w2 w4 := (((((Kept.refl w2).drew.alloc _).alloc _).trans hk3).trans hk4)
    have ghA0 := cell_kept hKT hA0
    have ghA1 := cell_kept hKT hA1
    have ghB0 := cell_kept hKT hB0
    have ghB1 := cell_kept hKT hB1
    have HN : Hid (NIs w4 s3 (.slice a3 k3 c3) (M.int m a) ∧ NIs w4 s4 (.slice a4 k4 c4) (M.int n b) ∧ Kept w2 w4) := ⟨hN3.kept ((Kept.refl _).trans hk4), hN4.kept (Kept.refl _), hKT⟩
    clear hN3 hN4 hk3 hk4 hHeld hKT
    generalize w4 = Wx at ghA0 ghA1 ghB0 ghB1 hz80 hz81 hz90 hz91 hg80 hg81 hg90 hg91 HN ⊢
    refine wpAnyH_ready (rs := [6]) (by kernel_rfl) (by simp) ?_
    refine AllReadyH.cons rfl (fun K hK => ?_) AllReadyH.nil
    go_simp
    refine hK.out _ _ ⟨set2_far (p := p8) ghA0 (by omega), set2_far (p := p8) ghA1 (by omega), set2_far (p := p8) ghB0 (by omega), set2_far (p := p8) ghB1 (by omega)⟩ (fun hHeld => ?_)
    clear hK K
    refine wpAnyH_ready (rs := [7]) (by kernel_rfl) (by simp) ?_
    refine AllReadyH.cons rfl (fun K hK => ?_) AllReadyH.nil
    go_simp
    refine hK.out _ _ ⟨set2_far (p := p9) (set2_far (p := p8) ghA0 (by omega)) (by omega), set2_far (p := p9) (set2_far (p := p8) ghA1 (by omega)) (by omega), set2_far (p := p9) (set2_far (p := p8) ghB0 (by omega)) (by omega), set2_far (p := p9) (set2_far (p := p8) ghB1 (by omega)) (by omega)⟩ (fun hHeld => ?_)
    clear hK K
    refine wpAnyH_done (by kernel_rfl) ?_ _
    go_wp2_with fail
    go_meet
    case rel =>
      have e8 := set2_at (x := .bool s3) (y := .slice a3 k3 c3) hz80 hz81
      have z90 := set2_far (x := .bool s3) (y := .slice a3 k3 c3) hz90 hne
      have z91 := set2_far (x := .bool s3) (y := .slice a3 k3 c3) hz91 hne
      have e9 := set2_at (x := .bool s4) (y := .slice a4 k4 c4) z90 z91
      exact ⟨p8, p9, s3, s4, a3, a4, k3, k4, c3, c4, rfl, rfl, set2_far e8.1 hne', set2_far e8.2 hne', e9.1, e9.2, by omega, by omega, (((HN.out.2.2.setCell hp8 _).setCell hp8 _).setCell hp9 _).setCell hp9 _, (HN.out.1.box2 hz80 hz81 _ _).box2 z90 z91 _ _, (HN.out.2.1.box2 hz80 hz81 _ _).box2 z90 z91 _ _⟩

  case rest =>
    obtain ⟨p8, p9, s3, s4, a3, a4, k3, k4, c3, c4, rfl, rfl, h80, h81, h90, h91, hk3l, hk4l, hcc⟩ := hcut
    have HC : Hid (Kept w2 wc ∧ NIs wc s3 (.slice a3 k3 c3) (M.int m a) ∧ NIs wc s4 (.slice a4 k4 c4) (M.int n b)) := hcc
    have hR0 := cell_kept HC.out.1 hR0
    have hR1 := cell_kept HC.out.1 hR1
    have hfR : ∀ j, wc.frozen? ⟨w.heap.size + 1 + 1, j, none⟩ = false := fun j => by rw [HC.out.1.frozens _ _ (by omega)]; exact hfR j
    have HKc : Hid (Kept w wc) := HK2.out.trans HC.out.1
    have hzc : w.heap.size + 1 + 1 + 1 ≤ wc.heap.size := Nat.le_trans hz2 HC.out.1.size
    clear hcc
    rcases HOP.out with ⟨rfl, hz⟩ | ⟨rfl, hz⟩ | ⟨rfl, hz⟩
    · go_wp2_with fail
      refine (Plus_any s3 s4 a3 a4 k3 k4 c3 c4 _ _ _ HC.out.2.1 HC.out.2.2 (by omega) (by omega)).mono ?_
      rintro e w5 ⟨hk5, s5, a5, k5, c5, rfl, hN5, hl5⟩
      rw [← hz] at hN5
      have hR0 := cell_kept hk5 hR0
      have hR1 := cell_kept hk5 hR1
      have hfR : ∀ j, w5.frozen? ⟨w.heap.size + 1 + 1, j, none⟩ = false := fun j => by rw [hk5.frozens _ _ (by omega)]; exact hfR j
      have HN5 : Hid (NIs w5 s5 (.slice a5 k5 c5) z ∧ Kept w w5) := ⟨hN5, HKc.out.trans hk5⟩
      have hz5 : w.heap.size + 1 + 1 + 1 ≤ w5.heap.size := Nat.le_trans hzc hk5.size
      have hk5l : k5 ≤ 1000 := by omega
      clear hk5 hN5 hl5 h80 h81 h90 h91 hz
      go_wp2_with fail
      refine (told_any s5 a5 k5 c5 z _ HN5.out.1 (by omega)).mono ?_
      rintro e w6 ⟨hk6, s6, a6, n6, c6, c, rfl, hF⟩
      have hR0 := cell_kept hk6 hR0
      have hR1 := cell_kept hk6 hR1
      have hfR : ∀ j, w6.frozen? ⟨w.heap.size + 1 + 1, j, none⟩ = false := fun j => by rw [hk6.frozens _ _ (by omega)]; exact hfR j
      have HF : Hid (Fin (w.heap.size + 1 + 1 + 1) w6 s6 (.slice a6 n6 c6) c z ∧ Kept w w6) := ⟨hF.mono hz5, HN5.out.2.trans hk6⟩
      clear hk6 hF
      go_wp2
      exact bodyPost_ret (v := .tuple #[.agg #[.bool s6, .slice a6 n6 c6], .int .i64 c]) (by simp [results, Tryd.results16, go_sem, hR0, hR1]) rfl ⟨(HF.out.2.setCell (by simp; omega) _).setCell (by simp; omega) _, s6, a6, n6, c6, c, rfl, ((HF.out.1.other (by simp) _).other (by simp) _).mono (by omega)⟩
    · go_wp2_with fail
      refine (Less_any s3 s4 a3 a4 k3 k4 c3 c4 _ _ _ HC.out.2.1 HC.out.2.2 (by omega) (by omega)).mono ?_
      rintro e w5 ⟨hk5, s5, a5, k5, c5, rfl, hN5, hl5⟩
      rw [← hz] at hN5
      have hR0 := cell_kept hk5 hR0
      have hR1 := cell_kept hk5 hR1
      have hfR : ∀ j, w5.frozen? ⟨w.heap.size + 1 + 1, j, none⟩ = false := fun j => by rw [hk5.frozens _ _ (by omega)]; exact hfR j
      have HN5 : Hid (NIs w5 s5 (.slice a5 k5 c5) z ∧ Kept w w5) := ⟨hN5, HKc.out.trans hk5⟩
      have hz5 : w.heap.size + 1 + 1 + 1 ≤ w5.heap.size := Nat.le_trans hzc hk5.size
      have hk5l : k5 ≤ 1000 := by omega
      clear hk5 hN5 hl5 h80 h81 h90 h91 hz
      go_wp2_with fail
      refine (told_any s5 a5 k5 c5 z _ HN5.out.1 (by omega)).mono ?_
      rintro e w6 ⟨hk6, s6, a6, n6, c6, c, rfl, hF⟩
      have hR0 := cell_kept hk6 hR0
      have hR1 := cell_kept hk6 hR1
      have hfR : ∀ j, w6.frozen? ⟨w.heap.size + 1 + 1, j, none⟩ = false := fun j => by rw [hk6.frozens _ _ (by omega)]; exact hfR j
      have HF : Hid (Fin (w.heap.size + 1 + 1 + 1) w6 s6 (.slice a6 n6 c6) c z ∧ Kept w w6) := ⟨hF.mono hz5, HN5.out.2.trans hk6⟩
      clear hk6 hF
      go_wp2
      exact bodyPost_ret (v := .tuple #[.agg #[.bool s6, .slice a6 n6 c6], .int .i64 c]) (by simp [results, Tryd.results16, go_sem, hR0, hR1]) rfl ⟨(HF.out.2.setCell (by simp; omega) _).setCell (by simp; omega) _, s6, a6, n6, c6, c, rfl, ((HF.out.1.other (by simp) _).other (by simp) _).mono (by omega)⟩
    · go_wp2_with fail
      refine (Times_any s3 s4 a3 a4 k3 k4 c3 c4 _ _ _ HC.out.2.1 HC.out.2.2 (by omega) (by omega)).mono ?_
      rintro e w5 ⟨hk5, s5, a5, k5, c5, rfl, hN5, hl5⟩
      rw [← hz] at hN5
      have hR0 := cell_kept hk5 hR0
      have hR1 := cell_kept hk5 hR1
      have hfR : ∀ j, w5.frozen? ⟨w.heap.size + 1 + 1, j, none⟩ = false := fun j => by rw [hk5.frozens _ _ (by omega)]; exact hfR j
      have HN5 : Hid (NIs w5 s5 (.slice a5 k5 c5) z ∧ Kept w w5) := ⟨hN5, HKc.out.trans hk5⟩
      have hz5 : w.heap.size + 1 + 1 + 1 ≤ w5.heap.size := Nat.le_trans hzc hk5.size
      have hk5l : k5 ≤ 1000 := by omega
      clear hk5 hN5 hl5 h80 h81 h90 h91 hz
      go_wp2_with fail
      refine (told_any s5 a5 k5 c5 z _ HN5.out.1 (by omega)).mono ?_
      rintro e w6 ⟨hk6, s6, a6, n6, c6, c, rfl, hF⟩
      have hR0 := cell_kept hk6 hR0
      have hR1 := cell_kept hk6 hR1
      have hfR : ∀ j, w6.frozen? ⟨w.heap.size + 1 + 1, j, none⟩ = false := fun j => by rw [hk6.frozens _ _ (by omega)]; exact hfR j
      have HF : Hid (Fin (w.heap.size + 1 + 1 + 1) w6 s6 (.slice a6 n6 c6) c z ∧ Kept w w6) := ⟨hF.mono hz5, HN5.out.2.trans hk6⟩
      clear hk6 hF
      go_wp2
      exact bodyPost_ret (v := .tuple #[.agg #[.bool s6, .slice a6 n6 c6], .int .i64 c]) (by simp [results, Tryd.results16, go_sem, hR0, hR1]) rfl ⟨(HF.out.2.setCell (by simp; omega) _).setCell (by simp; omega) _, s6, a6, n6, c6, c, rfl, ((HF.out.1.other (by simp) _).other (by simp) _).mono (by omega)⟩

set_option maxRecDepth 100000 in
set_option maxHeartbeats 1000000 in
theorem Two_no (op : Int) (m n : Bool) (aoa aob : Option Addr) (ka kb capa capb : Nat) (a b : List Nat) (w : World) (ha : Go.Proofs.YtiadnlpbbibkgaaDoor.Sl w (.slice aoa ka capa) a) (hb : Go.Proofs.YtiadnlpbbibkgaaDoor.Sl w (.slice aob kb capb) b) (hla : a.length ≤ 80) (hlb : b.length ≤ 80) (hr : ¬ (R m a ∧ R n b)) :
    Calls Tryd.prog 16 #[.int .u8 op, .agg #[.bool m, .slice aoa ka capa], .agg #[.bool n, .slice aob kb capb]] w fun e w' => Kept w w' ∧ e = .returned (.tuple #[.agg #[.bool false, .slice none 0 0], .int .i64 10]) := by
  have HA : Hid (Go.Proofs.YtiadnlpbbibkgaaDoor.Sl w (.slice aoa ka capa) a) := ha
  have HB : Hid (Go.Proofs.YtiadnlpbbibkgaaDoor.Sl w (.slice aob kb capb) b) := hb
  have K3 : ∀ x y z, Kept w (((w.alloc x).alloc y).alloc z) := fun x y z => (((Kept.refl w).alloc x).alloc y).alloc z
  by_cases hra : R m a
  · have HR : Hid (R m a ∧ ¬ R n b) := ⟨hra, fun h => hr ⟨hra, h⟩⟩
    clear ha hb hr hra
    go_enter Tryd.func16, Tryd.ntmps16
    go_wp2_with fail
    refine (right_yes m _ a _ (HA.out.kept (K3 _ _ _)) HR.out.1).mono ?_
    rintro e w1 ⟨rfl, hk1⟩
    obtain ⟨hA0, hA1, hB0, hB1, hR0, hR1⟩ := box_kept3 hk1
    have HK1 : Hid (Kept w w1) := (K3 _ _ _).trans hk1
    have hz1 : w.heap.size + 1 + 1 + 1 ≤ w1.heap.size := by have := hk1.size; simpa using this
    have hfR : ∀ j, w1.frozen? ⟨w.heap.size + 1 + 1, j, none⟩ = false := fun j => (hk1.frozens _ _ (by simp)).trans (World.frozen?_alloc_at _ _ _ _ (by simp))
    clear hk1
    go_wp2_with fail
    refine (right_no n _ b _ (HB.out.kept HK1.out) (by omega) HR.out.2).mono ?_
    rintro e w2 ⟨rfl, hk2⟩
    have hR0 := cell_kept hk2 hR0
    have hR1 := cell_kept hk2 hR1
    have hfR : ∀ j, w2.frozen? ⟨w.heap.size + 1 + 1, j, none⟩ = false := fun j => by rw [hk2.frozens _ _ (by omega)]; exact hfR j
    have HK2 : Hid (Kept w w2) := HK1.out.trans hk2
    clear hk2 K3 hA0 hA1 hB0 hB1
    go_wp2
    exact bodyPost_ret (v := .tuple #[.agg #[.bool false, .slice none 0 0], .int .i64 10]) (by simp [results, Tryd.results16, go_sem, hR0, hR1]) rfl ⟨(HK2.out.setCell (by simp; omega) _).setCell (by simp; omega) _, rfl⟩
  · have HR : Hid (¬ R m a) := hra
    clear ha hb hr hra
    go_enter Tryd.func16, Tryd.ntmps16
    go_wp2_with fail
    refine (right_no m _ a _ (HA.out.kept (K3 _ _ _)) (by omega) HR.out).mono ?_
    rintro e w1 ⟨rfl, hk1⟩
    obtain ⟨hA0, hA1, hB0, hB1, hR0, hR1⟩ := box_kept3 hk1
    have HK1 : Hid (Kept w w1) := (K3 _ _ _).trans hk1
    have hfR : ∀ j, w1.frozen? ⟨w.heap.size + 1 + 1, j, none⟩ = false := fun j => (hk1.frozens _ _ (by simp)).trans (World.frozen?_alloc_at _ _ _ _ (by simp))
    clear hk1 K3 hA0 hA1 hB0 hB1
    go_wp2
    exact bodyPost_ret (v := .tuple #[.agg #[.bool false, .slice none 0 0], .int .i64 10]) (by simp [results, Tryd.results16, go_sem, hR0, hR1]) rfl ⟨(HK1.out.setCell (by simp; omega) _).setCell (by simp; omega) _, rfl⟩

end D
end Go.Proofs.YtiadnlpbbibkgaaDoor
