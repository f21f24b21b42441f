/- Two of package shuntref01: the common divisor, and the quotient without rest. -/
import Derived.Test.YthijnnififodjaaDoorRtwo
import Derived.Test.YthijnnififodjaaDoorRset2
import Derived.Test.YthijnnififodjaaDoorGg
namespace Go.Proofs.YthijnnififodjaaDoor
open Go.RowKit
namespace D

/-- What Two tells of a quotient. -/
def QuoTold (B : Nat) (w' : World) (e : Ending) (x y : Int) : Prop :=
  (y = 0 ∧ e = .returned (.tuple #[.agg #[.bool false, .slice none 0 0], .int .i64 11])) ∨ (y ≠ 0 ∧ Int.tmod x y ≠ 0 ∧ e = .returned (.tuple #[.agg #[.bool false, .slice none 0 0], .int .i64 12])) ∨ (y ≠ 0 ∧ Int.tmod x y = 0 ∧ AnsIs B w' e (Int.tdiv x y))

/-- What Two tells of a common divisor ('g', 103) or of a quotient ('/', 47). -/
def Two3 (op : Int) (B : Nat) (w' : World) (e : Ending) (x y : Int) : Prop := (op = 103 ∧ AnsIs B w' e ((Nat.gcd x.natAbs y.natAbs : Nat) : Int)) ∨ (op = 47 ∧ QuoTold B w' e x y)

theorem isgn_zero (z : Int) : isgn z 0 = 0 ↔ z = 0 := by unfold isgn; split; omega; split <;> omega

set_option maxRecDepth 100000 in
set_option maxHeartbeats 4000000 in
theorem Two3_yes (op : Int) (m n : Bool) (aoa aob : Option Addr) (ka kb capa capb : Nat) (a b : List Nat) (w : World) (ha : Go.Proofs.YthijnnififodjaaDoor.Sl w (.slice aoa ka capa) a) (hb : Go.Proofs.YthijnnififodjaaDoor.Sl w (.slice aob kb capb) b) (hra : R m a) (hrb : R n b) (hop : op = 103 ∨ op = 47) :
    Calls Tryd.prog 11 #[.int .u8 op, .agg #[.bool m, .slice aoa ka capa], .agg #[.bool n, .slice aob kb capb]] w fun e w' => Kept w w' ∧ Two3 op w.heap.size w' e (M.int m a) (M.int n b) := by
  have HA : Hid (Go.Proofs.YthijnnififodjaaDoor.Sl w (.slice aoa ka capa) a ∧ R m a) := ⟨ha, hra⟩
  have HB : Hid (Go.Proofs.YthijnnififodjaaDoor.Sl w (.slice aob kb capb) b ∧ R n b) := ⟨hb, hrb⟩
  have HOP : Hid (op = 103 ∨ op = 47) := hop
  have hla : a.length ≤ 72 := hra.1
  have hlb : b.length ≤ 72 := hrb.1
  have K3 : ∀ x y z, Kept w (((w.alloc x).alloc y).alloc z) := fun x y z => (((Kept.refl w).alloc x).alloc y).alloc z
  clear ha hb hra hrb hop
  go_enter Tryd.func11, Tryd.ntmps11
  go_wp2_with fail
  refine (right_yes m _ a _ (HA.out.1.kept (K3 _ _ _)) HA.out.2).mono ?_
  rintro e w1 ⟨rfl, hk1⟩
  obtain ⟨hA0, hA1, hB0, hB1, hR0, hR1⟩ := box_kept3 hk1
  have HK1 : Hid (Kept w w1) := (K3 _ _ _).trans hk1
  have hfR : ∀ j, w1.frozen? ⟨w.heap.size + 1 + 1, j, none⟩ = false := fun j => (hk1.frozens _ _ (by simp)).trans (World.frozen?_alloc_at _ _ _ _ (by simp))
  have hz1 : w.heap.size + 1 + 1 + 1 ≤ w1.heap.size := by have := hk1.size; simpa using this
  clear hk1
  go_wp2_with fail
  refine (right_yes n _ b _ (HB.out.1.kept HK1.out) HB.out.2).mono ?_
  rintro e w2 ⟨rfl, hk2⟩
  have hA0 := cell_kept hk2 hA0
  have hA1 := cell_kept hk2 hA1
  have hB0 := cell_kept hk2 hB0
  have hB1 := cell_kept hk2 hB1
  have hR0 := cell_kept hk2 hR0
  have hR1 := cell_kept hk2 hR1
  have hfR : ∀ j, w2.frozen? ⟨w.heap.size + 1 + 1, j, none⟩ = false := fun j => by rw [hk2.frozens _ _ (by omega)]; exact hfR j
  have hz2 : w.heap.size + 1 + 1 + 1 ≤ w2.heap.size := Nat.le_trans hz1 hk2.size
  have HK2 : Hid (Kept w w2) := HK1.out.trans hk2
  clear hk2 K3
  go_upto_region 3 with fail
  go_cut [8, 9] (fun s8 s9 wc => ∃ (p8 p9 : Nat) (s3 s4 : Bool) (a3 a4 : Option Addr) (k3 k4 c3 c4 : Nat), s8 = .pointer (some ⟨p8, 0, none⟩) ∧ s9 = .pointer (some ⟨p9, 0, none⟩) ∧ wc.cell? ⟨p8, 0, none⟩ = some (.bool s3) ∧ wc.cell? ⟨p8, 1, none⟩ = some (.slice a3 k3 c3) ∧ wc.cell? ⟨p9, 0, none⟩ = some (.bool s4) ∧ wc.cell? ⟨p9, 1, none⟩ = some (.slice a4 k4 c4) ∧ k3 ≤ 200 ∧ k4 ≤ 200 ∧ Hid (Kept w2 wc ∧ NIs wc s3 (.slice a3 k3 c3) (M.int m a) ∧ NIs wc s4 (.slice a4 k4 c4) (M.int n b)))
  case first =>
    refine wp_region_held_drew (S := fun w' => w'.cell? ⟨w.heap.size, 0, none⟩ = some (.bool m) ∧ w'.cell? ⟨w.heap.size, 1, none⟩ = some (.slice aoa ka capa) ∧ w'.cell? ⟨w.heap.size + 1, 0, none⟩ = some (.bool n) ∧ w'.cell? ⟨w.heap.size + 1, 1, none⟩ = some (.slice aob kb capb)) (by kernel_rfl) ⟨hA0, hA1, hB0, hB1⟩ (fun hHeld => ?_)
    refine wpAnyH_take (i := 0) (v := ?v0) rfl (by kernel_rfl) (by kernel_rfl) (by kernel_rfl) (fun _ _ _ h => h) (Or.inl ⟨by rfl, ?y0⟩) hHeld ?r0
    case y0 =>
      intro w' hSw
      obtain ⟨hSw0, hSw1, hSw2, hSw3⟩ := hSw
      go_simp
      with_reducible rfl
    case r0 =>
    refine wpAnyH_take (i := 2) (v := ?v2) rfl (by kernel_rfl) (by kernel_rfl) (by kernel_rfl) (fun _ _ _ h => h) (Or.inl ⟨by rfl, ?y2⟩) hHeld ?r2
    case y2 =>
      intro w' hSw
      obtain ⟨hSw0, hSw1, hSw2, hSw3⟩ := hSw
      go_simp
      with_reducible rfl
    case r2 =>
    refine wpAnyH_ready (rs := [1, 4, 5]) (by kernel_rfl) (by simp) ?_
    refine AllReadyH.cons rfl (fun K hK => ?_) ?_
    · go_simp
      refine (Take_any m aoa ka capa a _ (HA.out.1.kept (HK2.out.trans (Kept.refl w2).drew)) (by omega)).mono ?_
      rintro e w3 ⟨hk3, s3, a3, k3, c3, rfl, hN3, hl3⟩
      have hs3 : w2.heap.size ≤ w3.heap.size := ((Kept.refl w2).drew.trans hk3).size
      have ht3 := hk3.size
      try simp at ht3
      refine hK.out _ _ ⟨cell_kept ((Kept.refl w2).drew.trans hk3) hA0, cell_kept ((Kept.refl w2).drew.trans hk3) hA1, cell_kept ((Kept.refl w2).drew.trans hk3) hB0, cell_kept ((Kept.refl w2).drew.trans hk3) hB1⟩ (fun hHeld => ?_)
      clear hK K
      refine wpAnyH_ready (rs := [3, 4, 5]) (by kernel_rfl) (by simp) ?_
      refine AllReadyH.cons rfl (fun K hK => ?_) ?_
      · go_simp
        refine (Take_any n aob kb capb b _ (HB.out.1.kept (HK2.out.trans ((Kept.refl w2).drew.trans hk3))) (by omega)).mono ?_
        rintro e w4 ⟨hk4, s4, a4, k4, c4, rfl, hN4, hl4⟩
        have hs4 : w2.heap.size ≤ w4.heap.size := (((Kept.refl w2).drew.trans hk3).trans hk4).size
        have ht4 := hk4.size
        try simp at ht4
        refine hK.out _ _ ⟨cell_kept (((Kept.refl w2).drew.trans hk3).trans hk4) hA0, cell_kept (((Kept.refl w2).drew.trans hk3).trans hk4) hA1, cell_kept (((Kept.refl w2).drew.trans hk3).trans hk4) hB0, cell_kept (((Kept.refl w2).drew.trans hk3).trans hk4) hB1⟩ (fun hHeld => ?_)
        clear hK K
        refine wpAnyH_ready (rs := [4, 5]) (by kernel_rfl) (by simp) ?_
        refine AllReadyH.cons rfl (fun K hK => ?_) ?_
        · go_simp
          refine hK.out _ _ ⟨cell_kept ((((Kept.refl w2).drew.trans hk3).trans hk4).alloc _) hA0, cell_kept ((((Kept.refl w2).drew.trans hk3).trans hk4).alloc _) hA1, cell_kept ((((Kept.refl w2).drew.trans hk3).trans hk4).alloc _) hB0, cell_kept ((((Kept.refl w2).drew.trans hk3).trans hk4).alloc _) hB1⟩ (fun hHeld => ?_)
          clear hK K
          refine wpAnyH_ready (rs := [5]) (by kernel_rfl) (by simp) ?_
          refine AllReadyH.cons rfl (fun K hK => ?_) AllReadyH.nil
          go_simp
          refine hK.out _ _ ⟨cell_kept (((((Kept.refl w2).drew.trans hk3).trans hk4).alloc _).alloc _) hA0, cell_kept (((((Kept.refl w2).drew.trans hk3).trans hk4).alloc _).alloc _) hA1, cell_kept (((((Kept.refl w2).drew.trans hk3).trans hk4).alloc _).alloc _) hB0, cell_kept (((((Kept.refl w2).drew.trans hk3).trans hk4).alloc _).alloc _) hB1⟩ (fun hHeld => ?_)
          clear hK K
          have hz80 : ((w4.alloc (Obj.cells #[.bool false, .slice none 0 0] 50)).alloc (Obj.cells #[.bool false, .slice none 0 0] 50)).cell? ⟨w4.heap.size, 0, none⟩ = some (.bool false) := cell_kept ((Kept.refl _).alloc _) (World.cell?_alloc_at _ _ _ _ (by simp))
          have hg80 : ((w4.alloc (Obj.cells #[.bool false, .slice none 0 0] 50)).alloc (Obj.cells #[.bool false, .slice none 0 0] 50)).frozen? ⟨w4.heap.size, 0, none⟩ = false := (((Kept.refl _).alloc _).frozens _ _ (by simp)).trans (World.frozen?_alloc_at _ _ _ _ (by simp))
          have hz81 : ((w4.alloc (Obj.cells #[.bool false, .slice none 0 0] 50)).alloc (Obj.cells #[.bool false, .slice none 0 0] 50)).cell? ⟨w4.heap.size, 1, none⟩ = some (.slice none 0 0) := cell_kept ((Kept.refl _).alloc _) (World.cell?_alloc_at _ _ _ _ (by simp))
          have hg81 : ((w4.alloc (Obj.cells #[.bool false, .slice none 0 0] 50)).alloc (Obj.cells #[.bool false, .slice none 0 0] 50)).frozen? ⟨w4.heap.size, 1, none⟩ = false := (((Kept.refl _).alloc _).frozens _ _ (by simp)).trans (World.frozen?_alloc_at _ _ _ _ (by simp))
          have hz90 : ((w4.alloc (Obj.cells #[.bool false, .slice none 0 0] 50)).alloc (Obj.cells #[.bool false, .slice none 0 0] 50)).cell? ⟨w4.heap.size + 1, 0, none⟩ = some (.bool false) := cell_kept (Kept.refl _) (World.cell?_alloc_at _ _ _ _ (by simp))
          have hg90 : ((w4.alloc (Obj.cells #[.bool false, .slice none 0 0] 50)).alloc (Obj.cells #[.bool false, .slice none 0 0] 50)).frozen? ⟨w4.heap.size + 1, 0, none⟩ = false := ((Kept.refl _).frozens _ _ (by simp)).trans (World.frozen?_alloc_at _ _ _ _ (by simp))
          have hz91 : ((w4.alloc (Obj.cells #[.bool false, .slice none 0 0] 50)).alloc (Obj.cells #[.bool false, .slice none 0 0] 50)).cell? ⟨w4.heap.size + 1, 1, none⟩ = some (.slice none 0 0) := cell_kept (Kept.refl _) (World.cell?_alloc_at _ _ _ _ (by simp))
          have hg91 : ((w4.alloc (Obj.cells #[.bool false, .slice none 0 0] 50)).alloc (Obj.cells #[.bool false, .slice none 0 0] 50)).frozen? ⟨w4.heap.size + 1, 1, none⟩ = false := ((Kept.refl _).frozens _ _ (by simp)).trans (World.frozen?_alloc_at _ _ _ _ (by simp))
          obtain ⟨p8, hp⟩ : ∃ p, p = w4.heap.size := ⟨_, rfl⟩
          obtain ⟨p9, hq⟩ : ∃ p, p = w4.heap.size + 1 := ⟨_, rfl⟩
          have hp8 : w2.heap.size ≤ p8 := by omega
          have hp9 : w2.heap.size ≤ p9 := by omega
          have hne : ¬ (p8 = p9) := by omega
          have hne' : ¬ (p9 = p8) := by omega
          rw [← hq] at hz90 hz91 hg90 hg91 ⊢
          rw [← hp] at hz80 hz81 hg80 hg81 ⊢
          clear hp hq
          have hKT : Kept w2 ((w4.alloc (Obj.cells #[.bool false, .slice none 0 0] 50)).alloc (Obj.cells #[.bool false, .slice none 0 0] 50)) := (((((Kept.refl w2).drew.trans hk3).trans hk4).alloc _).alloc _)
          have ghA0 := cell_kept hKT hA0
          have ghA1 := cell_kept hKT hA1
          have ghB0 := cell_kept hKT hB0
          have ghB1 := cell_kept hKT hB1
          have HN : Hid (NIs ((w4.alloc (Obj.cells #[.bool false, .slice none 0 0] 50)).alloc (Obj.cells #[.bool false, .slice none 0 0] 50)) s3 (.slice a3 k3 c3) (M.int m a) ∧ NIs ((w4.alloc (Obj.cells #[.bool false, .slice none 0 0] 50)).alloc (Obj.cells #[.bool false, .slice none 0 0] 50)) s4 (.slice a4 k4 c4) (M.int n b) ∧ Kept w2 ((w4.alloc (Obj.cells #[.bool false, .slice none 0 0] 50)).alloc (Obj.cells #[.bool false, .slice none 0 0] 50))) := ⟨hN3.kept ((((Kept.refl _).trans hk4).alloc _).alloc _), hN4.kept (((Kept.refl _).alloc _).alloc _), hKT⟩
          clear hN3 hN4 hk3 hk4 hHeld hKT
          generalize ((w4.alloc (Obj.cells #[.bool false, .slice none 0 0] 50)).alloc (Obj.cells #[.bool false, .slice none 0 0] 50)) = Wx at ghA0 ghA1 ghB0 ghB1 hz80 hz81 hz90 hz91 hg80 hg81 hg90 hg91 HN ⊢
          refine wpAnyH_ready (rs := [6]) (by kernel_rfl) (by simp) ?_
          refine AllReadyH.cons rfl (fun K hK => ?_) AllReadyH.nil
          go_simp
          refine hK.out _ _ ⟨set2_far (p := p8) ghA0 (by omega), set2_far (p := p8) ghA1 (by omega), set2_far (p := p8) ghB0 (by omega), set2_far (p := p8) ghB1 (by omega)⟩ (fun hHeld => ?_)
          clear hK K
          refine wpAnyH_ready (rs := [7]) (by kernel_rfl) (by simp) ?_
          refine AllReadyH.cons rfl (fun K hK => ?_) AllReadyH.nil
          go_simp
          refine hK.out _ _ ⟨set2_far (p := p9) (set2_far (p := p8) ghA0 (by omega)) (by omega), set2_far (p := p9) (set2_far (p := p8) ghA1 (by omega)) (by omega), set2_far (p := p9) (set2_far (p := p8) ghB0 (by omega)) (by omega), set2_far (p := p9) (set2_far (p := p8) ghB1 (by omega)) (by omega)⟩ (fun hHeld => ?_)
          clear hK K
          refine wpAnyH_done (by kernel_rfl) ?_ _
          go_wp2_with fail
          go_meet
          case rel =>
            have e8 := set2_at (x := .bool s3) (y := .slice a3 k3 c3) hz80 hz81
            have z90 := set2_far (x := .bool s3) (y := .slice a3 k3 c3) hz90 hne
            have z91 := set2_far (x := .bool s3) (y := .slice a3 k3 c3) hz91 hne
            have e9 := set2_at (x := .bool s4) (y := .slice a4 k4 c4) z90 z91
            exact ⟨p8, p9, s3, s4, a3, a4, k3, k4, c3, c4, rfl, rfl, set2_far e8.1 hne', set2_far e8.2 hne', e9.1, e9.2, by omega, by omega, (((HN.out.2.2.setCell hp8 _).setCell hp8 _).setCell hp9 _).setCell hp9 _, (HN.out.1.box2 hz80 hz81 _ _).box2 z90 z91 _ _, (HN.out.2.1.box2 hz80 hz81 _ _).box2 z90 z91 _ _⟩
        refine AllReadyH.cons rfl (fun K hK => ?_) AllReadyH.nil
        go_simp
        refine hK.out _ _ ⟨cell_kept ((((Kept.refl w2).drew.trans hk3).trans hk4).alloc _) hA0, cell_kept ((((Kept.refl w2).drew.trans hk3).trans hk4).alloc _) hA1, cell_kept ((((Kept.refl w2).drew.trans hk3).trans hk4).alloc _) hB0, cell_kept ((((Kept.refl w2).drew.trans hk3).trans hk4).alloc _) hB1⟩ (fun hHeld => ?_)
        clear hK K
        refine wpAnyH_ready (rs := [4]) (by kernel_rfl) (by simp) ?_
        refine AllReadyH.cons rfl (fun K hK => ?_) AllReadyH.nil
        go_simp
        refine hK.out _ _ ⟨cell_kept (((((Kept.refl w2).drew.trans hk3).trans hk4).alloc _).alloc _) hA0, cell_kept (((((Kept.refl w2).drew.trans hk3).trans hk4).alloc _).alloc _) hA1, cell_kept (((((Kept.refl w2).drew.trans hk3).trans hk4).alloc _).alloc _) hB0, cell_kept (((((Kept.refl w2).drew.trans hk3).trans hk4).alloc _).alloc _) hB1⟩ (fun hHeld => ?_)
        clear hK K
        have hz80 : ((w4.alloc (Obj.cells #[.bool false, .slice none 0 0] 50)).alloc (Obj.cells #[.bool false, .slice none 0 0] 50)).cell? ⟨w4.heap.size + 1, 0, none⟩ = some (.bool false) := cell_kept (Kept.refl _) (World.cell?_alloc_at _ _ _ _ (by simp))
        have hg80 : ((w4.alloc (Obj.cells #[.bool false, .slice none 0 0] 50)).alloc (Obj.cells #[.bool false, .slice none 0 0] 50)).frozen? ⟨w4.heap.size + 1, 0, none⟩ = false := ((Kept.refl _).frozens _ _ (by simp)).trans (World.frozen?_alloc_at _ _ _ _ (by simp))
        have hz81 : ((w4.alloc (Obj.cells #[.bool false, .slice none 0 0] 50)).alloc (Obj.cells #[.bool false, .slice none 0 0] 50)).cell? ⟨w4.heap.size + 1, 1, none⟩ = some (.slice none 0 0) := cell_kept (Kept.refl _) (World.cell?_alloc_at _ _ _ _ (by simp))
        have hg81 : ((w4.alloc (Obj.cells #[.bool false, .slice none 0 0] 50)).alloc (Obj.cells #[.bool false, .slice none 0 0] 50)).frozen? ⟨w4.heap.size + 1, 1, none⟩ = false := ((Kept.refl _).frozens _ _ (by simp)).trans (World.frozen?_alloc_at _ _ _ _ (by simp))
        have hz90 : ((w4.alloc (Obj.cells #[.bool false, .slice none 0 0] 50)).alloc (Obj.cells #[.bool false, .slice none 0 0] 50)).cell? ⟨w4.heap.size, 0, none⟩ = some (.bool false) := cell_kept ((Kept.refl _).alloc _) (World.cell?_alloc_at _ _ _ _ (by simp))
        have hg90 : ((w4.alloc (Obj.cells #[.bool false, .slice none 0 0] 50)).alloc (Obj.cells #[.bool false, .slice none 0 0] 50)).frozen? ⟨w4.heap.size, 0, none⟩ = false := (((Kept.refl _).alloc _).frozens _ _ (by simp)).trans (World.frozen?_alloc_at _ _ _ _ (by simp))
        have hz91 : ((w4.alloc (Obj.cells #[.bool false, .slice none 0 0] 50)).alloc (Obj.cells #[.bool false, .slice none 0 0] 50)).cell? ⟨w4.heap.size, 1, none⟩ = some (.slice none 0 0) := cell_kept ((Kept.refl _).alloc _) (World.cell?_alloc_at _ _ _ _ (by simp))
        have hg91 : ((w4.alloc (Obj.cells #[.bool false, .slice none 0 0] 50)).alloc (Obj.cells #[.bool false, .slice none 0 0] 50)).frozen? ⟨w4.heap.size, 1, none⟩ = false := (((Kept.refl _).alloc _).frozens _ _ (by simp)).trans (World.frozen?_alloc_at _ _ _ _ (by simp))
        obtain ⟨p8, hp⟩ : ∃ p, p = w4.heap.size + 1 := ⟨_, rfl⟩
        obtain ⟨p9, hq⟩ : ∃ p, p = w4.heap.size := ⟨_, rfl⟩
        have hp8 : w2.heap.size ≤ p8 := by omega
        have hp9 : w2.heap.size ≤ p9 := by omega
        have hne : ¬ (p8 = p9) := by omega
        have hne' : ¬ (p9 = p8) := by omega
        rw [← hp] at hz80 hz81 hg80 hg81 ⊢
        rw [← hq] at hz90 hz91 hg90 hg91 ⊢
        clear hp hq
        have hKT : Kept w2 ((w4.alloc (Obj.cells #[.bool false, .slice none 0 0] 50)).alloc (Obj.cells #[.bool false, .slice none 0 0] 50)) := (((((Kept.refl w2).drew.trans hk3).trans hk4).alloc _).alloc _)
        have ghA0 := cell_kept hKT hA0
        have ghA1 := cell_kept hKT hA1
        have ghB0 := cell_kept hKT hB0
        have ghB1 := cell_kept hKT hB1
        have HN : Hid (NIs ((w4.alloc (Obj.cells #[.bool false, .slice none 0 0] 50)).alloc (Obj.cells #[.bool false, .slice none 0 0] 50)) s3 (.slice a3 k3 c3) (M.int m a) ∧ NIs ((w4.alloc (Obj.cells #[.bool false, .slice none 0 0] 50)).alloc (Obj.cells #[.bool false, .slice none 0 0] 50)) s4 (.slice a4 k4 c4) (M.int n b) ∧ Kept w2 ((w4.alloc (Obj.cells #[.bool false, .slice none 0 0] 50)).alloc (Obj.cells #[.bool false, .slice none 0 0] 50))) := ⟨hN3.kept ((((Kept.refl _).trans hk4).alloc _).alloc _), hN4.kept (((Kept.refl _).alloc _).alloc _), hKT⟩
        clear hN3 hN4 hk3 hk4 hHeld hKT
        generalize ((w4.alloc (Obj.cells #[.bool false, .slice none 0 0] 50)).alloc (Obj.cells #[.bool false, .slice none 0 0] 50)) = Wx at ghA0 ghA1 ghB0 ghB1 hz80 hz81 hz90 hz91 hg80 hg81 hg90 hg91 HN ⊢
        refine wpAnyH_ready (rs := [6]) (by kernel_rfl) (by simp) ?_
        refine AllReadyH.cons rfl (fun K hK => ?_) AllReadyH.nil
        go_simp
        refine hK.out _ _ ⟨set2_far (p := p8) ghA0 (by omega), set2_far (p := p8) ghA1 (by omega), set2_far (p := p8) ghB0 (by omega), set2_far (p := p8) ghB1 (by omega)⟩ (fun hHeld => ?_)
        clear hK K
        refine wpAnyH_ready (rs := [7]) (by kernel_rfl) (by simp) ?_
        refine AllReadyH.cons rfl (fun K hK => ?_) AllReadyH.nil
        go_simp
        refine hK.out _ _ ⟨set2_far (p := p9) (set2_far (p := p8) ghA0 (by omega)) (by omega), set2_far (p := p9) (set2_far (p := p8) ghA1 (by omega)) (by omega), set2_far (p := p9) (set2_far (p := p8) ghB0 (by omega)) (by omega), set2_far (p := p9) (set2_far (p := p8) ghB1 (by omega)) (by omega)⟩ (fun hHeld => ?_)
        clear hK K
        refine wpAnyH_done (by kernel_rfl) ?_ _
        go_wp2_with fail
        go_meet
        case rel =>
          have e8 := set2_at (x := .bool s3) (y := .slice a3 k3 c3) hz80 hz81
          have z90 := set2_far (x := .bool s3) (y := .slice a3 k3 c3) hz90 hne
          have z91 := set2_far (x := .bool s3) (y := .slice a3 k3 c3) hz91 hne
          have e9 := set2_at (x := .bool s4) (y := .slice a4 k4 c4) z90 z91
          exact ⟨p8, p9, s3, s4, a3, a4, k3, k4, c3, c4, rfl, rfl, set2_far e8.1 hne', set2_far e8.2 hne', e9.1, e9.2, by omega, by omega, (((HN.out.2.2.setCell hp8 _).setCell hp8 _).setCell hp9 _).setCell hp9 _, (HN.out.1.box2 hz80 hz81 _ _).box2 z90 z91 _ _, (HN.out.2.1.box2 hz80 hz81 _ _).box2 z90 z91 _ _⟩
      refine AllReadyH.cons rfl (fun K hK => ?_) ?_
      · go_simp
        refine hK.out _ _ ⟨cell_kept (((Kept.refl w2).drew.trans hk3).alloc _) hA0, cell_kept (((Kept.refl w2).drew.trans hk3).alloc _) hA1, cell_kept (((Kept.refl w2).drew.trans hk3).alloc _) hB0, cell_kept (((Kept.refl w2).drew.trans hk3).alloc _) hB1⟩ (fun hHeld => ?_)
        clear hK K
        refine wpAnyH_ready (rs := [3, 5]) (by kernel_rfl) (by simp) ?_
        refine AllReadyH.cons rfl (fun K hK => ?_) ?_
        · go_simp
          refine (Take_any n aob kb capb b _ (HB.out.1.kept (HK2.out.trans (((Kept.refl w2).drew.trans hk3).alloc _))) (by omega)).mono ?_
          rintro e w4 ⟨hk4, s4, a4, k4, c4, rfl, hN4, hl4⟩
          have hs4 : w2.heap.size ≤ w4.heap.size := ((((Kept.refl w2).drew.trans hk3).alloc _).trans hk4).size
          have ht4 := hk4.size
          try simp at ht4
          refine hK.out _ _ ⟨cell_kept ((((Kept.refl w2).drew.trans hk3).alloc _).trans hk4) hA0, cell_kept ((((Kept.refl w2).drew.trans hk3).alloc _).trans hk4) hA1, cell_kept ((((Kept.refl w2).drew.trans hk3).alloc _).trans hk4) hB0, cell_kept ((((Kept.refl w2).drew.trans hk3).alloc _).trans hk4) hB1⟩ (fun hHeld => ?_)
          clear hK K
          refine wpAnyH_ready (rs := [5]) (by kernel_rfl) (by simp) ?_
          refine AllReadyH.cons rfl (fun K hK => ?_) AllReadyH.nil
          go_simp
          refine hK.out _ _ ⟨cell_kept (((((Kept.refl w2).drew.trans hk3).alloc _).trans hk4).alloc _) hA0, cell_kept (((((Kept.refl w2).drew.trans hk3).alloc _).trans hk4).alloc _) hA1, cell_kept (((((Kept.refl w2).drew.trans hk3).alloc _).trans hk4).alloc _) hB0, cell_kept (((((Kept.refl w2).drew.trans hk3).alloc _).trans hk4).alloc _) hB1⟩ (fun hHeld => ?_)
          clear hK K
          have hz80 : (w4.alloc (Obj.cells #[.bool false, .slice none 0 0] 50)).cell? ⟨w3.heap.size, 0, none⟩ = some (.bool false) := cell_kept (((Kept.refl _).trans hk4).alloc _) (World.cell?_alloc_at _ _ _ _ (by simp))
          have hg80 : (w4.alloc (Obj.cells #[.bool false, .slice none 0 0] 50)).frozen? ⟨w3.heap.size, 0, none⟩ = false := ((((Kept.refl _).trans hk4).alloc _).frozens _ _ (by simp)).trans (World.frozen?_alloc_at _ _ _ _ (by simp))
          have hz81 : (w4.alloc (Obj.cells #[.bool false, .slice none 0 0] 50)).cell? ⟨w3.heap.size, 1, none⟩ = some (.slice none 0 0) := cell_kept (((Kept.refl _).trans hk4).alloc _) (World.cell?_alloc_at _ _ _ _ (by simp))
          have hg81 : (w4.alloc (Obj.cells #[.bool false, .slice none 0 0] 50)).frozen? ⟨w3.heap.size, 1, none⟩ = false := ((((Kept.refl _).trans hk4).alloc _).frozens _ _ (by simp)).trans (World.frozen?_alloc_at _ _ _ _ (by simp))
          have hz90 : (w4.alloc (Obj.cells #[.bool false, .slice none 0 0] 50)).cell? ⟨w4.heap.size, 0, none⟩ = some (.bool false) := cell_kept (Kept.refl _) (World.cell?_alloc_at _ _ _ _ (by simp))
          have hg90 : (w4.alloc (Obj.cells #[.bool false, .slice none 0 0] 50)).frozen? ⟨w4.heap.size, 0, none⟩ = false := ((Kept.refl _).frozens _ _ (by simp)).trans (World.frozen?_alloc_at _ _ _ _ (by simp))
          have hz91 : (w4.alloc (Obj.cells #[.bool false, .slice none 0 0] 50)).cell? ⟨w4.heap.size, 1, none⟩ = some (.slice none 0 0) := cell_kept (Kept.refl _) (World.cell?_alloc_at _ _ _ _ (by simp))
          have hg91 : (w4.alloc (Obj.cells #[.bool false, .slice none 0 0] 50)).frozen? ⟨w4.heap.size, 1, none⟩ = false := ((Kept.refl _).frozens _ _ (by simp)).trans (World.frozen?_alloc_at _ _ _ _ (by simp))
          obtain ⟨p8, hp⟩ : ∃ p, p = w3.heap.size := ⟨_, rfl⟩
          obtain ⟨p9, hq⟩ : ∃ p, p = w4.heap.size := ⟨_, rfl⟩
          have hp8 : w2.heap.size ≤ p8 := by omega
          have hp9 : w2.heap.size ≤ p9 := by omega
          have hne : ¬ (p8 = p9) := by omega
          have hne' : ¬ (p9 = p8) := by omega
          rw [← hp] at hz80 hz81 hg80 hg81 ⊢
          rw [← hq] at hz90 hz91 hg90 hg91 ⊢
          clear hp hq
          have hKT : Kept w2 (w4.alloc (Obj.cells #[.bool false, .slice none 0 0] 50)) := (((((Kept.refl w2).drew.trans hk3).alloc _).trans hk4).alloc _)
          have ghA0 := cell_kept hKT hA0
          have ghA1 := cell_kept hKT hA1
          have ghB0 := cell_kept hKT hB0
          have ghB1 := cell_kept hKT hB1
          have HN : Hid (NIs (w4.alloc (Obj.cells #[.bool false, .slice none 0 0] 50)) s3 (.slice a3 k3 c3) (M.int m a) ∧ NIs (w4.alloc (Obj.cells #[.bool false, .slice none 0 0] 50)) s4 (.slice a4 k4 c4) (M.int n b) ∧ Kept w2 (w4.alloc (Obj.cells #[.bool false, .slice none 0 0] 50))) := ⟨hN3.kept ((((Kept.refl _).alloc _).trans hk4).alloc _), hN4.kept ((Kept.refl _).alloc _), hKT⟩
          clear hN3 hN4 hk3 hk4 hHeld hKT
          generalize (w4.alloc (Obj.cells #[.bool false, .slice none 0 0] 50)) = Wx at ghA0 ghA1 ghB0 ghB1 hz80 hz81 hz90 hz91 hg80 hg81 hg90 hg91 HN ⊢
          refine wpAnyH_ready (rs := [6]) (by kernel_rfl) (by simp) ?_
          refine AllReadyH.cons rfl (fun K hK => ?_) AllReadyH.nil
          go_simp
          refine hK.out _ _ ⟨set2_far (p := p8) ghA0 (by omega), set2_far (p := p8) ghA1 (by omega), set2_far (p := p8) ghB0 (by omega), set2_far (p := p8) ghB1 (by omega)⟩ (fun hHeld => ?_)
          clear hK K
          refine wpAnyH_ready (rs := [7]) (by kernel_rfl) (by simp) ?_
          refine AllReadyH.cons rfl (fun K hK => ?_) AllReadyH.nil
          go_simp
          refine hK.out _ _ ⟨set2_far (p := p9) (set2_far (p := p8) ghA0 (by omega)) (by omega), set2_far (p := p9) (set2_far (p := p8) ghA1 (by omega)) (by omega), set2_far (p := p9) (set2_far (p := p8) ghB0 (by omega)) (by omega), set2_far (p := p9) (set2_far (p := p8) ghB1 (by omega)) (by omega)⟩ (fun hHeld => ?_)
          clear hK K
          refine wpAnyH_done (by kernel_rfl) ?_ _
          go_wp2_with fail
          go_meet
          case rel =>
            have e8 := set2_at (x := .bool s3) (y := .slice a3 k3 c3) hz80 hz81
            have z90 := set2_far (x := .bool s3) (y := .slice a3 k3 c3) hz90 hne
            have z91 := set2_far (x := .bool s3) (y := .slice a3 k3 c3) hz91 hne
            have e9 := set2_at (x := .bool s4) (y := .slice a4 k4 c4) z90 z91
            exact ⟨p8, p9, s3, s4, a3, a4, k3, k4, c3, c4, rfl, rfl, set2_far e8.1 hne', set2_far e8.2 hne', e9.1, e9.2, by omega, by omega, (((HN.out.2.2.setCell hp8 _).setCell hp8 _).setCell hp9 _).setCell hp9 _, (HN.out.1.box2 hz80 hz81 _ _).box2 z90 z91 _ _, (HN.out.2.1.box2 hz80 hz81 _ _).box2 z90 z91 _ _⟩
        refine AllReadyH.cons rfl (fun K hK => ?_) AllReadyH.nil
        go_simp
        refine hK.out _ _ ⟨cell_kept ((((Kept.refl w2).drew.trans hk3).alloc _).alloc _) hA0, cell_kept ((((Kept.refl w2).drew.trans hk3).alloc _).alloc _) hA1, cell_kept ((((Kept.refl w2).drew.trans hk3).alloc _).alloc _) hB0, cell_kept ((((Kept.refl w2).drew.trans hk3).alloc _).alloc _) hB1⟩ (fun hHeld => ?_)
        clear hK K
        refine wpAnyH_ready (rs := [3]) (by kernel_rfl) (by simp) ?_
        refine AllReadyH.cons rfl (fun K hK => ?_) AllReadyH.nil
        go_simp
        refine (Take_any n aob kb capb b _ (HB.out.1.kept (HK2.out.trans ((((Kept.refl w2).drew.trans hk3).alloc _).alloc _))) (by omega)).mono ?_
        rintro e w4 ⟨hk4, s4, a4, k4, c4, rfl, hN4, hl4⟩
        have hs4 : w2.heap.size ≤ w4.heap.size := (((((Kept.refl w2).drew.trans hk3).alloc _).alloc _).trans hk4).size
        have ht4 := hk4.size
        try simp at ht4
        refine hK.out _ _ ⟨cell_kept (((((Kept.refl w2).drew.trans hk3).alloc _).alloc _).trans hk4) hA0, cell_kept (((((Kept.refl w2).drew.trans hk3).alloc _).alloc _).trans hk4) hA1, cell_kept (((((Kept.refl w2).drew.trans hk3).alloc _).alloc _).trans hk4) hB0, cell_kept (((((Kept.refl w2).drew.trans hk3).alloc _).alloc _).trans hk4) hB1⟩ (fun hHeld => ?_)
        clear hK K
        have hz80 : w4.cell? ⟨w3.heap.size, 0, none⟩ = some (.bool false) := cell_kept (((Kept.refl _).alloc _).trans hk4) (World.cell?_alloc_at _ _ _ _ (by simp))
        have hg80 : w4.frozen? ⟨w3.heap.size, 0, none⟩ = false := ((((Kept.refl _).alloc _).trans hk4).frozens _ _ (by simp)).trans (World.frozen?_alloc_at _ _ _ _ (by simp))
        have hz81 : w4.cell? ⟨w3.heap.size, 1, none⟩ = some (.slice none 0 0) := cell_kept (((Kept.refl _).alloc _).trans hk4) (World.cell?_alloc_at _ _ _ _ (by simp))
        have hg81 : w4.frozen? ⟨w3.heap.size, 1, none⟩ = false := ((((Kept.refl _).alloc _).trans hk4).frozens _ _ (by simp)).trans (World.frozen?_alloc_at _ _ _ _ (by simp))
        have hz90 : w4.cell? ⟨w3.heap.size + 1, 0, none⟩ = some (.bool false) := cell_kept ((Kept.refl _).trans hk4) (World.cell?_alloc_at _ _ _ _ (by simp))
        have hg90 : w4.frozen? ⟨w3.heap.size + 1, 0, none⟩ = false := (((Kept.refl _).trans hk4).frozens _ _ (by simp)).trans (World.frozen?_alloc_at _ _ _ _ (by simp))
        have hz91 : w4.cell? ⟨w3.heap.size + 1, 1, none⟩ = some (.slice none 0 0) := cell_kept ((Kept.refl _).trans hk4) (World.cell?_alloc_at _ _ _ _ (by simp))
        have hg91 : w4.frozen? ⟨w3.heap.size + 1, 1, none⟩ = false := (((Kept.refl _).trans hk4).frozens _ _ (by simp)).trans (World.frozen?_alloc_at _ _ _ _ (by simp))
        obtain ⟨p8, hp⟩ : ∃ p, p = w3.heap.size := ⟨_, rfl⟩
        obtain ⟨p9, hq⟩ : ∃ p, p = w3.heap.size + 1 := ⟨_, rfl⟩
        have hp8 : w2.heap.size ≤ p8 := by omega
        have hp9 : w2.heap.size ≤ p9 := by omega
        have hne : ¬ (p8 = p9) := by omega
        have hne' : ¬ (p9 = p8) := by omega
        rw [← hq] at hz90 hz91 hg90 hg91 ⊢
        rw [← hp] at hz80 hz81 hg80 hg81 ⊢
        clear hp hq
        have hKT : Kept w2 w4 := (((((Kept.refl w2).drew.trans hk3).alloc _).alloc _).trans hk4)
        have ghA0 := cell_kept hKT hA0
        have ghA1 := cell_kept hKT hA1
        have ghB0 := cell_kept hKT hB0
        have ghB1 := cell_kept hKT hB1
        have HN : Hid (NIs w4 s3 (.slice a3 k3 c3) (M.int m a) ∧ NIs w4 s4 (.slice a4 k4 c4) (M.int n b) ∧ Kept w2 w4) := ⟨hN3.kept ((((Kept.refl _).alloc _).alloc _).trans hk4), hN4.kept (Kept.refl _), hKT⟩
        clear hN3 hN4 hk3 hk4 hHeld hKT
        generalize w4 = Wx at ghA0 ghA1 ghB0 ghB1 hz80 hz81 hz90 hz91 hg80 hg81 hg90 hg91 HN ⊢
        refine wpAnyH_ready (rs := [6]) (by kernel_rfl) (by simp) ?_
        refine AllReadyH.cons rfl (fun K hK => ?_) AllReadyH.nil
        go_simp
        refine hK.out _ _ ⟨set2_far (p := p8) ghA0 (by omega), set2_far (p := p8) ghA1 (by omega), set2_far (p := p8) ghB0 (by omega), set2_far (p := p8) ghB1 (by omega)⟩ (fun hHeld => ?_)
        clear hK K
        refine wpAnyH_ready (rs := [7]) (by kernel_rfl) (by simp) ?_
        refine AllReadyH.cons rfl (fun K hK => ?_) AllReadyH.nil
        go_simp
        refine hK.out _ _ ⟨set2_far (p := p9) (set2_far (p := p8) ghA0 (by omega)) (by omega), set2_far (p := p9) (set2_far (p := p8) ghA1 (by omega)) (by omega), set2_far (p := p9) (set2_far (p := p8) ghB0 (by omega)) (by omega), set2_far (p := p9) (set2_far (p := p8) ghB1 (by omega)) (by omega)⟩ (fun hHeld => ?_)
        clear hK K
        refine wpAnyH_done (by kernel_rfl) ?_ _
        go_wp2_with fail
        go_meet
        case rel =>
          have e8 := set2_at (x := .bool s3) (y := .slice a3 k3 c3) hz80 hz81
          have z90 := set2_far (x := .bool s3) (y := .slice a3 k3 c3) hz90 hne
          have z91 := set2_far (x := .bool s3) (y := .slice a3 k3 c3) hz91 hne
          have e9 := set2_at (x := .bool s4) (y := .slice a4 k4 c4) z90 z91
          exact ⟨p8, p9, s3, s4, a3, a4, k3, k4, c3, c4, rfl, rfl, set2_far e8.1 hne', set2_far e8.2 hne', e9.1, e9.2, by omega, by omega, (((HN.out.2.2.setCell hp8 _).setCell hp8 _).setCell hp9 _).setCell hp9 _, (HN.out.1.box2 hz80 hz81 _ _).box2 z90 z91 _ _, (HN.out.2.1.box2 hz80 hz81 _ _).box2 z90 z91 _ _⟩
      refine AllReadyH.cons rfl (fun K hK => ?_) AllReadyH.nil
      go_simp
      refine hK.out _ _ ⟨cell_kept (((Kept.refl w2).drew.trans hk3).alloc _) hA0, cell_kept (((Kept.refl w2).drew.trans hk3).alloc _) hA1, cell_kept (((Kept.refl w2).drew.trans hk3).alloc _) hB0, cell_kept (((Kept.refl w2).drew.trans hk3).alloc _) hB1⟩ (fun hHeld => ?_)
      clear hK K
      refine wpAnyH_ready (rs := [3, 4]) (by kernel_rfl) (by simp) ?_
      refine AllReadyH.cons rfl (fun K hK => ?_) ?_
      · go_simp
        refine (Take_any n aob kb capb b _ (HB.out.1.kept (HK2.out.trans (((Kept.refl w2).drew.trans hk3).alloc _))) (by omega)).mono ?_
        rintro e w4 ⟨hk4, s4, a4, k4, c4, rfl, hN4, hl4⟩
        have hs4 : w2.heap.size ≤ w4.heap.size := ((((Kept.refl w2).drew.trans hk3).alloc _).trans hk4).size
        have ht4 := hk4.size
        try simp at ht4
        refine hK.out _ _ ⟨cell_kept ((((Kept.refl w2).drew.trans hk3).alloc _).trans hk4) hA0, cell_kept ((((Kept.refl w2).drew.trans hk3).alloc _).trans hk4) hA1, cell_kept ((((Kept.refl w2).drew.trans hk3).alloc _).trans hk4) hB0, cell_kept ((((Kept.refl w2).drew.trans hk3).alloc _).trans hk4) hB1⟩ (fun hHeld => ?_)
        clear hK K
        refine wpAnyH_ready (rs := [4]) (by kernel_rfl) (by simp) ?_
        refine AllReadyH.cons rfl (fun K hK => ?_) AllReadyH.nil
        go_simp
        refine hK.out _ _ ⟨cell_kept (((((Kept.refl w2).drew.trans hk3).alloc _).trans hk4).alloc _) hA0, cell_kept (((((Kept.refl w2).drew.trans hk3).alloc _).trans hk4).alloc _) hA1, cell_kept (((((Kept.refl w2).drew.trans hk3).alloc _).trans hk4).alloc _) hB0, cell_kept (((((Kept.refl w2).drew.trans hk3).alloc _).trans hk4).alloc _) hB1⟩ (fun hHeld => ?_)
        clear hK K
        have hz80 : (w4.alloc (Obj.cells #[.bool false, .slice none 0 0] 50)).cell? ⟨w4.heap.size, 0, none⟩ = some (.bool false) := cell_kept (Kept.refl _) (World.cell?_alloc_at _ _ _ _ (by simp))
        have hg80 : (w4.alloc (Obj.cells #[.bool false, .slice none 0 0] 50)).frozen? ⟨w4.heap.size, 0, none⟩ = false := ((Kept.refl _).frozens _ _ (by simp)).trans (World.frozen?_alloc_at _ _ _ _ (by simp))
        have hz81 : (w4.alloc (Obj.cells #[.bool false, .slice none 0 0] 50)).cell? ⟨w4.heap.size, 1, none⟩ = some (.slice none 0 0) := cell_kept (Kept.refl _) (World.cell?_alloc_at _ _ _ _ (by simp))
        have hg81 : (w4.alloc (Obj.cells #[.bool false, .slice none 0 0] 50)).frozen? ⟨w4.heap.size, 1, none⟩ = false := ((Kept.refl _).frozens _ _ (by simp)).trans (World.frozen?_alloc_at _ _ _ _ (by simp))
        have hz90 : (w4.alloc (Obj.cells #[.bool false, .slice none 0 0] 50)).cell? ⟨w3.heap.size, 0, none⟩ = some (.bool false) := cell_kept (((Kept.refl _).trans hk4).alloc _) (World.cell?_alloc_at _ _ _ _ (by simp))
        have hg90 : (w4.alloc (Obj.cells #[.bool false, .slice none 0 0] 50)).frozen? ⟨w3.heap.size, 0, none⟩ = false := ((((Kept.refl _).trans hk4).alloc _).frozens _ _ (by simp)).trans (World.frozen?_alloc_at _ _ _ _ (by simp))
        have hz91 : (w4.alloc (Obj.cells #[.bool false, .slice none 0 0] 50)).cell? ⟨w3.heap.size, 1, none⟩ = some (.slice none 0 0) := cell_kept (((Kept.refl _).trans hk4).alloc _) (World.cell?_alloc_at _ _ _ _ (by simp))
        have hg91 : (w4.alloc (Obj.cells #[.bool false, .slice none 0 0] 50)).frozen? ⟨w3.heap.size, 1, none⟩ = false := ((((Kept.refl _).trans hk4).alloc _).frozens _ _ (by simp)).trans (World.frozen?_alloc_at _ _ _ _ (by simp))
        obtain ⟨p8, hp⟩ : ∃ p, p = w4.heap.size := ⟨_, rfl⟩
        obtain ⟨p9, hq⟩ : ∃ p, p = w3.heap.size := ⟨_, rfl⟩
        have hp8 : w2.heap.size ≤ p8 := by omega
        have hp9 : w2.heap.size ≤ p9 := by omega
        have hne : ¬ (p8 = p9) := by omega
        have hne' : ¬ (p9 = p8) := by omega
        rw [← hp] at hz80 hz81 hg80 hg81 ⊢
        rw [← hq] at hz90 hz91 hg90 hg91 ⊢
        clear hp hq
        have hKT : Kept w2 (w4.alloc (Obj.cells #[.bool false, .slice none 0 0] 50)) := (((((Kept.refl w2).drew.trans hk3).alloc _).trans hk4).alloc _)
        have ghA0 := cell_kept hKT hA0
        have ghA1 := cell_kept hKT hA1
        have ghB0 := cell_kept hKT hB0
        have ghB1 := cell_kept hKT hB1
        have HN : Hid (NIs (w4.alloc (Obj.cells #[.bool false, .slice none 0 0] 50)) s3 (.slice a3 k3 c3) (M.int m a) ∧ NIs (w4.alloc (Obj.cells #[.bool false, .slice none 0 0] 50)) s4 (.slice a4 k4 c4) (M.int n b) ∧ Kept w2 (w4.alloc (Obj.cells #[.bool false, .slice none 0 0] 50))) := ⟨hN3.kept ((((Kept.refl _).alloc _).trans hk4).alloc _), hN4.kept ((Kept.refl _).alloc _), hKT⟩
        clear hN3 hN4 hk3 hk4 hHeld hKT
        generalize (w4.alloc (Obj.cells #[.bool false, .slice none 0 0] 50)) = Wx at ghA0 ghA1 ghB0 ghB1 hz80 hz81 hz90 hz91 hg80 hg81 hg90 hg91 HN ⊢
        refine wpAnyH_ready (rs := [6]) (by kernel_rfl) (by simp) ?_
        refine AllReadyH.cons rfl (fun K hK => ?_) AllReadyH.nil
        go_simp
        refine hK.out _ _ ⟨set2_far (p := p8) ghA0 (by omega), set2_far (p := p8) ghA1 (by omega), set2_far (p := p8) ghB0 (by omega), set2_far (p := p8) ghB1 (by omega)⟩ (fun hHeld => ?_)
        clear hK K
        refine wpAnyH_ready (rs := [7]) (by kernel_rfl) (by simp) ?_
        refine AllReadyH.cons rfl (fun K hK => ?_) AllReadyH.nil
        go_simp
        refine hK.out _ _ ⟨set2_far (p := p9) (set2_far (p := p8) ghA0 (by omega)) (by omega), set2_far (p := p9) (set2_far (p := p8) ghA1 (by omega)) (by omega), set2_far (p := p9) (set2_far (p := p8) ghB0 (by omega)) (by omega), set2_far (p := p9) (set2_far (p := p8) ghB1 (by omega)) (by omega)⟩ (fun hHeld => ?_)
        clear hK K
        refine wpAnyH_done (by kernel_rfl) ?_ _
        go_wp2_with fail
        go_meet
        case rel =>
          have e8 := set2_at (x := .bool s3) (y := .slice a3 k3 c3) hz80 hz81
          have z90 := set2_far (x := .bool s3) (y := .slice a3 k3 c3) hz90 hne
          have z91 := set2_far (x := .bool s3) (y := .slice a3 k3 c3) hz91 hne
          have e9 := set2_at (x := .bool s4) (y := .slice a4 k4 c4) z90 z91
          exact ⟨p8, p9, s3, s4, a3, a4, k3, k4, c3, c4, rfl, rfl, set2_far e8.1 hne', set2_far e8.2 hne', e9.1, e9.2, by omega, by omega, (((HN.out.2.2.setCell hp8 _).setCell hp8 _).setCell hp9 _).setCell hp9 _, (HN.out.1.box2 hz80 hz81 _ _).box2 z90 z91 _ _, (HN.out.2.1.box2 hz80 hz81 _ _).box2 z90 z91 _ _⟩
      refine AllReadyH.cons rfl (fun K hK => ?_) AllReadyH.nil
      go_simp
      refine hK.out _ _ ⟨cell_kept ((((Kept.refl w2).drew.trans hk3).alloc _).alloc _) hA0, cell_kept ((((Kept.refl w2).drew.trans hk3).alloc _).alloc _) hA1, cell_kept ((((Kept.refl w2).drew.trans hk3).alloc _).alloc _) hB0, cell_kept ((((Kept.refl w2).drew.trans hk3).alloc _).alloc _) hB1⟩ (fun hHeld => ?_)
      clear hK K
      refine wpAnyH_ready (rs := [3]) (by kernel_rfl) (by simp) ?_
      refine AllReadyH.cons rfl (fun K hK => ?_) AllReadyH.nil
      go_simp
      refine (Take_any n aob kb capb b _ (HB.out.1.kept (HK2.out.trans ((((Kept.refl w2).drew.trans hk3).alloc _).alloc _))) (by omega)).mono ?_
      rintro e w4 ⟨hk4, s4, a4, k4, c4, rfl, hN4, hl4⟩
      have hs4 : w2.heap.size ≤ w4.heap.size := (((((Kept.refl w2).drew.trans hk3).alloc _).alloc _).trans hk4).size
      have ht4 := hk4.size
      try simp at ht4
      refine hK.out _ _ ⟨cell_kept (((((Kept.refl w2).drew.trans hk3).alloc _).alloc _).trans hk4) hA0, cell_kept (((((Kept.refl w2).drew.trans hk3).alloc _).alloc _).trans hk4) hA1, cell_kept (((((Kept.refl w2).drew.trans hk3).alloc _).alloc _).trans hk4) hB0, cell_kept (((((Kept.refl w2).drew.trans hk3).alloc _).alloc _).trans hk4) hB1⟩ (fun hHeld => ?_)
      clear hK K
      have hz80 : w4.cell? ⟨w3.heap.size + 1, 0, none⟩ = some (.bool false) := cell_kept ((Kept.refl _).trans hk4) (World.cell?_alloc_at _ _ _ _ (by simp))
      have hg80 : w4.frozen? ⟨w3.heap.size + 1, 0, none⟩ = false := (((Kept.refl _).trans hk4).frozens _ _ (by simp)).trans (World.frozen?_alloc_at _ _ _ _ (by simp))
      have hz81 : w4.cell? ⟨w3.heap.size + 1, 1, none⟩ = some (.slice none 0 0) := cell_kept ((Kept.refl _).trans hk4) (World.cell?_alloc_at _ _ _ _ (by simp))
      have hg81 : w4.frozen? ⟨w3.heap.size + 1, 1, none⟩ = false := (((Kept.refl _).trans hk4).frozens _ _ (by simp)).trans (World.frozen?_alloc_at _ _ _ _ (by simp))
      have hz90 : w4.cell? ⟨w3.heap.size, 0, none⟩ = some (.bool false) := cell_kept (((Kept.refl _).alloc _).trans hk4) (World.cell?_alloc_at _ _ _ _ (by simp))
      have hg90 : w4.frozen? ⟨w3.heap.size, 0, none⟩ = false := ((((Kept.refl _).alloc _).trans hk4).frozens _ _ (by simp)).trans (World.frozen?_alloc_at _ _ _ _ (by simp))
      have hz91 : w4.cell? ⟨w3.heap.size, 1, none⟩ = some (.slice none 0 0) := cell_kept (((Kept.refl _).alloc _).trans hk4) (World.cell?_alloc_at _ _ _ _ (by simp))
      have hg91 : w4.frozen? ⟨w3.heap.size, 1, none⟩ = false := ((((Kept.refl _).alloc _).trans hk4).frozens _ _ (by simp)).trans (World.frozen?_alloc_at _ _ _ _ (by simp))
      obtain ⟨p8, hp⟩ : ∃ p, p = w3.heap.size + 1 := ⟨_, rfl⟩
      obtain ⟨p9, hq⟩ : ∃ p, p = w3.heap.size := ⟨_, rfl⟩
      have hp8 : w2.heap.size ≤ p8 := by omega
      have hp9 : w2.heap.size ≤ p9 := by omega
      have hne : ¬ (p8 = p9) := by omega
      have hne' : ¬ (p9 = p8) := by omega
      rw [← hp] at hz80 hz81 hg80 hg81 ⊢
      rw [← hq] at hz90 hz91 hg90 hg91 ⊢
      clear hp hq
      have hKT : Kept w2 w4 := (((((Kept.refl w2).drew.trans hk3).alloc _).alloc _).trans hk4)
      have ghA0 := cell_kept hKT hA0
      have ghA1 := cell_kept hKT hA1
      have ghB0 := cell_kept hKT hB0
      have ghB1 := cell_kept hKT hB1
      have HN : Hid (NIs w4 s3 (.slice a3 k3 c3) (M.int m a) ∧ NIs w4 s4 (.slice a4 k4 c4) (M.int n b) ∧ Kept w2 w4) := ⟨hN3.kept ((((Kept.refl _).alloc _).alloc _).trans hk4), hN4.kept (Kept.refl _), hKT⟩
      clear hN3 hN4 hk3 hk4 hHeld hKT
      generalize w4 = Wx at ghA0 ghA1 ghB0 ghB1 hz80 hz81 hz90 hz91 hg80 hg81 hg90 hg91 HN ⊢
      refine wpAnyH_ready (rs := [6]) (by kernel_rfl) (by simp) ?_
      refine AllReadyH.cons rfl (fun K hK => ?_) AllReadyH.nil
      go_simp
      refine hK.out _ _ ⟨set2_far (p := p8) ghA0 (by omega), set2_far (p := p8) ghA1 (by omega), set2_far (p := p8) ghB0 (by omega), set2_far (p := p8) ghB1 (by omega)⟩ (fun hHeld => ?_)
      clear hK K
      refine wpAnyH_ready (rs := [7]) (by kernel_rfl) (by simp) ?_
      refine AllReadyH.cons rfl (fun K hK => ?_) AllReadyH.nil
      go_simp
      refine hK.out _ _ ⟨set2_far (p := p9) (set2_far (p := p8) ghA0 (by omega)) (by omega), set2_far (p := p9) (set2_far (p := p8) ghA1 (by omega)) (by omega), set2_far (p := p9) (set2_far (p := p8) ghB0 (by omega)) (by omega), set2_far (p := p9) (set2_far (p := p8) ghB1 (by omega)) (by omega)⟩ (fun hHeld => ?_)
      clear hK K
      refine wpAnyH_done (by kernel_rfl) ?_ _
      go_wp2_with fail
      go_meet
      case rel =>
        have e8 := set2_at (x := .bool s3) (y := .slice a3 k3 c3) hz80 hz81
        have z90 := set2_far (x := .bool s3) (y := .slice a3 k3 c3) hz90 hne
        have z91 := set2_far (x := .bool s3) (y := .slice a3 k3 c3) hz91 hne
        have e9 := set2_at (x := .bool s4) (y := .slice a4 k4 c4) z90 z91
        exact ⟨p8, p9, s3, s4, a3, a4, k3, k4, c3, c4, rfl, rfl, set2_far e8.1 hne', set2_far e8.2 hne', e9.1, e9.2, by omega, by omega, (((HN.out.2.2.setCell hp8 _).setCell hp8 _).setCell hp9 _).setCell hp9 _, (HN.out.1.box2 hz80 hz81 _ _).box2 z90 z91 _ _, (HN.out.2.1.box2 hz80 hz81 _ _).box2 z90 z91 _ _⟩
    refine AllReadyH.cons rfl (fun K hK => ?_) ?_
    · go_simp
      refine hK.out _ _ ⟨cell_kept ((Kept.refl w2).drew.alloc _) hA0, cell_kept ((Kept.refl w2).drew.alloc _) hA1, cell_kept ((Kept.refl w2).drew.alloc _) hB0, cell_kept ((Kept.refl w2).drew.alloc _) hB1⟩ (fun hHeld => ?_)
      clear hK K
      refine wpAnyH_ready (rs := [1, 5]) (by kernel_rfl) (by simp) ?_
      refine AllReadyH.cons rfl (fun K hK => ?_) ?_
      · go_simp
        refine (Take_any m aoa ka capa a _ (HA.out.1.kept (HK2.out.trans ((Kept.refl w2).drew.alloc _))) (by omega)).mono ?_
        rintro e w3 ⟨hk3, s3, a3, k3, c3, rfl, hN3, hl3⟩
        have hs3 : w2.heap.size ≤ w3.heap.size := (((Kept.refl w2).drew.alloc _).trans hk3).size
        have ht3 := hk3.size
        try simp at ht3
        refine hK.out _ _ ⟨cell_kept (((Kept.refl w2).drew.alloc _).trans hk3) hA0, cell_kept (((Kept.refl w2).drew.alloc _).trans hk3) hA1, cell_kept (((Kept.refl w2).drew.alloc _).trans hk3) hB0, cell_kept (((Kept.refl w2).drew.alloc _).trans hk3) hB1⟩ (fun hHeld => ?_)
        clear hK K
        refine wpAnyH_ready (rs := [3, 5]) (by kernel_rfl) (by simp) ?_
        refine AllReadyH.cons rfl (fun K hK => ?_) ?_
        · go_simp
          refine (Take_any n aob kb capb b _ (HB.out.1.kept (HK2.out.trans (((Kept.refl w2).drew.alloc _).trans hk3))) (by omega)).mono ?_
          rintro e w4 ⟨hk4, s4, a4, k4, c4, rfl, hN4, hl4⟩
          have hs4 : w2.heap.size ≤ w4.heap.size := ((((Kept.refl w2).drew.alloc _).trans hk3).trans hk4).size
          have ht4 := hk4.size
          try simp at ht4
          refine hK.out _ _ ⟨cell_kept ((((Kept.refl w2).drew.alloc _).trans hk3).trans hk4) hA0, cell_kept ((((Kept.refl w2).drew.alloc _).trans hk3).trans hk4) hA1, cell_kept ((((Kept.refl w2).drew.alloc _).trans hk3).trans hk4) hB0, cell_kept ((((Kept.refl w2).drew.alloc _).trans hk3).trans hk4) hB1⟩ (fun hHeld => ?_)
          clear hK K
          refine wpAnyH_ready (rs := [5]) (by kernel_rfl) (by simp) ?_
          refine AllReadyH.cons rfl (fun K hK => ?_) AllReadyH.nil
          go_simp
          refine hK.out _ _ ⟨cell_kept (((((Kept.refl w2).drew.alloc _).trans hk3).trans hk4).alloc _) hA0, cell_kept (((((Kept.refl w2).drew.alloc _).trans hk3).trans hk4).alloc _) hA1, cell_kept (((((Kept.refl w2).drew.alloc _).trans hk3).trans hk4).alloc _) hB0, cell_kept (((((Kept.refl w2).drew.alloc _).trans hk3).trans hk4).alloc _) hB1⟩ (fun hHeld => ?_)
          clear hK K
          have hz80 : (w4.alloc (Obj.cells #[.bool false, .slice none 0 0] 50)).cell? ⟨w2.heap.size, 0, none⟩ = some (.bool false) := cell_kept ((((Kept.refl _).trans hk3).trans hk4).alloc _) (World.cell?_alloc_at _ _ _ _ (by simp))
          have hg80 : (w4.alloc (Obj.cells #[.bool false, .slice none 0 0] 50)).frozen? ⟨w2.heap.size, 0, none⟩ = false := (((((Kept.refl _).trans hk3).trans hk4).alloc _).frozens _ _ (by simp)).trans (World.frozen?_alloc_at _ _ _ _ (by simp))
          have hz81 : (w4.alloc (Obj.cells #[.bool false, .slice none 0 0] 50)).cell? ⟨w2.heap.size, 1, none⟩ = some (.slice none 0 0) := cell_kept ((((Kept.refl _).trans hk3).trans hk4).alloc _) (World.cell?_alloc_at _ _ _ _ (by simp))
          have hg81 : (w4.alloc (Obj.cells #[.bool false, .slice none 0 0] 50)).frozen? ⟨w2.heap.size, 1, none⟩ = false := (((((Kept.refl _).trans hk3).trans hk4).alloc _).frozens _ _ (by simp)).trans (World.frozen?_alloc_at _ _ _ _ (by simp))
          have hz90 : (w4.alloc (Obj.cells #[.bool false, .slice none 0 0] 50)).cell? ⟨w4.heap.size, 0, none⟩ = some (.bool false) := cell_kept (Kept.refl _) (World.cell?_alloc_at _ _ _ _ (by simp))
          have hg90 : (w4.alloc (Obj.cells #[.bool false, .slice none 0 0] 50)).frozen? ⟨w4.heap.size, 0, none⟩ = false := ((Kept.refl _).frozens _ _ (by simp)).trans (World.frozen?_alloc_at _ _ _ _ (by simp))
          have hz91 : (w4.alloc (Obj.cells #[.bool false, .slice none 0 0] 50)).cell? ⟨w4.heap.size, 1, none⟩ = some (.slice none 0 0) := cell_kept (Kept.refl _) (World.cell?_alloc_at _ _ _ _ (by simp))
          have hg91 : (w4.alloc (Obj.cells #[.bool false, .slice none 0 0] 50)).frozen? ⟨w4.heap.size, 1, none⟩ = false := ((Kept.refl _).frozens _ _ (by simp)).trans (World.frozen?_alloc_at _ _ _ _ (by simp))
          obtain ⟨p8, hp⟩ : ∃ p, p = w2.heap.size := ⟨_, rfl⟩
          obtain ⟨p9, hq⟩ : ∃ p, p = w4.heap.size := ⟨_, rfl⟩
          have hp8 : w2.heap.size ≤ p8 := by omega
          have hp9 : w2.heap.size ≤ p9 := by omega
          have hne : ¬ (p8 = p9) := by omega
          have hne' : ¬ (p9 = p8) := by omega
          rw [← hp] at hz80 hz81 hg80 hg81 ⊢
          rw [← hq] at hz90 hz91 hg90 hg91 ⊢
          clear hp hq
          have hKT : Kept w2 (w4.alloc (Obj.cells #[.bool false, .slice none 0 0] 50)) := (((((Kept.refl w2).drew.alloc _).trans hk3).trans hk4).alloc _)
          have ghA0 := cell_kept hKT hA0
          have ghA1 := cell_kept hKT hA1
          have ghB0 := cell_kept hKT hB0
          have ghB1 := cell_kept hKT hB1
          have HN : Hid (NIs (w4.alloc (Obj.cells #[.bool false, .slice none 0 0] 50)) s3 (.slice a3 k3 c3) (M.int m a) ∧ NIs (w4.alloc (Obj.cells #[.bool false, .slice none 0 0] 50)) s4 (.slice a4 k4 c4) (M.int n b) ∧ Kept w2 (w4.alloc (Obj.cells #[.bool false, .slice none 0 0] 50))) := ⟨hN3.kept (((Kept.refl _).trans hk4).alloc _), hN4.kept ((Kept.refl _).alloc _), hKT⟩
          clear hN3 hN4 hk3 hk4 hHeld hKT
          generalize (w4.alloc (Obj.cells #[.bool false, .slice none 0 0] 50)) = Wx at ghA0 ghA1 ghB0 ghB1 hz80 hz81 hz90 hz91 hg80 hg81 hg90 hg91 HN ⊢
          refine wpAnyH_ready (rs := [6]) (by kernel_rfl) (by simp) ?_
          refine AllReadyH.cons rfl (fun K hK => ?_) AllReadyH.nil
          go_simp
          refine hK.out _ _ ⟨set2_far (p := p8) ghA0 (by omega), set2_far (p := p8) ghA1 (by omega), set2_far (p := p8) ghB0 (by omega), set2_far (p := p8) ghB1 (by omega)⟩ (fun hHeld => ?_)
          clear hK K
          refine wpAnyH_ready (rs := [7]) (by kernel_rfl) (by simp) ?_
          refine AllReadyH.cons rfl (fun K hK => ?_) AllReadyH.nil
          go_simp
          refine hK.out _ _ ⟨set2_far (p := p9) (set2_far (p := p8) ghA0 (by omega)) (by omega), set2_far (p := p9) (set2_far (p := p8) ghA1 (by omega)) (by omega), set2_far (p := p9) (set2_far (p := p8) ghB0 (by omega)) (by omega), set2_far (p := p9) (set2_far (p := p8) ghB1 (by omega)) (by omega)⟩ (fun hHeld => ?_)
          clear hK K
          refine wpAnyH_done (by kernel_rfl) ?_ _
          go_wp2_with fail
          go_meet
          case rel =>
            have e8 := set2_at (x := .bool s3) (y := .slice a3 k3 c3) hz80 hz81
            have z90 := set2_far (x := .bool s3) (y := .slice a3 k3 c3) hz90 hne
            have z91 := set2_far (x := .bool s3) (y := .slice a3 k3 c3) hz91 hne
            have e9 := set2_at (x := .bool s4) (y := .slice a4 k4 c4) z90 z91
            exact ⟨p8, p9, s3, s4, a3, a4, k3, k4, c3, c4, rfl, rfl, set2_far e8.1 hne', set2_far e8.2 hne', e9.1, e9.2, by omega, by omega, (((HN.out.2.2.setCell hp8 _).setCell hp8 _).setCell hp9 _).setCell hp9 _, (HN.out.1.box2 hz80 hz81 _ _).box2 z90 z91 _ _, (HN.out.2.1.box2 hz80 hz81 _ _).box2 z90 z91 _ _⟩
        refine AllReadyH.cons rfl (fun K hK => ?_) AllReadyH.nil
        go_simp
        refine hK.out _ _ ⟨cell_kept ((((Kept.refl w2).drew.alloc _).trans hk3).alloc _) hA0, cell_kept ((((Kept.refl w2).drew.alloc _).trans hk3).alloc _) hA1, cell_kept ((((Kept.refl w2).drew.alloc _).trans hk3).alloc _) hB0, cell_kept ((((Kept.refl w2).drew.alloc _).trans hk3).alloc _) hB1⟩ (fun hHeld => ?_)
        clear hK K
        refine wpAnyH_ready (rs := [3]) (by kernel_rfl) (by simp) ?_
        refine AllReadyH.cons rfl (fun K hK => ?_) AllReadyH.nil
        go_simp
        refine (Take_any n aob kb capb b _ (HB.out.1.kept (HK2.out.trans ((((Kept.refl w2).drew.alloc _).trans hk3).alloc _))) (by omega)).mono ?_
        rintro e w4 ⟨hk4, s4, a4, k4, c4, rfl, hN4, hl4⟩
        have hs4 : w2.heap.size ≤ w4.heap.size := (((((Kept.refl w2).drew.alloc _).trans hk3).alloc _).trans hk4).size
        have ht4 := hk4.size
        try simp at ht4
        refine hK.out _ _ ⟨cell_kept (((((Kept.refl w2).drew.alloc _).trans hk3).alloc _).trans hk4) hA0, cell_kept (((((Kept.refl w2).drew.alloc _).trans hk3).alloc _).trans hk4) hA1, cell_kept (((((Kept.refl w2).drew.alloc _).trans hk3).alloc _).trans hk4) hB0, cell_kept (((((Kept.refl w2).drew.alloc _).trans hk3).alloc _).trans hk4) hB1⟩ (fun hHeld => ?_)
        clear hK K
        have hz80 : w4.cell? ⟨w2.heap.size, 0, none⟩ = some (.bool false) := cell_kept ((((Kept.refl _).trans hk3).alloc _).trans hk4) (World.cell?_alloc_at _ _ _ _ (by simp))
        have hg80 : w4.frozen? ⟨w2.heap.size, 0, none⟩ = false := (((((Kept.refl _).trans hk3).alloc _).trans hk4).frozens _ _ (by simp)).trans (World.frozen?_alloc_at _ _ _ _ (by simp))
        have hz81 : w4.cell? ⟨w2.heap.size, 1, none⟩ = some (.slice none 0 0) := cell_kept ((((Kept.refl _).trans hk3).alloc _).trans hk4) (World.cell?_alloc_at _ _ _ _ (by simp))
        have hg81 : w4.frozen? ⟨w2.heap.size, 1, none⟩ = false := (((((Kept.refl _).trans hk3).alloc _).trans hk4).frozens _ _ (by simp)).trans (World.frozen?_alloc_at _ _ _ _ (by simp))
        have hz90 : w4.cell? ⟨w3.heap.size, 0, none⟩ = some (.bool false) := cell_kept ((Kept.refl _).trans hk4) (World.cell?_alloc_at _ _ _ _ (by simp))
        have hg90 : w4.frozen? ⟨w3.heap.size, 0, none⟩ = false := (((Kept.refl _).trans hk4).frozens _ _ (by simp)).trans (World.frozen?_alloc_at _ _ _ _ (by simp))
        have hz91 : w4.cell? ⟨w3.heap.size, 1, none⟩ = some (.slice none 0 0) := cell_kept ((Kept.refl _).trans hk4) (World.cell?_alloc_at _ _ _ _ (by simp))
        have hg91 : w4.frozen? ⟨w3.heap.size, 1, none⟩ = false := (((Kept.refl _).trans hk4).frozens _ _ (by simp)).trans (World.frozen?_alloc_at _ _ _ _ (by simp))
        obtain ⟨p8, hp⟩ : ∃ p, p = w2.heap.size := ⟨_, rfl⟩
        obtain ⟨p9, hq⟩ : ∃ p, p = w3.heap.size := ⟨_, rfl⟩
        have hp8 : w2.heap.size ≤ p8 := by omega
        have hp9 : w2.heap.size ≤ p9 := by omega
        have hne : ¬ (p8 = p9) := by omega
        have hne' : ¬ (p9 = p8) := by omega
        rw [← hp] at hz80 hz81 hg80 hg81 ⊢
        rw [← hq] at hz90 hz91 hg90 hg91 ⊢
        clear hp hq
        have hKT : Kept w2 w4 := (((((Kept.refl w2).drew.alloc _).trans hk3).alloc _).trans hk4)
        have ghA0 := cell_kept hKT hA0
        have ghA1 := cell_kept hKT hA1
        have ghB0 := cell_kept hKT hB0
        have ghB1 := cell_kept hKT hB1
        have HN : Hid (NIs w4 s3 (.slice a3 k3 c3) (M.int m a) ∧ NIs w4 s4 (.slice a4 k4 c4) (M.int n b) ∧ Kept w2 w4) := ⟨hN3.kept (((Kept.refl _).alloc _).trans hk4), hN4.kept (Kept.refl _), hKT⟩
        clear hN3 hN4 hk3 hk4 hHeld hKT
        generalize w4 = Wx at ghA0 ghA1 ghB0 ghB1 hz80 hz81 hz90 hz91 hg80 hg81 hg90 hg91 HN ⊢
        refine wpAnyH_ready (rs := [6]) (by kernel_rfl) (by simp) ?_
        refine AllReadyH.cons rfl (fun K hK => ?_) AllReadyH.nil
        go_simp
        refine hK.out _ _ ⟨set2_far (p := p8) ghA0 (by omega), set2_far (p := p8) ghA1 (by omega), set2_far (p := p8) ghB0 (by omega), set2_far (p := p8) ghB1 (by omega)⟩ (fun hHeld => ?_)
        clear hK K
        refine wpAnyH_ready (rs := [7]) (by kernel_rfl) (by simp) ?_
        refine AllReadyH.cons rfl (fun K hK => ?_) AllReadyH.nil
        go_simp
        refine hK.out _ _ ⟨set2_far (p := p9) (set2_far (p := p8) ghA0 (by omega)) (by omega), set2_far (p := p9) (set2_far (p := p8) ghA1 (by omega)) (by omega), set2_far (p := p9) (set2_far (p := p8) ghB0 (by omega)) (by omega), set2_far (p := p9) (set2_far (p := p8) ghB1 (by omega)) (by omega)⟩ (fun hHeld => ?_)
        clear hK K
        refine wpAnyH_done (by kernel_rfl) ?_ _
        go_wp2_with fail
        go_meet
        case rel =>
          have e8 := set2_at (x := .bool s3) (y := .slice a3 k3 c3) hz80 hz81
          have z90 := set2_far (x := .bool s3) (y := .slice a3 k3 c3) hz90 hne
          have z91 := set2_far (x := .bool s3) (y := .slice a3 k3 c3) hz91 hne
          have e9 := set2_at (x := .bool s4) (y := .slice a4 k4 c4) z90 z91
          exact ⟨p8, p9, s3, s4, a3, a4, k3, k4, c3, c4, rfl, rfl, set2_far e8.1 hne', set2_far e8.2 hne', e9.1, e9.2, by omega, by omega, (((HN.out.2.2.setCell hp8 _).setCell hp8 _).setCell hp9 _).setCell hp9 _, (HN.out.1.box2 hz80 hz81 _ _).box2 z90 z91 _ _, (HN.out.2.1.box2 hz80 hz81 _ _).box2 z90 z91 _ _⟩
      refine AllReadyH.cons rfl (fun K hK => ?_) AllReadyH.nil
      go_simp
      refine hK.out _ _ ⟨cell_kept (((Kept.refl w2).drew.alloc _).alloc _) hA0, cell_kept (((Kept.refl w2).drew.alloc _).alloc _) hA1, cell_kept (((Kept.refl w2).drew.alloc _).alloc _) hB0, cell_kept (((Kept.refl w2).drew.alloc _).alloc _) hB1⟩ (fun hHeld => ?_)
      clear hK K
      refine wpAnyH_ready (rs := [1]) (by kernel_rfl) (by simp) ?_
      refine AllReadyH.cons rfl (fun K hK => ?_) AllReadyH.nil
      go_simp
      refine (Take_any m aoa ka capa a _ (HA.out.1.kept (HK2.out.trans (((Kept.refl w2).drew.alloc _).alloc _))) (by omega)).mono ?_
      rintro e w3 ⟨hk3, s3, a3, k3, c3, rfl, hN3, hl3⟩
      have hs3 : w2.heap.size ≤ w3.heap.size := ((((Kept.refl w2).drew.alloc _).alloc _).trans hk3).size
      have ht3 := hk3.size
      try simp at ht3
      refine hK.out _ _ ⟨cell_kept ((((Kept.refl w2).drew.alloc _).alloc _).trans hk3) hA0, cell_kept ((((Kept.refl w2).drew.alloc _).alloc _).trans hk3) hA1, cell_kept ((((Kept.refl w2).drew.alloc _).alloc _).trans hk3) hB0, cell_kept ((((Kept.refl w2).drew.alloc _).alloc _).trans hk3) hB1⟩ (fun hHeld => ?_)
      clear hK K
      refine wpAnyH_ready (rs := [3]) (by kernel_rfl) (by simp) ?_
      refine AllReadyH.cons rfl (fun K hK => ?_) AllReadyH.nil
      go_simp
      refine (Take_any n aob kb capb b _ (HB.out.1.kept (HK2.out.trans ((((Kept.refl w2).drew.alloc _).alloc _).trans hk3))) (by omega)).mono ?_
      rintro e w4 ⟨hk4, s4, a4, k4, c4, rfl, hN4, hl4⟩
      have hs4 : w2.heap.size ≤ w4.heap.size := (((((Kept.refl w2).drew.alloc _).alloc _).trans hk3).trans hk4).size
      have ht4 := hk4.size
      try simp at ht4
      refine hK.out _ _ ⟨cell_kept (((((Kept.refl w2).drew.alloc _).alloc _).trans hk3).trans hk4) hA0, cell_kept (((((Kept.refl w2).drew.alloc _).alloc _).trans hk3).trans hk4) hA1, cell_kept (((((Kept.refl w2).drew.alloc _).alloc _).trans hk3).trans hk4) hB0, cell_kept (((((Kept.refl w2).drew.alloc _).alloc _).trans hk3).trans hk4) hB1⟩ (fun hHeld => ?_)
      clear hK K
      have hz80 : w4.cell? ⟨w2.heap.size, 0, none⟩ = some (.bool false) := cell_kept ((((Kept.refl _).alloc _).trans hk3).trans hk4) (World.cell?_alloc_at _ _ _ _ (by simp))
      have hg80 : w4.frozen? ⟨w2.heap.size, 0, none⟩ = false := (((((Kept.refl _).alloc _).trans hk3).trans hk4).frozens _ _ (by simp)).trans (World.frozen?_alloc_at _ _ _ _ (by simp))
      have hz81 : w4.cell? ⟨w2.heap.size, 1, none⟩ = some (.slice none 0 0) := cell_kept ((((Kept.refl _).alloc _).trans hk3).trans hk4) (World.cell?_alloc_at _ _ _ _ (by simp))
      have hg81 : w4.frozen? ⟨w2.heap.size, 1, none⟩ = false := (((((Kept.refl _).alloc _).trans hk3).trans hk4).frozens _ _ (by simp)).trans (World.frozen?_alloc_at _ _ _ _ (by simp))
      have hz90 : w4.cell? ⟨w2.heap.size + 1, 0, none⟩ = some (.bool false) := cell_kept (((Kept.refl _).trans hk3).trans hk4) (World.cell?_alloc_at _ _ _ _ (by simp))
      have hg90 : w4.frozen? ⟨w2.heap.size + 1, 0, none⟩ = false := ((((Kept.refl _).trans hk3).trans hk4).frozens _ _ (by simp)).trans (World.frozen?_alloc_at _ _ _ _ (by simp))
      have hz91 : w4.cell? ⟨w2.heap.size + 1, 1, none⟩ = some (.slice none 0 0) := cell_kept (((Kept.refl _).trans hk3).trans hk4) (World.cell?_alloc_at _ _ _ _ (by simp))
      have hg91 : w4.frozen? ⟨w2.heap.size + 1, 1, none⟩ = false := ((((Kept.refl _).trans hk3).trans hk4).frozens _ _ (by simp)).trans (World.frozen?_alloc_at _ _ _ _ (by simp))
      obtain ⟨p8, hp⟩ : ∃ p, p = w2.heap.size := ⟨_, rfl⟩
      obtain ⟨p9, hq⟩ : ∃ p, p = w2.heap.size + 1 := ⟨_, rfl⟩
      have hp8 : w2.heap.size ≤ p8 := by omega
      have hp9 : w2.heap.size ≤ p9 := by omega
      have hne : ¬ (p8 = p9) := by omega
      have hne' : ¬ (p9 = p8) := by omega
      rw [← hq] at hz90 hz91 hg90 hg91 ⊢
      rw [← hp] at hz80 hz81 hg80 hg81 ⊢
      clear hp hq
      have hKT : Kept w2 w4 := (((((Kept.refl w2).drew.alloc _).alloc _).trans hk3).trans hk4)
      have ghA0 := cell_kept hKT hA0
      have ghA1 := cell_kept hKT hA1
      have ghB0 := cell_kept hKT hB0
      have ghB1 := cell_kept hKT hB1
      have HN : Hid (NIs w4 s3 (.slice a3 k3 c3) (M.int m a) ∧ NIs w4 s4 (.slice a4 k4 c4) (M.int n b) ∧ Kept w2 w4) := ⟨hN3.kept ((Kept.refl _).trans hk4), hN4.kept (Kept.refl _), hKT⟩
      clear hN3 hN4 hk3 hk4 hHeld hKT
      generalize w4 = Wx at ghA0 ghA1 ghB0 ghB1 hz80 hz81 hz90 hz91 hg80 hg81 hg90 hg91 HN ⊢
      refine wpAnyH_ready (rs := [6]) (by kernel_rfl) (by simp) ?_
      refine AllReadyH.cons rfl (fun K hK => ?_) AllReadyH.nil
      go_simp
      refine hK.out _ _ ⟨set2_far (p := p8) ghA0 (by omega), set2_far (p := p8) ghA1 (by omega), set2_far (p := p8) ghB0 (by omega), set2_far (p := p8) ghB1 (by omega)⟩ (fun hHeld => ?_)
      clear hK K
      refine wpAnyH_ready (rs := [7]) (by kernel_rfl) (by simp) ?_
      refine AllReadyH.cons rfl (fun K hK => ?_) AllReadyH.nil
      go_simp
      refine hK.out _ _ ⟨set2_far (p := p9) (set2_far (p := p8) ghA0 (by omega)) (by omega), set2_far (p := p9) (set2_far (p := p8) ghA1 (by omega)) (by omega), set2_far (p := p9) (set2_far (p := p8) ghB0 (by omega)) (by omega), set2_far (p := p9) (set2_far (p := p8) ghB1 (by omega)) (by omega)⟩ (fun hHeld => ?_)
      clear hK K
      refine wpAnyH_done (by kernel_rfl) ?_ _
      go_wp2_with fail
      go_meet
      case rel =>
        have e8 := set2_at (x := .bool s3) (y := .slice a3 k3 c3) hz80 hz81
        have z90 := set2_far (x := .bool s3) (y := .slice a3 k3 c3) hz90 hne
        have z91 := set2_far (x := .bool s3) (y := .slice a3 k3 c3) hz91 hne
        have e9 := set2_at (x := .bool s4) (y := .slice a4 k4 c4) z90 z91
        exact ⟨p8, p9, s3, s4, a3, a4, k3, k4, c3, c4, rfl, rfl, set2_far e8.1 hne', set2_far e8.2 hne', e9.1, e9.2, by omega, by omega, (((HN.out.2.2.setCell hp8 _).setCell hp8 _).setCell hp9 _).setCell hp9 _, (HN.out.1.box2 hz80 hz81 _ _).box2 z90 z91 _ _, (HN.out.2.1.box2 hz80 hz81 _ _).box2 z90 z91 _ _⟩
    refine AllReadyH.cons rfl (fun K hK => ?_) AllReadyH.nil
    go_simp
    refine hK.out _ _ ⟨cell_kept ((Kept.refl w2).drew.alloc _) hA0, cell_kept ((Kept.refl w2).drew.alloc _) hA1, cell_kept ((Kept.refl w2).drew.alloc _) hB0, cell_kept ((Kept.refl w2).drew.alloc _) hB1⟩ (fun hHeld => ?_)
    clear hK K
    refine wpAnyH_ready (rs := [1, 4]) (by kernel_rfl) (by simp) ?_
    refine AllReadyH.cons rfl (fun K hK => ?_) ?_
    · go_simp
      refine (Take_any m aoa ka capa a _ (HA.out.1.kept (HK2.out.trans ((Kept.refl w2).drew.alloc _))) (by omega)).mono ?_
      rintro e w3 ⟨hk3, s3, a3, k3, c3, rfl, hN3, hl3⟩
      have hs3 : w2.heap.size ≤ w3.heap.size := (((Kept.refl w2).drew.alloc _).trans hk3).size
      have ht3 := hk3.size
      try simp at ht3
      refine hK.out _ _ ⟨cell_kept (((Kept.refl w2).drew.alloc _).trans hk3) hA0, cell_kept (((Kept.refl w2).drew.alloc _).trans hk3) hA1, cell_kept (((Kept.refl w2).drew.alloc _).trans hk3) hB0, cell_kept (((Kept.refl w2).drew.alloc _).trans hk3) hB1⟩ (fun hHeld => ?_)
      clear hK K
      refine wpAnyH_ready (rs := [3, 4]) (by kernel_rfl) (by simp) ?_
      refine AllReadyH.cons rfl (fun K hK => ?_) ?_
      · go_simp
        refine (Take_any n aob kb capb b _ (HB.out.1.kept (HK2.out.trans (((Kept.refl w2).drew.alloc _).trans hk3))) (by omega)).mono ?_
        rintro e w4 ⟨hk4, s4, a4, k4, c4, rfl, hN4, hl4⟩
        have hs4 : w2.heap.size ≤ w4.heap.size := ((((Kept.refl w2).drew.alloc _).trans hk3).trans hk4).size
        have ht4 := hk4.size
        try simp at ht4
        refine hK.out _ _ ⟨cell_kept ((((Kept.refl w2).drew.alloc _).trans hk3).trans hk4) hA0, cell_kept ((((Kept.refl w2).drew.alloc _).trans hk3).trans hk4) hA1, cell_kept ((((Kept.refl w2).drew.alloc _).trans hk3).trans hk4) hB0, cell_kept ((((Kept.refl w2).drew.alloc _).trans hk3).trans hk4) hB1⟩ (fun hHeld => ?_)
        clear hK K
        refine wpAnyH_ready (rs := [4]) (by kernel_rfl) (by simp) ?_
        refine AllReadyH.cons rfl (fun K hK => ?_) AllReadyH.nil
        go_simp
        refine hK.out _ _ ⟨cell_kept (((((Kept.refl w2).drew.alloc _).trans hk3).trans hk4).alloc _) hA0, cell_kept (((((Kept.refl w2).drew.alloc _).trans hk3).trans hk4).alloc _) hA1, cell_kept (((((Kept.refl w2).drew.alloc _).trans hk3).trans hk4).alloc _) hB0, cell_kept (((((Kept.refl w2).drew.alloc _).trans hk3).trans hk4).alloc _) hB1⟩ (fun hHeld => ?_)
        clear hK K
        have hz80 : (w4.alloc (Obj.cells #[.bool false, .slice none 0 0] 50)).cell? ⟨w4.heap.size, 0, none⟩ = some (.bool false) := cell_kept (Kept.refl _) (World.cell?_alloc_at _ _ _ _ (by simp))
        have hg80 : (w4.alloc (Obj.cells #[.bool false, .slice none 0 0] 50)).frozen? ⟨w4.heap.size, 0, none⟩ = false := ((Kept.refl _).frozens _ _ (by simp)).trans (World.frozen?_alloc_at _ _ _ _ (by simp))
        have hz81 : (w4.alloc (Obj.cells #[.bool false, .slice none 0 0] 50)).cell? ⟨w4.heap.size, 1, none⟩ = some (.slice none 0 0) := cell_kept (Kept.refl _) (World.cell?_alloc_at _ _ _ _ (by simp))
        have hg81 : (w4.alloc (Obj.cells #[.bool false, .slice none 0 0] 50)).frozen? ⟨w4.heap.size, 1, none⟩ = false := ((Kept.refl _).frozens _ _ (by simp)).trans (World.frozen?_alloc_at _ _ _ _ (by simp))
        have hz90 : (w4.alloc (Obj.cells #[.bool false, .slice none 0 0] 50)).cell? ⟨w2.heap.size, 0, none⟩ = some (.bool false) := cell_kept ((((Kept.refl _).trans hk3).trans hk4).alloc _) (World.cell?_alloc_at _ _ _ _ (by simp))
        have hg90 : (w4.alloc (Obj.cells #[.bool false, .slice none 0 0] 50)).frozen? ⟨w2.heap.size, 0, none⟩ = false := (((((Kept.refl _).trans hk3).trans hk4).alloc _).frozens _ _ (by simp)).trans (World.frozen?_alloc_at _ _ _ _ (by simp))
        have hz91 : (w4.alloc (Obj.cells #[.bool false, .slice none 0 0] 50)).cell? ⟨w2.heap.size, 1, none⟩ = some (.slice none 0 0) := cell_kept ((((Kept.refl _).trans hk3).trans hk4).alloc _) (World.cell?_alloc_at _ _ _ _ (by simp))
        have hg91 : (w4.alloc (Obj.cells #[.bool false, .slice none 0 0] 50)).frozen? ⟨w2.heap.size, 1, none⟩ = false := (((((Kept.refl _).trans hk3).trans hk4).alloc _).frozens _ _ (by simp)).trans (World.frozen?_alloc_at _ _ _ _ (by simp))
        obtain ⟨p8, hp⟩ : ∃ p, p = w4.heap.size := ⟨_, rfl⟩
        obtain ⟨p9, hq⟩ : ∃ p, p = w2.heap.size := ⟨_, rfl⟩
        have hp8 : w2.heap.size ≤ p8 := by omega
        have hp9 : w2.heap.size ≤ p9 := by omega
        have hne : ¬ (p8 = p9) := by omega
        have hne' : ¬ (p9 = p8) := by omega
        rw [← hp] at hz80 hz81 hg80 hg81 ⊢
        rw [← hq] at hz90 hz91 hg90 hg91 ⊢
        clear hp hq
        have hKT : Kept w2 (w4.alloc (Obj.cells #[.bool false, .slice none 0 0] 50)) := (((((Kept.refl w2).drew.alloc _).trans hk3).trans hk4).alloc _)
        have ghA0 := cell_kept hKT hA0
        have ghA1 := cell_kept hKT hA1
        have ghB0 := cell_kept hKT hB0
        have ghB1 := cell_kept hKT hB1
        have HN : Hid (NIs (w4.alloc (Obj.cells #[.bool false, .slice none 0 0] 50)) s3 (.slice a3 k3 c3) (M.int m a) ∧ NIs (w4.alloc (Obj.cells #[.bool false, .slice none 0 0] 50)) s4 (.slice a4 k4 c4) (M.int n b) ∧ Kept w2 (w4.alloc (Obj.cells #[.bool false, .slice none 0 0] 50))) := ⟨hN3.kept (((Kept.refl _).trans hk4).alloc _), hN4.kept ((Kept.refl _).alloc _), hKT⟩
        clear hN3 hN4 hk3 hk4 hHeld hKT
        generalize (w4.alloc (Obj.cells #[.bool false, .slice none 0 0] 50)) = Wx at ghA0 ghA1 ghB0 ghB1 hz80 hz81 hz90 hz91 hg80 hg81 hg90 hg91 HN ⊢
        refine wpAnyH_ready (rs := [6]) (by kernel_rfl) (by simp) ?_
        refine AllReadyH.cons rfl (fun K hK => ?_) AllReadyH.nil
        go_simp
        refine hK.out _ _ ⟨set2_far (p := p8) ghA0 (by omega), set2_far (p := p8) ghA1 (by omega), set2_far (p := p8) ghB0 (by omega), set2_far (p := p8) ghB1 (by omega)⟩ (fun hHeld => ?_)
        clear hK K
        refine wpAnyH_ready (rs := [7]) (by kernel_rfl) (by simp) ?_
        refine AllReadyH.cons rfl (fun K hK => ?_) AllReadyH.nil
        go_simp
        refine hK.out _ _ ⟨set2_far (p := p9) (set2_far (p := p8) ghA0 (by omega)) (by omega), set2_far (p := p9) (set2_far (p := p8) ghA1 (by omega)) (by omega), set2_far (p := p9) (set2_far (p := p8) ghB0 (by omega)) (by omega), set2_far (p := p9) (set2_far (p := p8) ghB1 (by omega)) (by omega)⟩ (fun hHeld => ?_)
        clear hK K
        refine wpAnyH_done (by kernel_rfl) ?_ _
        go_wp2_with fail
        go_meet
        case rel =>
          have e8 := set2_at (x := .bool s3) (y := .slice a3 k3 c3) hz80 hz81
          have z90 := set2_far (x := .bool s3) (y := .slice a3 k3 c3) hz90 hne
          have z91 := set2_far (x := .bool s3) (y := .slice a3 k3 c3) hz91 hne
          have e9 := set2_at (x := .bool s4) (y := .slice a4 k4 c4) z90 z91
          exact ⟨p8, p9, s3, s4, a3, a4, k3, k4, c3, c4, rfl, rfl, set2_far e8.1 hne', set2_far e8.2 hne', e9.1, e9.2, by omega, by omega, (((HN.out.2.2.setCell hp8 _).setCell hp8 _).setCell hp9 _).setCell hp9 _, (HN.out.1.box2 hz80 hz81 _ _).box2 z90 z91 _ _, (HN.out.2.1.box2 hz80 hz81 _ _).box2 z90 z91 _ _⟩
      refine AllReadyH.cons rfl (fun K hK => ?_) AllReadyH.nil
      go_simp
      refine hK.out _ _ ⟨cell_kept ((((Kept.refl w2).drew.alloc _).trans hk3).alloc _) hA0, cell_kept ((((Kept.refl w2).drew.alloc _).trans hk3).alloc _) hA1, cell_kept ((((Kept.refl w2).drew.alloc _).trans hk3).alloc _) hB0, cell_kept ((((Kept.refl w2).drew.alloc _).trans hk3).alloc _) hB1⟩ (fun hHeld => ?_)
      clear hK K
      refine wpAnyH_ready (rs := [3]) (by kernel_rfl) (by simp) ?_
      refine AllReadyH.cons rfl (fun K hK => ?_) AllReadyH.nil
      go_simp
      refine (Take_any n aob kb capb b _ (HB.out.1.kept (HK2.out.trans ((((Kept.refl w2).drew.alloc _).trans hk3).alloc _))) (by omega)).mono ?_
      rintro e w4 ⟨hk4, s4, a4, k4, c4, rfl, hN4, hl4⟩
      have hs4 : w2.heap.size ≤ w4.heap.size := (((((Kept.refl w2).drew.alloc _).trans hk3).alloc _).trans hk4).size
      have ht4 := hk4.size
      try simp at ht4
      refine hK.out _ _ ⟨cell_kept (((((Kept.refl w2).drew.alloc _).trans hk3).alloc _).trans hk4) hA0, cell_kept (((((Kept.refl w2).drew.alloc _).trans hk3).alloc _).trans hk4) hA1, cell_kept (((((Kept.refl w2).drew.alloc _).trans hk3).alloc _).trans hk4) hB0, cell_kept (((((Kept.refl w2).drew.alloc _).trans hk3).alloc _).trans hk4) hB1⟩ (fun hHeld => ?_)
      clear hK K
      have hz80 : w4.cell? ⟨w3.heap.size, 0, none⟩ = some (.bool false) := cell_kept ((Kept.refl _).trans hk4) (World.cell?_alloc_at _ _ _ _ (by simp))
      have hg80 : w4.frozen? ⟨w3.heap.size, 0, none⟩ = false := (((Kept.refl _).trans hk4).frozens _ _ (by simp)).trans (World.frozen?_alloc_at _ _ _ _ (by simp))
      have hz81 : w4.cell? ⟨w3.heap.size, 1, none⟩ = some (.slice none 0 0) := cell_kept ((Kept.refl _).trans hk4) (World.cell?_alloc_at _ _ _ _ (by simp))
      have hg81 : w4.frozen? ⟨w3.heap.size, 1, none⟩ = false := (((Kept.refl _).trans hk4).frozens _ _ (by simp)).trans (World.frozen?_alloc_at _ _ _ _ (by simp))
      have hz90 : w4.cell? ⟨w2.heap.size, 0, none⟩ = some (.bool false) := cell_kept ((((Kept.refl _).trans hk3).alloc _).trans hk4) (World.cell?_alloc_at _ _ _ _ (by simp))
      have hg90 : w4.frozen? ⟨w2.heap.size, 0, none⟩ = false := (((((Kept.refl _).trans hk3).alloc _).trans hk4).frozens _ _ (by simp)).trans (World.frozen?_alloc_at _ _ _ _ (by simp))
      have hz91 : w4.cell? ⟨w2.heap.size, 1, none⟩ = some (.slice none 0 0) := cell_kept ((((Kept.refl _).trans hk3).alloc _).trans hk4) (World.cell?_alloc_at _ _ _ _ (by simp))
      have hg91 : w4.frozen? ⟨w2.heap.size, 1, none⟩ = false := (((((Kept.refl _).trans hk3).alloc _).trans hk4).frozens _ _ (by simp)).trans (World.frozen?_alloc_at _ _ _ _ (by simp))
      obtain ⟨p8, hp⟩ : ∃ p, p = w3.heap.size := ⟨_, rfl⟩
      obtain ⟨p9, hq⟩ : ∃ p, p = w2.heap.size := ⟨_, rfl⟩
      have hp8 : w2.heap.size ≤ p8 := by omega
      have hp9 : w2.heap.size ≤ p9 := by omega
      have hne : ¬ (p8 = p9) := by omega
      have hne' : ¬ (p9 = p8) := by omega
      rw [← hp] at hz80 hz81 hg80 hg81 ⊢
      rw [← hq] at hz90 hz91 hg90 hg91 ⊢
      clear hp hq
      have hKT : Kept w2 w4 := (((((Kept.refl w2).drew.alloc _).trans hk3).alloc _).trans hk4)
      have ghA0 := cell_kept hKT hA0
      have ghA1 := cell_kept hKT hA1
      have ghB0 := cell_kept hKT hB0
      have ghB1 := cell_kept hKT hB1
      have HN : Hid (NIs w4 s3 (.slice a3 k3 c3) (M.int m a) ∧ NIs w4 s4 (.slice a4 k4 c4) (M.int n b) ∧ Kept w2 w4) := ⟨hN3.kept (((Kept.refl _).alloc _).trans hk4), hN4.kept (Kept.refl _), hKT⟩
      clear hN3 hN4 hk3 hk4 hHeld hKT
      generalize w4 = Wx at ghA0 ghA1 ghB0 ghB1 hz80 hz81 hz90 hz91 hg80 hg81 hg90 hg91 HN ⊢
      refine wpAnyH_ready (rs := [6]) (by kernel_rfl) (by simp) ?_
      refine AllReadyH.cons rfl (fun K hK => ?_) AllReadyH.nil
      go_simp
      refine hK.out _ _ ⟨set2_far (p := p8) ghA0 (by omega), set2_far (p := p8) ghA1 (by omega), set2_far (p := p8) ghB0 (by omega), set2_far (p := p8) ghB1 (by omega)⟩ (fun hHeld => ?_)
      clear hK K
      refine wpAnyH_ready (rs := [7]) (by kernel_rfl) (by simp) ?_
      refine AllReadyH.cons rfl (fun K hK => ?_) AllReadyH.nil
      go_simp
      refine hK.out _ _ ⟨set2_far (p := p9) (set2_far (p := p8) ghA0 (by omega)) (by omega), set2_far (p := p9) (set2_far (p := p8) ghA1 (by omega)) (by omega), set2_far (p := p9) (set2_far (p := p8) ghB0 (by omega)) (by omega), set2_far (p := p9) (set2_far (p := p8) ghB1 (by omega)) (by omega)⟩ (fun hHeld => ?_)
      clear hK K
      refine wpAnyH_done (by kernel_rfl) ?_ _
      go_wp2_with fail
      go_meet
      case rel =>
        have e8 := set2_at (x := .bool s3) (y := .slice a3 k3 c3) hz80 hz81
        have z90 := set2_far (x := .bool s3) (y := .slice a3 k3 c3) hz90 hne
        have z91 := set2_far (x := .bool s3) (y := .slice a3 k3 c3) hz91 hne
        have e9 := set2_at (x := .bool s4) (y := .slice a4 k4 c4) z90 z91
        exact ⟨p8, p9, s3, s4, a3, a4, k3, k4, c3, c4, rfl, rfl, set2_far e8.1 hne', set2_far e8.2 hne', e9.1, e9.2, by omega, by omega, (((HN.out.2.2.setCell hp8 _).setCell hp8 _).setCell hp9 _).setCell hp9 _, (HN.out.1.box2 hz80 hz81 _ _).box2 z90 z91 _ _, (HN.out.2.1.box2 hz80 hz81 _ _).box2 z90 z91 _ _⟩
    refine AllReadyH.cons rfl (fun K hK => ?_) AllReadyH.nil
    go_simp
    refine hK.out _ _ ⟨cell_kept (((Kept.refl w2).drew.alloc _).alloc _) hA0, cell_kept (((Kept.refl w2).drew.alloc _).alloc _) hA1, cell_kept (((Kept.refl w2).drew.alloc _).alloc _) hB0, cell_kept (((Kept.refl w2).drew.alloc _).alloc _) hB1⟩ (fun hHeld => ?_)
    clear hK K
    refine wpAnyH_ready (rs := [1]) (by kernel_rfl) (by simp) ?_
    refine AllReadyH.cons rfl (fun K hK => ?_) AllReadyH.nil
    go_simp
    refine (Take_any m aoa ka capa a _ (HA.out.1.kept (HK2.out.trans (((Kept.refl w2).drew.alloc _).alloc _))) (by omega)).mono ?_
    rintro e w3 ⟨hk3, s3, a3, k3, c3, rfl, hN3, hl3⟩
    have hs3 : w2.heap.size ≤ w3.heap.size := ((((Kept.refl w2).drew.alloc _).alloc _).trans hk3).size
    have ht3 := hk3.size
    try simp at ht3
    refine hK.out _ _ ⟨cell_kept ((((Kept.refl w2).drew.alloc _).alloc _).trans hk3) hA0, cell_kept ((((Kept.refl w2).drew.alloc _).alloc _).trans hk3) hA1, cell_kept ((((Kept.refl w2).drew.alloc _).alloc _).trans hk3) hB0, cell_kept ((((Kept.refl w2).drew.alloc _).alloc _).trans hk3) hB1⟩ (fun hHeld => ?_)
    clear hK K
    refine wpAnyH_ready (rs := [3]) (by kernel_rfl) (by simp) ?_
    refine AllReadyH.cons rfl (fun K hK => ?_) AllReadyH.nil
    go_simp
    refine (Take_any n aob kb capb b _ (HB.out.1.kept (HK2.out.trans ((((Kept.refl w2).drew.alloc _).alloc _).trans hk3))) (by omega)).mono ?_
    rintro e w4 ⟨hk4, s4, a4, k4, c4, rfl, hN4, hl4⟩
    have hs4 : w2.heap.size ≤ w4.heap.size := (((((Kept.refl w2).drew.alloc _).alloc _).trans hk3).trans hk4).size
    have ht4 := hk4.size
    try simp at ht4
    refine hK.out _ _ ⟨cell_kept (((((Kept.refl w2).drew.alloc _).alloc _).trans hk3).trans hk4) hA0, cell_kept (((((Kept.refl w2).drew.alloc _).alloc _).trans hk3).trans hk4) hA1, cell_kept (((((Kept.refl w2).drew.alloc _).alloc _).trans hk3).trans hk4) hB0, cell_kept (((((Kept.refl w2).drew.alloc _).alloc _).trans hk3).trans hk4) hB1⟩ (fun hHeld => ?_)
    clear hK K
    have hz80 : w4.cell? ⟨w2.heap.size + 1, 0, none⟩ = some (.bool false) := cell_kept (((Kept.refl _).trans hk3).trans hk4) (World.cell?_alloc_at _ _ _ _ (by simp))
    have hg80 : w4.frozen? ⟨w2.heap.size + 1, 0, none⟩ = false := ((((Kept.refl _).trans hk3).trans hk4).frozens _ _ (by simp)).trans (World.frozen?_alloc_at _ _ _ _ (by simp))
    have hz81 : w4.cell? ⟨w2.heap.size + 1, 1, none⟩ = some (.slice none 0 0) := cell_kept (((Kept.refl _).trans hk3).trans hk4) (World.cell?_alloc_at _ _ _ _ (by simp))
    have hg81 : w4.frozen? ⟨w2.heap.size + 1, 1, none⟩ = false := ((((Kept.refl _).trans hk3).trans hk4).frozens _ _ (by simp)).trans (World.frozen?_alloc_at _ _ _ _ (by simp))
    have hz90 : w4.cell? ⟨w2.heap.size, 0, none⟩ = some (.bool false) := cell_kept ((((Kept.refl _).alloc _).trans hk3).trans hk4) (World.cell?_alloc_at _ _ _ _ (by simp))
    have hg90 : w4.frozen? ⟨w2.heap.size, 0, none⟩ = false := (((((Kept.refl _).alloc _).trans hk3).trans hk4).frozens _ _ (by simp)).trans (World.frozen?_alloc_at _ _ _ _ (by simp))
    have hz91 : w4.cell? ⟨w2.heap.size, 1, none⟩ = some (.slice none 0 0) := cell_kept ((((Kept.refl _).alloc _).trans hk3).trans hk4) (World.cell?_alloc_at _ _ _ _ (by simp))
    have hg91 : w4.frozen? ⟨w2.heap.size, 1, none⟩ = false := (((((Kept.refl _).alloc _).trans hk3).trans hk4).frozens _ _ (by simp)).trans (World.frozen?_alloc_at _ _ _ _ (by simp))
    obtain ⟨p8, hp⟩ : ∃ p, p = w2.heap.size + 1 := ⟨_, rfl⟩
    obtain ⟨p9, hq⟩ : ∃ p, p = w2.heap.size := ⟨_, rfl⟩
    have hp8 : w2.heap.size ≤ p8 := by omega
    have hp9 : w2.heap.size ≤ p9 := by omega
    have hne : ¬ (p8 = p9) := by omega
    have hne' : ¬ (p9 = p8) := by omega
    rw [← hp] at hz80 hz81 hg80 hg81 ⊢
    rw [← hq] at hz90 hz91 hg90 hg91 ⊢
    clear hp hq
    have hKT : Kept w2 w4 := (((((Kept.refl w2).drew.alloc _).alloc _).trans hk3).trans hk4)
    have ghA0 := cell_kept hKT hA0
    have ghA1 := cell_kept hKT hA1
    have ghB0 := cell_kept hKT hB0
    have ghB1 := cell_kept hKT hB1
    have HN : Hid (NIs w4 s3 (.slice a3 k3 c3) (M.int m a) ∧ NIs w4 s4 (.slice a4 k4 c4) (M.int n b) ∧ Kept w2 w4) := ⟨hN3.kept ((Kept.refl _).trans hk4), hN4.kept (Kept.refl _), hKT⟩
    clear hN3 hN4 hk3 hk4 hHeld hKT
    generalize w4 = Wx at ghA0 ghA1 ghB0 ghB1 hz80 hz81 hz90 hz91 hg80 hg81 hg90 hg91 HN ⊢
    refine wpAnyH_ready (rs := [6]) (by kernel_rfl) (by simp) ?_
    refine AllReadyH.cons rfl (fun K hK => ?_) AllReadyH.nil
    go_simp
    refine hK.out _ _ ⟨set2_far (p := p8) ghA0 (by omega), set2_far (p := p8) ghA1 (by omega), set2_far (p := p8) ghB0 (by omega), set2_far (p := p8) ghB1 (by omega)⟩ (fun hHeld => ?_)
    clear hK K
    refine wpAnyH_ready (rs := [7]) (by kernel_rfl) (by simp) ?_
    refine AllReadyH.cons rfl (fun K hK => ?_) AllReadyH.nil
    go_simp
    refine hK.out _ _ ⟨set2_far (p := p9) (set2_far (p := p8) ghA0 (by omega)) (by omega), set2_far (p := p9) (set2_far (p := p8) ghA1 (by omega)) (by omega), set2_far (p := p9) (set2_far (p := p8) ghB0 (by omega)) (by omega), set2_far (p := p9) (set2_far (p := p8) ghB1 (by omega)) (by omega)⟩ (fun hHeld => ?_)
    clear hK K
    refine wpAnyH_done (by kernel_rfl) ?_ _
    go_wp2_with fail
    go_meet
    case rel =>
      have e8 := set2_at (x := .bool s3) (y := .slice a3 k3 c3) hz80 hz81
      have z90 := set2_far (x := .bool s3) (y := .slice a3 k3 c3) hz90 hne
      have z91 := set2_far (x := .bool s3) (y := .slice a3 k3 c3) hz91 hne
      have e9 := set2_at (x := .bool s4) (y := .slice a4 k4 c4) z90 z91
      exact ⟨p8, p9, s3, s4, a3, a4, k3, k4, c3, c4, rfl, rfl, set2_far e8.1 hne', set2_far e8.2 hne', e9.1, e9.2, by omega, by omega, (((HN.out.2.2.setCell hp8 _).setCell hp8 _).setCell hp9 _).setCell hp9 _, (HN.out.1.box2 hz80 hz81 _ _).box2 z90 z91 _ _, (HN.out.2.1.box2 hz80 hz81 _ _).box2 z90 z91 _ _⟩

  case rest =>
    obtain ⟨p8, p9, s3, s4, a3, a4, k3, k4, c3, c4, rfl, rfl, h80, h81, h90, h91, hk3l, hk4l, hcc⟩ := hcut
    have HC : Hid (Kept w2 wc ∧ NIs wc s3 (.slice a3 k3 c3) (M.int m a) ∧ NIs wc s4 (.slice a4 k4 c4) (M.int n b)) := hcc
    have hR0 := cell_kept HC.out.1 hR0
    have hR1 := cell_kept HC.out.1 hR1
    have hfR : ∀ j, wc.frozen? ⟨w.heap.size + 1 + 1, j, none⟩ = false := fun j => by rw [HC.out.1.frozens _ _ (by omega)]; exact hfR j
    have HKc : Hid (Kept w wc) := HK2.out.trans HC.out.1
    have hzc : w.heap.size + 1 + 1 + 1 ≤ wc.heap.size := Nat.le_trans hz2 HC.out.1.size
    clear hcc
    obtain ⟨x, hx⟩ : ∃ x, x = M.int m a := ⟨_, rfl⟩
    obtain ⟨y, hy⟩ : ∃ y, y = M.int n b := ⟨_, rfl⟩
    rw [← hx, ← hy] at HC
    have HXY : Hid (x = M.int m a ∧ y = M.int n b) := ⟨hx, hy⟩
    clear hx hy
    rcases HOP.out with rfl | rfl
    · go_wp2_with fail
      refine (Common_any s3 s4 a3 a4 k3 k4 c3 c4 x y _ HC.out.2.1 HC.out.2.2 (by omega) (by omega)).mono ?_
      rintro e w5 ⟨hk5, a5, k5, c5, rfl, hN5, hl5⟩
      obtain ⟨z, hz⟩ : ∃ z, z = ((Nat.gcd x.natAbs y.natAbs : Nat) : Int) := ⟨_, rfl⟩
      rw [← hz] at hN5
      have HZ : Hid (z = ((Nat.gcd x.natAbs y.natAbs : Nat) : Int)) := hz
      have hR0 := cell_kept hk5 hR0
      have hR1 := cell_kept hk5 hR1
      have hfR : ∀ j, w5.frozen? ⟨w.heap.size + 1 + 1, j, none⟩ = false := fun j => by rw [hk5.frozens _ _ (by omega)]; exact hfR j
      have HN5 : Hid (NIs w5 false (.slice a5 k5 c5) z ∧ Kept w w5) := ⟨hN5, HKc.out.trans hk5⟩
      have hz5 : w.heap.size + 1 + 1 + 1 ≤ w5.heap.size := Nat.le_trans hzc hk5.size
      have hk5l : k5 ≤ 1000 := by omega
      clear hk5 hN5 hl5 h80 h81 h90 h91 hz
      go_wp2_with fail
      refine (told_any false a5 k5 c5 z _ HN5.out.1 (by omega)).mono ?_
      rintro e w6 ⟨hk6, s6, a6, n6, c6, c, rfl, hF⟩
      have hR0 := cell_kept hk6 hR0
      have hR1 := cell_kept hk6 hR1
      have hfR6 : ∀ j, w6.frozen? ⟨w.heap.size + 1 + 1, j, none⟩ = false := fun j => by rw [hk6.frozens _ _ (by omega)]; exact hfR j
      have HF : Hid (Fin (w.heap.size + 1 + 1 + 1) w6 s6 (.slice a6 n6 c6) c z ∧ Kept w w6) := ⟨hF.mono (by omega), HN5.out.2.trans hk6⟩
      clear hk6 hF
      go_wp2
      refine bodyPost_ret (v := .tuple #[.agg #[.bool s6, .slice a6 n6 c6], .int .i64 c]) (by simp [results, Tryd.results11, go_sem, hR0, hR1]) rfl ⟨(HF.out.2.setCell (by simp; omega) _).setCell (by simp; omega) _, ?_⟩
      have hans : AnsIs w.heap.size ((w6.setCell ⟨w.heap.size + 1 + 1, 0, none⟩ (.bool s6)).setCell ⟨w.heap.size + 1 + 1, 1, none⟩ (.slice a6 n6 c6)) (.returned (.tuple #[.agg #[.bool s6, .slice a6 n6 c6], .int .i64 c])) z := ⟨s6, a6, n6, c6, c, rfl, ((HF.out.1.other (by simp) _).other (by simp) _).mono (by omega)⟩
      rw [HZ.out] at hans
      rw [← HXY.out.1, ← HXY.out.2]
      exact .inl ⟨rfl, hans⟩
    · go_wp2_with fail
      refine (Sign_any s4 a4 k4 c4 y _ HC.out.2.2 (by omega)).mono ?_
      rintro e w5 ⟨rfl, hk5⟩
      have hR0 := cell_kept hk5 hR0
      have hR1 := cell_kept hk5 hR1
      have h80 := cell_kept hk5 h80
      have h81 := cell_kept hk5 h81
      have h90 := cell_kept hk5 h90
      have h91 := cell_kept hk5 h91
      have hfR : ∀ j, w5.frozen? ⟨w.heap.size + 1 + 1, j, none⟩ = false := fun j => by rw [hk5.frozens _ _ (by omega)]; exact hfR j
      have HN5 : Hid (NIs w5 s3 (.slice a3 k3 c3) x ∧ NIs w5 s4 (.slice a4 k4 c4) y ∧ Kept w w5) := ⟨HC.out.2.1.kept hk5, HC.out.2.2.kept hk5, HKc.out.trans hk5⟩
      have hz5 : w.heap.size + 1 + 1 + 1 ≤ w5.heap.size := Nat.le_trans hzc hk5.size
      clear hk5 HC
      by_cases hy0 : y = 0
      · have hsg := (isgn_zero y).2 hy0
        rw [hsg]
        have HY : Hid (y = 0) := hy0
        clear hy0 hsg
        go_wp2
        exact bodyPost_ret (v := .tuple #[.agg #[.bool false, .slice none 0 0], .int .i64 11]) (by simp [results, Tryd.results11, go_sem, hR0, hR1]) rfl ⟨(HN5.out.2.2.setCell (by simp; omega) _).setCell (by simp; omega) _, (by rw [← HXY.out.1, ← HXY.out.2]; exact .inr ⟨rfl, .inl ⟨HY.out, rfl⟩⟩)⟩
      · have hsg : ¬ isgn y 0 = 0 := fun h => hy0 ((isgn_zero y).1 h)
        have hsg2 : (isgn y 0 == 0) = false := by simpa using hsg
        have HY : Hid (y ≠ 0) := hy0
        generalize isgn y 0 = sy at *
        clear hy0
        go_wp2_with fail
        refine (Divide_any s3 s4 a3 a4 k3 k4 c3 c4 x y _ HN5.out.1 HN5.out.2.1 (by omega) (by omega) HY.out).mono ?_
        rintro e w7 ⟨hk7, sq, aq, kq, cq, sr, ar, kr, cr, rfl, hNq, hNr, hlq, hlr⟩
        have hR0 := cell_kept hk7 hR0
        have hR1 := cell_kept hk7 hR1
        have hfR : ∀ j, w7.frozen? ⟨w.heap.size + 1 + 1, j, none⟩ = false := fun j => by rw [hk7.frozens _ _ (by omega)]; exact hfR j
        have HN7 : Hid (NIs w7 sq (.slice aq kq cq) (Int.tdiv x y) ∧ NIs w7 sr (.slice ar kr cr) (Int.tmod x y) ∧ Kept w w7) := ⟨hNq, hNr, HN5.out.2.2.trans hk7⟩
        have hz7 : w.heap.size + 1 + 1 + 1 ≤ w7.heap.size := Nat.le_trans hz5 hk7.size
        have hkq : kq ≤ 1000 := by omega
        have hkr : kr ≤ 1000 := by omega
        clear hk7 hNq hNr hlq hlr h80 h81 h90 h91 hsg hsg2
        have gR0 := fun u v => cell_kept (((Kept.refl w7).alloc u).alloc v) hR0
        have gR1 := fun u v => cell_kept (((Kept.refl w7).alloc u).alloc v) hR1
        clear hR0 hR1
        go_wp2_with fail
        refine (Sign_any sr ar kr cr (Int.tmod x y) _ (HN7.out.2.1.kept (((Kept.refl w7).alloc _).alloc _)) (by omega)).mono ?_
        rintro e w8 ⟨rfl, hk8⟩
        have hR0 := cell_kept hk8 (gR0 _ _)
        have hR1 := cell_kept hk8 (gR1 _ _)
        obtain ⟨hQ0, hQ1, hS0, hS1⟩ := box_kept2 hk8
        have hk78 : Kept w7 w8 := (((Kept.refl w7).alloc _).alloc _).trans hk8
        have hfR : ∀ j, w8.frozen? ⟨w.heap.size + 1 + 1, j, none⟩ = false := fun j => by rw [hk78.frozens _ _ (by omega)]; exact hfR j
        have HN8 : Hid (NIs w8 sq (.slice aq kq cq) (Int.tdiv x y) ∧ Kept w w8) := ⟨HN7.out.1.kept hk78, HN7.out.2.2.trans hk78⟩
        have hz8 : w.heap.size + 1 + 1 + 1 ≤ w8.heap.size := Nat.le_trans hz7 hk78.size
        clear hk8 hk78 gR0 gR1 hS0 hS1
        by_cases hm0 : Int.tmod x y = 0
        · have hsg := (isgn_zero (Int.tmod x y)).2 hm0
          rw [hsg]
          have HM0 : Hid (Int.tmod x y = 0) := hm0
          obtain ⟨z, hz⟩ : ∃ z, z = Int.tdiv x y := ⟨_, rfl⟩
          have HZ : Hid (z = Int.tdiv x y) := hz
          rw [← hz] at HN8
          clear hm0 hsg hz
          go_wp2_with fail
          refine (told_any sq aq kq cq z _ HN8.out.1 (by omega)).mono ?_
          rintro e w6 ⟨hk6, s6, a6, n6, c6, c, rfl, hF⟩
          have hR0 := cell_kept hk6 hR0
          have hR1 := cell_kept hk6 hR1
          have hfR6 : ∀ j, w6.frozen? ⟨w.heap.size + 1 + 1, j, none⟩ = false := fun j => by rw [hk6.frozens _ _ (by omega)]; exact hfR j
          have HF : Hid (Fin (w.heap.size + 1 + 1 + 1) w6 s6 (.slice a6 n6 c6) c z ∧ Kept w w6) := ⟨hF.mono (by omega), HN8.out.2.trans hk6⟩
          clear hk6 hF
          go_wp2
          refine bodyPost_ret (v := .tuple #[.agg #[.bool s6, .slice a6 n6 c6], .int .i64 c]) (by simp [results, Tryd.results11, go_sem, hR0, hR1]) rfl ⟨(HF.out.2.setCell (by simp; omega) _).setCell (by simp; omega) _, ?_⟩
          have hans : AnsIs w.heap.size ((w6.setCell ⟨w.heap.size + 1 + 1, 0, none⟩ (.bool s6)).setCell ⟨w.heap.size + 1 + 1, 1, none⟩ (.slice a6 n6 c6)) (.returned (.tuple #[.agg #[.bool s6, .slice a6 n6 c6], .int .i64 c])) z := ⟨s6, a6, n6, c6, c, rfl, ((HF.out.1.other (by simp) _).other (by simp) _).mono (by omega)⟩
          rw [HZ.out] at hans
          rw [← HXY.out.1, ← HXY.out.2]
          exact .inr ⟨rfl, .inr (.inr ⟨HY.out, HM0.out, hans⟩)⟩
        · have hsg : ¬ isgn (Int.tmod x y) 0 = 0 := fun h => hm0 ((isgn_zero _).1 h)
          have hsg2 : (isgn (Int.tmod x y) 0 == 0) = false := by simpa using hsg
          have HM0 : Hid (Int.tmod x y ≠ 0) := hm0
          generalize isgn (Int.tmod x y) 0 = sm at *
          clear hm0 hQ0 hQ1
          go_wp2
          exact bodyPost_ret (v := .tuple #[.agg #[.bool false, .slice none 0 0], .int .i64 12]) (by simp [results, Tryd.results11, go_sem, hR0, hR1]) rfl ⟨(HN8.out.2.setCell (by simp; omega) _).setCell (by simp; omega) _, (by rw [← HXY.out.1, ← HXY.out.2]; exact .inr ⟨rfl, .inr (.inl ⟨HY.out, HM0.out, rfl⟩)⟩)⟩

end D
end Go.Proofs.YthijnnififodjaaDoor
