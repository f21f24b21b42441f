/- QuoRem of package shuntref01. -/
import Derived.Test.YthijnnififodjaaDoorRset2
import Derived.Test.YthijnnififodjaaDoorGg
import Derived.Test.YthijnnififodjaaDoorRtake
import Derived.Deep.RegionWith
namespace Go.Proofs.YthijnnififodjaaDoor
open Go.RowKit
namespace D

/-- What QuoRem tells: quotient and rest, cut toward 0, in new memory. -/
def QuoGiven (B : Nat) (w' : World) (e : Ending) (x y : Int) : Prop :=
  ∃ s aq kq cq q t ar kr cr r, e = .returned (.tuple #[.agg #[.bool s, .slice aq kq cq], .agg #[.bool t, .slice ar kr cr], .int .i64 0]) ∧ Go.Proofs.YthijnnififodjaaDoor.New B w' (.slice aq kq cq) q ∧ Go.Proofs.YthijnnififodjaaDoor.New B w' (.slice ar kr cr) r ∧ M.Bd q ∧ M.Tr q ∧ M.Bd r ∧ M.Tr r ∧ M.int s q = Int.tdiv x y ∧ M.int t r = Int.tmod x y ∧ (q = [] → s = false) ∧ (r = [] → t = false)

theorem Give_int (m : Bool) (ao : Option Addr) (k cap : Nat) (z : Int) (w : World) (h : NIs w m (.slice ao k cap) z) (hk : k ≤ 10000) :
    Calls Tryd.prog 27 #[.agg #[.bool m, .slice ao k cap]] w fun e w' => Kept w w' ∧ ∃ ao' n' cap' l, e = .returned (.agg #[.bool m, .slice ao' n' cap']) ∧ Go.Proofs.YthijnnififodjaaDoor.New w.heap.size w' (.slice ao' n' cap') l ∧ M.Tr l ∧ M.int m l = z ∧ (l = [] → m = false) := by
  obtain ⟨d, hd1, hd2, rfl, rfl⟩ := h.len
  refine (Give_any m ao cap d w hd1 hd2.tr hk).mono ?_
  rintro e w' ⟨h1, ao', n', cap', l, rfl, hn, ht, hv, hl⟩
  refine ⟨h1, ao', n', cap', l, rfl, hn, ht, by unfold M.int int; rw [hv], fun e => hd2.zero ?_⟩
  rw [e] at hl
  simp at hl
  exact List.length_eq_zero_iff.1 (by omega)

set_option maxRecDepth 100000 in
set_option maxHeartbeats 4000000 in
theorem QuoRem_yes (m n : Bool) (aoa aob : Option Addr) (ka kb capa capb : Nat) (a b : List Nat) (w : World) (ha : Go.Proofs.YthijnnififodjaaDoor.Sl w (.slice aoa ka capa) a) (hb : Go.Proofs.YthijnnififodjaaDoor.Sl w (.slice aob kb capb) b) (hra : R m a) (hrb : R n b) (hb0 : 0 < b.length) :
    Calls Tryd.prog 9 #[.agg #[.bool m, .slice aoa ka capa], .agg #[.bool n, .slice aob kb capb]] w fun e w' => Kept w w' ∧ QuoGiven w.heap.size w' e (M.int m a) (M.int n b) := by
  have HA : Hid (Go.Proofs.YthijnnififodjaaDoor.Sl w (.slice aoa ka capa) a ∧ R m a) := ⟨ha, hra⟩
  have HB : Hid (Go.Proofs.YthijnnififodjaaDoor.Sl w (.slice aob kb capb) b ∧ R n b) := ⟨hb, hrb⟩
  have HY : Hid (M.int n b ≠ 0) := by
    intro h
    have h9 := M.val_pos hrb.tr (fun e => by rw [e] at hb0; simp at hb0)
    rw [← M.natAbs_int n b, h] at h9
    simp at h9
  have hla : a.length ≤ 72 := hra.1
  have hlb : b.length ≤ 72 := hrb.1
  have hkb : ((kb : Int) == 0) = false := by have := hb.len; simp; omega
  have hkb1 : 0 < kb := by have := hb.len; omega
  have hkb2 : kb ≤ 72 := by have := hb.len; omega
  have K4 : ∀ x y z u, Kept w ((((w.alloc x).alloc y).alloc z).alloc u) := fun x y z u => ((((Kept.refl w).alloc x).alloc y).alloc z).alloc u
  clear ha hb hra hrb hb0
  go_enter Tryd.func9, Tryd.ntmps9
  go_wp2_with fail
  refine (right_yes m _ a _ (HA.out.1.kept (K4 _ _ _ _)) HA.out.2).mono ?_
  rintro e w1 ⟨rfl, hk1⟩
  obtain ⟨hA0, hA1, hB0, hB1, hR0, hR1, hS0, hS1⟩ := box_kept4 hk1
  have HK1 : Hid (Kept w w1) := (K4 _ _ _ _).trans hk1
  have hz1 : w.heap.size + 1 + 1 + 1 + 1 ≤ w1.heap.size := by have := hk1.size; simpa using this
  have hfR : ∀ j, w1.frozen? ⟨w.heap.size + 1 + 1, j, none⟩ = false := fun j => by rw [hk1.frozens (w.heap.size + 1 + 1) j (by simp)]; exact (World.frozen?_alloc_past _ _ _ (by simp)).trans (World.frozen?_alloc_at _ _ _ _ (by simp))
  have hfS : ∀ j, w1.frozen? ⟨w.heap.size + 1 + 1 + 1, j, none⟩ = false := fun j => by rw [hk1.frozens (w.heap.size + 1 + 1 + 1) j (by simp)]; exact World.frozen?_alloc_at _ _ _ _ (by simp)
  clear hk1
  go_wp2_with fail
  refine (right_yes n _ b _ (HB.out.1.kept HK1.out) HB.out.2).mono ?_
  rintro e w2 ⟨rfl, hk2⟩
  have hA0 := cell_kept hk2 hA0
  have hA1 := cell_kept hk2 hA1
  have hB0 := cell_kept hk2 hB0
  have hB1 := cell_kept hk2 hB1
  have hR0 := cell_kept hk2 hR0
  have hR1 := cell_kept hk2 hR1
  have hS0 := cell_kept hk2 hS0
  have hS1 := cell_kept hk2 hS1
  have hfR : ∀ j, w2.frozen? ⟨w.heap.size + 1 + 1, j, none⟩ = false := fun j => by rw [hk2.frozens _ _ (by omega)]; exact hfR j
  have hfS : ∀ j, w2.frozen? ⟨w.heap.size + 1 + 1 + 1, j, none⟩ = false := fun j => by rw [hk2.frozens _ _ (by omega)]; exact hfS j
  have hz2 : w.heap.size + 1 + 1 + 1 + 1 ≤ w2.heap.size := Nat.le_trans hz1 hk2.size
  have HK2 : Hid (Kept w w2) := HK1.out.trans hk2
  clear hk2 K4
  go_upto_region 5 with fail
  go_cut [7, 8] (fun s7 s8 wc => ∃ (p8 p9 : Nat) (sq sr : Bool) (aq ar : Option Addr) (kq kr cq cr : Nat), s7 = .pointer (some ⟨p8, 0, none⟩) ∧ s8 = .pointer (some ⟨p9, 0, none⟩) ∧ wc.cell? ⟨p8, 0, none⟩ = some (.bool sq) ∧ wc.cell? ⟨p8, 1, none⟩ = some (.slice aq kq cq) ∧ wc.cell? ⟨p9, 0, none⟩ = some (.bool sr) ∧ wc.cell? ⟨p9, 1, none⟩ = some (.slice ar kr cr) ∧ kq ≤ 200 ∧ kr ≤ 200 ∧ Hid (Kept w2 wc ∧ NIs wc sq (.slice aq kq cq) (Int.tdiv (M.int m a) (M.int n b)) ∧ NIs wc sr (.slice ar kr cr) (Int.tmod (M.int m a) (M.int n b))))
  case first =>
    refine wp_region_held_drew (S := fun w' => w'.cell? ⟨w.heap.size, 0, none⟩ = some (.bool m) ∧ w'.cell? ⟨w.heap.size, 1, none⟩ = some (.slice aoa ka capa) ∧ w'.cell? ⟨w.heap.size + 1, 0, none⟩ = some (.bool n) ∧ w'.cell? ⟨w.heap.size + 1, 1, none⟩ = some (.slice aob kb capb)) (by kernel_rfl) ⟨hA0, hA1, hB0, hB1⟩ (fun hHeld => ?_)
    refine wpAnyH_take (i := 0) (v := ?v0) rfl (by kernel_rfl) (by kernel_rfl) (by kernel_rfl) (fun _ _ _ h => h) (Or.inl ⟨by rfl, ?y0⟩) hHeld ?r0
    case y0 =>
      intro w' hSw
      obtain ⟨hSw0, hSw1, hSw2, hSw3⟩ := hSw
      go_simp
      with_reducible rfl
    case r0 =>
    refine wpAnyH_take (i := 2) (v := ?v2) rfl (by kernel_rfl) (by kernel_rfl) (by kernel_rfl) (fun _ _ _ h => h) (Or.inl ⟨by rfl, ?y2⟩) hHeld ?r2
    case y2 =>
      intro w' hSw
      obtain ⟨hSw0, hSw1, hSw2, hSw3⟩ := hSw
      go_simp
      with_reducible rfl
    case r2 =>
    refine wpAnyH_ready (rs := [1, 8, 9]) (by kernel_rfl) (by simp) ?_
    refine AllReadyH.cons rfl (fun K hK => ?_) ?_
    · go_simp
      refine (Take_any m aoa ka capa a _ (HA.out.1.kept (HK2.out.trans (Kept.refl w2).drew)) (by omega)).mono ?_
      rintro e w3 ⟨hk3, s3, a3, k3, c3, rfl, hN3, hl3⟩
      have hs3 : w2.heap.size ≤ w3.heap.size := ((Kept.refl w2).drew.trans hk3).size
      have ht3 := hk3.size
      try simp at ht3
      refine hK.out _ _ ⟨cell_kept ((Kept.refl w2).drew.trans hk3) hA0, cell_kept ((Kept.refl w2).drew.trans hk3) hA1, cell_kept ((Kept.refl w2).drew.trans hk3) hB0, cell_kept ((Kept.refl w2).drew.trans hk3) hB1⟩ (fun hHeld => ?_)
      clear hK K
      refine wpAnyH_ready (rs := [3, 8, 9]) (by kernel_rfl) (by simp) ?_
      refine AllReadyH.cons rfl (fun K hK => ?_) ?_
      · go_simp
        refine (Take_any n aob kb capb b _ (HB.out.1.kept (HK2.out.trans ((Kept.refl w2).drew.trans hk3))) (by omega)).mono ?_
        rintro e w4 ⟨hk4, s4, a4, k4, c4, rfl, hN4, hl4⟩
        have hs4 : w2.heap.size ≤ w4.heap.size := (((Kept.refl w2).drew.trans hk3).trans hk4).size
        have ht4 := hk4.size
        try simp at ht4
        refine hK.out _ _ ⟨cell_kept (((Kept.refl w2).drew.trans hk3).trans hk4) hA0, cell_kept (((Kept.refl w2).drew.trans hk3).trans hk4) hA1, cell_kept (((Kept.refl w2).drew.trans hk3).trans hk4) hB0, cell_kept (((Kept.refl w2).drew.trans hk3).trans hk4) hB1⟩ (fun hHeld => ?_)
        clear hK K
        refine wpAnyH_ready (rs := [4, 8, 9]) (by kernel_rfl) (by simp) ?_
        refine AllReadyH.cons rfl (fun K hK => ?_) ?_
        · go_simp
          refine (Divide_any s3 s4 a3 a4 k3 k4 c3 c4 (M.int m a) (M.int n b) _ (hN3.kept ((Kept.refl _).trans hk4)) (hN4.kept (Kept.refl _)) (by omega) (by omega) HY.out).mono ?_
          rintro e w5 ⟨hk5, sq, aq, kq, cq, sr, ar, kr, cr, rfl, hNq, hNr, hlq, hlr⟩
          have hs5 : w2.heap.size ≤ w5.heap.size := ((((Kept.refl w2).drew.trans hk3).trans hk4).trans hk5).size
          have ht5 := hk5.size
          try simp at ht5
          refine hK.out _ _ ⟨cell_kept ((((Kept.refl w2).drew.trans hk3).trans hk4).trans hk5) hA0, cell_kept ((((Kept.refl w2).drew.trans hk3).trans hk4).trans hk5) hA1, cell_kept ((((Kept.refl w2).drew.trans hk3).trans hk4).trans hk5) hB0, cell_kept ((((Kept.refl w2).drew.trans hk3).trans hk4).trans hk5) hB1⟩ (fun hHeld => ?_)
          clear hK K
          refine wpAnyH_take (i := 5) (v := ?v5x1) rfl (by kernel_rfl) (by kernel_rfl) (by kernel_rfl) (fun _ _ _ h => h) (Or.inl ⟨by rfl, ?y5x1⟩) hHeld ?r5x1
          case y5x1 =>
            intro w' hSw
            obtain ⟨hSw0, hSw1, hSw2, hSw3⟩ := hSw
            go_simp
            with_reducible rfl
          case r5x1 =>
          refine wpAnyH_take (i := 6) (v := ?v6x2) rfl (by kernel_rfl) (by kernel_rfl) (by kernel_rfl) (fun _ _ _ h => h) (Or.inl ⟨by rfl, ?y6x2⟩) hHeld ?r6x2
          case y6x2 =>
            intro w' hSw
            obtain ⟨hSw0, hSw1, hSw2, hSw3⟩ := hSw
            go_simp
            with_reducible rfl
          case r6x2 =>
          refine wpAnyH_take (i := 7) (v := ?v7x3) rfl (by kernel_rfl) (by kernel_rfl) (by kernel_rfl) (fun _ _ _ h => h) (Or.inl ⟨by rfl, ?y7x3⟩) hHeld ?r7x3
          case y7x3 =>
            intro w' hSw
            obtain ⟨hSw0, hSw1, hSw2, hSw3⟩ := hSw
            go_simp
            with_reducible rfl
          case r7x3 =>
          refine wpAnyH_ready (rs := [8, 9]) (by kernel_rfl) (by simp) ?_
          refine AllReadyH.cons rfl (fun K hK => ?_) ?_
          · go_simp
            refine hK.out _ _ ⟨cell_kept (((((Kept.refl w2).drew.trans hk3).trans hk4).trans hk5).alloc _) hA0, cell_kept (((((Kept.refl w2).drew.trans hk3).trans hk4).trans hk5).alloc _) hA1, cell_kept (((((Kept.refl w2).drew.trans hk3).trans hk4).trans hk5).alloc _) hB0, cell_kept (((((Kept.refl w2).drew.trans hk3).trans hk4).trans hk5).alloc _) hB1⟩ (fun hHeld => ?_)
            clear hK K
            refine wpAnyH_ready (rs := [9]) (by kernel_rfl) (by simp) ?_
            refine AllReadyH.cons rfl (fun K hK => ?_) AllReadyH.nil
            go_simp
            refine hK.out _ _ ⟨cell_kept ((((((Kept.refl w2).drew.trans hk3).trans hk4).trans hk5).alloc _).alloc _) hA0, cell_kept ((((((Kept.refl w2).drew.trans hk3).trans hk4).trans hk5).alloc _).alloc _) hA1, cell_kept ((((((Kept.refl w2).drew.trans hk3).trans hk4).trans hk5).alloc _).alloc _) hB0, cell_kept ((((((Kept.refl w2).drew.trans hk3).trans hk4).trans hk5).alloc _).alloc _) hB1⟩ (fun hHeld => ?_)
            clear hK K
            have hz80 : ((w5.alloc (Obj.cells #[.bool false, .slice none 0 0] 50)).alloc (Obj.cells #[.bool false, .slice none 0 0] 50)).cell? ⟨w5.heap.size, 0, none⟩ = some (.bool false) := cell_kept ((Kept.refl _).alloc _) (World.cell?_alloc_at _ _ _ _ (by simp))
            have hg80 : ((w5.alloc (Obj.cells #[.bool false, .slice none 0 0] 50)).alloc (Obj.cells #[.bool false, .slice none 0 0] 50)).frozen? ⟨w5.heap.size, 0, none⟩ = false := (((Kept.refl _).alloc _).frozens _ _ (by simp)).trans (World.frozen?_alloc_at _ _ _ _ (by simp))
            have hz81 : ((w5.alloc (Obj.cells #[.bool false, .slice none 0 0] 50)).alloc (Obj.cells #[.bool false, .slice none 0 0] 50)).cell? ⟨w5.heap.size, 1, none⟩ = some (.slice none 0 0) := cell_kept ((Kept.refl _).alloc _) (World.cell?_alloc_at _ _ _ _ (by simp))
            have hg81 : ((w5.alloc (Obj.cells #[.bool false, .slice none 0 0] 50)).alloc (Obj.cells #[.bool false, .slice none 0 0] 50)).frozen? ⟨w5.heap.size, 1, none⟩ = false := (((Kept.refl _).alloc _).frozens _ _ (by simp)).trans (World.frozen?_alloc_at _ _ _ _ (by simp))
            have hz90 : ((w5.alloc (Obj.cells #[.bool false, .slice none 0 0] 50)).alloc (Obj.cells #[.bool false, .slice none 0 0] 50)).cell? ⟨w5.heap.size + 1, 0, none⟩ = some (.bool false) := cell_kept (Kept.refl _) (World.cell?_alloc_at _ _ _ _ (by simp))
            have hg90 : ((w5.alloc (Obj.cells #[.bool false, .slice none 0 0] 50)).alloc (Obj.cells #[.bool false, .slice none 0 0] 50)).frozen? ⟨w5.heap.size + 1, 0, none⟩ = false := ((Kept.refl _).frozens _ _ (by simp)).trans (World.frozen?_alloc_at _ _ _ _ (by simp))
            have hz91 : ((w5.alloc (Obj.cells #[.bool false, .slice none 0 0] 50)).alloc (Obj.cells #[.bool false, .slice none 0 0] 50)).cell? ⟨w5.heap.size + 1, 1, none⟩ = some (.slice none 0 0) := cell_kept (Kept.refl _) (World.cell?_alloc_at _ _ _ _ (by simp))
            have hg91 : ((w5.alloc (Obj.cells #[.bool false, .slice none 0 0] 50)).alloc (Obj.cells #[.bool false, .slice none 0 0] 50)).frozen? ⟨w5.heap.size + 1, 1, none⟩ = false := ((Kept.refl _).frozens _ _ (by simp)).trans (World.frozen?_alloc_at _ _ _ _ (by simp))
            obtain ⟨p8, hp⟩ : ∃ p, p = w5.heap.size := ⟨_, rfl⟩
            obtain ⟨p9, hq⟩ : ∃ p, p = w5.heap.size + 1 := ⟨_, rfl⟩
            have hp8 : w2.heap.size ≤ p8 := by omega
            have hp9 : w2.heap.size ≤ p9 := by omega
            have hne : ¬ (p8 = p9) := by omega
            have hne' : ¬ (p9 = p8) := by omega
            rw [← hq] at hz90 hz91 hg90 hg91 ⊢
            rw [← hp] at hz80 hz81 hg80 hg81 ⊢
            clear hp hq
            have hKT : Kept w2 ((w5.alloc (Obj.cells #[.bool false, .slice none 0 0] 50)).alloc (Obj.cells #[.bool false, .slice none 0 0] 50)) := ((((((Kept.refl w2).drew.trans hk3).trans hk4).trans hk5).alloc _).alloc _)
            have ghA0 := cell_kept hKT hA0
            have ghA1 := cell_kept hKT hA1
            have ghB0 := cell_kept hKT hB0
            have ghB1 := cell_kept hKT hB1
            have HN : Hid (NIs ((w5.alloc (Obj.cells #[.bool false, .slice none 0 0] 50)).alloc (Obj.cells #[.bool false, .slice none 0 0] 50)) sq (.slice aq kq cq) (Int.tdiv (M.int m a) (M.int n b)) ∧ NIs ((w5.alloc (Obj.cells #[.bool false, .slice none 0 0] 50)).alloc (Obj.cells #[.bool false, .slice none 0 0] 50)) sr (.slice ar kr cr) (Int.tmod (M.int m a) (M.int n b)) ∧ Kept w2 ((w5.alloc (Obj.cells #[.bool false, .slice none 0 0] 50)).alloc (Obj.cells #[.bool false, .slice none 0 0] 50))) := ⟨hNq.kept (((Kept.refl _).alloc _).alloc _), hNr.kept (((Kept.refl _).alloc _).alloc _), hKT⟩
            clear hN3 hN4 hNq hNr hk3 hk4 hk5 hHeld hKT
            generalize ((w5.alloc (Obj.cells #[.bool false, .slice none 0 0] 50)).alloc (Obj.cells #[.bool false, .slice none 0 0] 50)) = Wx at ghA0 ghA1 ghB0 ghB1 hz80 hz81 hz90 hz91 hg80 hg81 hg90 hg91 HN ⊢
            refine wpAnyH_ready (rs := [10]) (by kernel_rfl) (by simp) ?_
            refine AllReadyH.cons rfl (fun K hK => ?_) AllReadyH.nil
            go_simp
            refine hK.out _ _ ⟨set2_far (p := p8) ghA0 (by omega), set2_far (p := p8) ghA1 (by omega), set2_far (p := p8) ghB0 (by omega), set2_far (p := p8) ghB1 (by omega)⟩ (fun hHeld => ?_)
            clear hK K
            refine wpAnyH_ready (rs := [11]) (by kernel_rfl) (by simp) ?_
            refine AllReadyH.cons rfl (fun K hK => ?_) AllReadyH.nil
            go_simp
            refine hK.out _ _ ⟨set2_far (p := p9) (set2_far (p := p8) ghA0 (by omega)) (by omega), set2_far (p := p9) (set2_far (p := p8) ghA1 (by omega)) (by omega), set2_far (p := p9) (set2_far (p := p8) ghB0 (by omega)) (by omega), set2_far (p := p9) (set2_far (p := p8) ghB1 (by omega)) (by omega)⟩ (fun hHeld => ?_)
            clear hK K
            refine wpAnyH_done (by kernel_rfl) ?_ _
            go_wp2_with fail
            go_meet
            case rel =>
              have e8 := set2_at (x := .bool sq) (y := .slice aq kq cq) hz80 hz81
              have z90 := set2_far (x := .bool sq) (y := .slice aq kq cq) hz90 hne
              have z91 := set2_far (x := .bool sq) (y := .slice aq kq cq) hz91 hne
              have e9 := set2_at (x := .bool sr) (y := .slice ar kr cr) z90 z91
              exact ⟨p8, p9, sq, sr, aq, ar, kq, kr, cq, cr, rfl, rfl, set2_far e8.1 hne', set2_far e8.2 hne', e9.1, e9.2, by omega, by omega, (((HN.out.2.2.setCell hp8 _).setCell hp8 _).setCell hp9 _).setCell hp9 _, (HN.out.1.box2 hz80 hz81 _ _).box2 z90 z91 _ _, (HN.out.2.1.box2 hz80 hz81 _ _).box2 z90 z91 _ _⟩
          refine AllReadyH.cons rfl (fun K hK => ?_) AllReadyH.nil
          go_simp
          refine hK.out _ _ ⟨cell_kept (((((Kept.refl w2).drew.trans hk3).trans hk4).trans hk5).alloc _) hA0, cell_kept (((((Kept.refl w2).drew.trans hk3).trans hk4).trans hk5).alloc _) hA1, cell_kept (((((Kept.refl w2).drew.trans hk3).trans hk4).trans hk5).alloc _) hB0, cell_kept (((((Kept.refl w2).drew.trans hk3).trans hk4).trans hk5).alloc _) hB1⟩ (fun hHeld => ?_)
          clear hK K
          refine wpAnyH_ready (rs := [8]) (by kernel_rfl) (by simp) ?_
          refine AllReadyH.cons rfl (fun K hK => ?_) AllReadyH.nil
          go_simp
          refine hK.out _ _ ⟨cell_kept ((((((Kept.refl w2).drew.trans hk3).trans hk4).trans hk5).alloc _).alloc _) hA0, cell_kept ((((((Kept.refl w2).drew.trans hk3).trans hk4).trans hk5).alloc _).alloc _) hA1, cell_kept ((((((Kept.refl w2).drew.trans hk3).trans hk4).trans hk5).alloc _).alloc _) hB0, cell_kept ((((((Kept.refl w2).drew.trans hk3).trans hk4).trans hk5).alloc _).alloc _) hB1⟩ (fun hHeld => ?_)
          clear hK K
          have hz80 : ((w5.alloc (Obj.cells #[.bool false, .slice none 0 0] 50)).alloc (Obj.cells #[.bool false, .slice none 0 0] 50)).cell? ⟨w5.heap.size + 1, 0, none⟩ = some (.bool false) := cell_kept (Kept.refl _) (World.cell?_alloc_at _ _ _ _ (by simp))
          have hg80 : ((w5.alloc (Obj.cells #[.bool false, .slice none 0 0] 50)).alloc (Obj.cells #[.bool false, .slice none 0 0] 50)).frozen? ⟨w5.heap.size + 1, 0, none⟩ = false := ((Kept.refl _).frozens _ _ (by simp)).trans (World.frozen?_alloc_at _ _ _ _ (by simp))
          have hz81 : ((w5.alloc (Obj.cells #[.bool false, .slice none 0 0] 50)).alloc (Obj.cells #[.bool false, .slice none 0 0] 50)).cell? ⟨w5.heap.size + 1, 1, none⟩ = some (.slice none 0 0) := cell_kept (Kept.refl _) (World.cell?_alloc_at _ _ _ _ (by simp))
          have hg81 : ((w5.alloc (Obj.cells #[.bool false, .slice none 0 0] 50)).alloc (Obj.cells #[.bool false, .slice none 0 0] 50)).frozen? ⟨w5.heap.size + 1, 1, none⟩ = false := ((Kept.refl _).frozens _ _ (by simp)).trans (World.frozen?_alloc_at _ _ _ _ (by simp))
          have hz90 : ((w5.alloc (Obj.cells #[.bool false, .slice none 0 0] 50)).alloc (Obj.cells #[.bool false, .slice none 0 0] 50)).cell? ⟨w5.heap.size, 0, none⟩ = some (.bool false) := cell_kept ((Kept.refl _).alloc _) (World.cell?_alloc_at _ _ _ _ (by simp))
          have hg90 : ((w5.alloc (Obj.cells #[.bool false, .slice none 0 0] 50)).alloc (Obj.cells #[.bool false, .slice none 0 0] 50)).frozen? ⟨w5.heap.size, 0, none⟩ = false := (((Kept.refl _).alloc _).frozens _ _ (by simp)).trans (World.frozen?_alloc_at _ _ _ _ (by simp))
          have hz91 : ((w5.alloc (Obj.cells #[.bool false, .slice none 0 0] 50)).alloc (Obj.cells #[.bool false, .slice none 0 0] 50)).cell? ⟨w5.heap.size, 1, none⟩ = some (.slice none 0 0) := cell_kept ((Kept.refl _).alloc _) (World.cell?_alloc_at _ _ _ _ (by simp))
          have hg91 : ((w5.alloc (Obj.cells #[.bool false, .slice none 0 0] 50)).alloc (Obj.cells #[.bool false, .slice none 0 0] 50)).frozen? ⟨w5.heap.size, 1, none⟩ = false := (((Kept.refl _).alloc _).frozens _ _ (by simp)).trans (World.frozen?_alloc_at _ _ _ _ (by simp))
          obtain ⟨p8, hp⟩ : ∃ p, p = w5.heap.size + 1 := ⟨_, rfl⟩
          obtain ⟨p9, hq⟩ : ∃ p, p = w5.heap.size := ⟨_, rfl⟩
          have hp8 : w2.heap.size ≤ p8 := by omega
          have hp9 : w2.heap.size ≤ p9 := by omega
          have hne : ¬ (p8 = p9) := by omega
          have hne' : ¬ (p9 = p8) := by omega
          rw [← hp] at hz80 hz81 hg80 hg81 ⊢
          rw [← hq] at hz90 hz91 hg90 hg91 ⊢
          clear hp hq
          have hKT : Kept w2 ((w5.alloc (Obj.cells #[.bool false, .slice none 0 0] 50)).alloc (Obj.cells #[.bool false, .slice none 0 0] 50)) := ((((((Kept.refl w2).drew.trans hk3).trans hk4).trans hk5).alloc _).alloc _)
          have ghA0 := cell_kept hKT hA0
          have ghA1 := cell_kept hKT hA1
          have ghB0 := cell_kept hKT hB0
          have ghB1 := cell_kept hKT hB1
          have HN : Hid (NIs ((w5.alloc (Obj.cells #[.bool false, .slice none 0 0] 50)).alloc (Obj.cells #[.bool false, .slice none 0 0] 50)) sq (.slice aq kq cq) (Int.tdiv (M.int m a) (M.int n b)) ∧ NIs ((w5.alloc (Obj.cells #[.bool false, .slice none 0 0] 50)).alloc (Obj.cells #[.bool false, .slice none 0 0] 50)) sr (.slice ar kr cr) (Int.tmod (M.int m a) (M.int n b)) ∧ Kept w2 ((w5.alloc (Obj.cells #[.bool false, .slice none 0 0] 50)).alloc (Obj.cells #[.bool false, .slice none 0 0] 50))) := ⟨hNq.kept (((Kept.refl _).alloc _).alloc _), hNr.kept (((Kept.refl _).alloc _).alloc _), hKT⟩
          clear hN3 hN4 hNq hNr hk3 hk4 hk5 hHeld hKT
          generalize ((w5.alloc (Obj.cells #[.bool false, .slice none 0 0] 50)).alloc (Obj.cells #[.bool false, .slice none 0 0] 50)) = Wx at ghA0 ghA1 ghB0 ghB1 hz80 hz81 hz90 hz91 hg80 hg81 hg90 hg91 HN ⊢
          refine wpAnyH_ready (rs := [10]) (by kernel_rfl) (by simp) ?_
          refine AllReadyH.cons rfl (fun K hK => ?_) AllReadyH.nil
          go_simp
          refine hK.out _ _ ⟨set2_far (p := p8) ghA0 (by omega), set2_far (p := p8) ghA1 (by omega), set2_far (p := p8) ghB0 (by omega), set2_far (p := p8) ghB1 (by omega)⟩ (fun hHeld => ?_)
          clear hK K
          refine wpAnyH_ready (rs := [11]) (by kernel_rfl) (by simp) ?_
          refine AllReadyH.cons rfl (fun K hK => ?_) AllReadyH.nil
          go_simp
          refine hK.out _ _ ⟨set2_far (p := p9) (set2_far (p := p8) ghA0 (by omega)) (by omega), set2_far (p := p9) (set2_far (p := p8) ghA1 (by omega)) (by omega), set2_far (p := p9) (set2_far (p := p8) ghB0 (by omega)) (by omega), set2_far (p := p9) (set2_far (p := p8) ghB1 (by omega)) (by omega)⟩ (fun hHeld => ?_)
          clear hK K
          refine wpAnyH_done (by kernel_rfl) ?_ _
          go_wp2_with fail
          go_meet
          case rel =>
            have e8 := set2_at (x := .bool sq) (y := .slice aq kq cq) hz80 hz81
            have z90 := set2_far (x := .bool sq) (y := .slice aq kq cq) hz90 hne
            have z91 := set2_far (x := .bool sq) (y := .slice aq kq cq) hz91 hne
            have e9 := set2_at (x := .bool sr) (y := .slice ar kr cr) z90 z91
            exact ⟨p8, p9, sq, sr, aq, ar, kq, kr, cq, cr, rfl, rfl, set2_far e8.1 hne', set2_far e8.2 hne', e9.1, e9.2, by omega, by omega, (((HN.out.2.2.setCell hp8 _).setCell hp8 _).setCell hp9 _).setCell hp9 _, (HN.out.1.box2 hz80 hz81 _ _).box2 z90 z91 _ _, (HN.out.2.1.box2 hz80 hz81 _ _).box2 z90 z91 _ _⟩
        refine AllReadyH.cons rfl (fun K hK => ?_) ?_
        · go_simp
          refine hK.out _ _ ⟨cell_kept ((((Kept.refl w2).drew.trans hk3).trans hk4).alloc _) hA0, cell_kept ((((Kept.refl w2).drew.trans hk3).trans hk4).alloc _) hA1, cell_kept ((((Kept.refl w2).drew.trans hk3).trans hk4).alloc _) hB0, cell_kept ((((Kept.refl w2).drew.trans hk3).trans hk4).alloc _) hB1⟩ (fun hHeld => ?_)
          clear hK K
          refine wpAnyH_ready (rs := [4, 9]) (by kernel_rfl) (by simp) ?_
          refine AllReadyH.cons rfl (fun K hK => ?_) ?_
          · go_simp
            refine (Divide_any s3 s4 a3 a4 k3 k4 c3 c4 (M.int m a) (M.int n b) _ (hN3.kept (((Kept.refl _).trans hk4).alloc _)) (hN4.kept ((Kept.refl _).alloc _)) (by omega) (by omega) HY.out).mono ?_
            rintro e w5 ⟨hk5, sq, aq, kq, cq, sr, ar, kr, cr, rfl, hNq, hNr, hlq, hlr⟩
            have hs5 : w2.heap.size ≤ w5.heap.size := (((((Kept.refl w2).drew.trans hk3).trans hk4).alloc _).trans hk5).size
            have ht5 := hk5.size
            try simp at ht5
            refine hK.out _ _ ⟨cell_kept (((((Kept.refl w2).drew.trans hk3).trans hk4).alloc _).trans hk5) hA0, cell_kept (((((Kept.refl w2).drew.trans hk3).trans hk4).alloc _).trans hk5) hA1, cell_kept (((((Kept.refl w2).drew.trans hk3).trans hk4).alloc _).trans hk5) hB0, cell_kept (((((Kept.refl w2).drew.trans hk3).trans hk4).alloc _).trans hk5) hB1⟩ (fun hHeld => ?_)
            clear hK K
            refine wpAnyH_take (i := 5) (v := ?v5x4) rfl (by kernel_rfl) (by kernel_rfl) (by kernel_rfl) (fun _ _ _ h => h) (Or.inl ⟨by rfl, ?y5x4⟩) hHeld ?r5x4
            case y5x4 =>
              intro w' hSw
              obtain ⟨hSw0, hSw1, hSw2, hSw3⟩ := hSw
              go_simp
              with_reducible rfl
            case r5x4 =>
            refine wpAnyH_take (i := 6) (v := ?v6x5) rfl (by kernel_rfl) (by kernel_rfl) (by kernel_rfl) (fun _ _ _ h => h) (Or.inl ⟨by rfl, ?y6x5⟩) hHeld ?r6x5
            case y6x5 =>
              intro w' hSw
              obtain ⟨hSw0, hSw1, hSw2, hSw3⟩ := hSw
              go_simp
              with_reducible rfl
            case r6x5 =>
            refine wpAnyH_take (i := 7) (v := ?v7x6) rfl (by kernel_rfl) (by kernel_rfl) (by kernel_rfl) (fun _ _ _ h => h) (Or.inl ⟨by rfl, ?y7x6⟩) hHeld ?r7x6
            case y7x6 =>
              intro w' hSw
              obtain ⟨hSw0, hSw1, hSw2, hSw3⟩ := hSw
              go_simp
              with_reducible rfl
            case r7x6 =>
            refine wpAnyH_ready (rs := [9]) (by kernel_rfl) (by simp) ?_
            refine AllReadyH.cons rfl (fun K hK => ?_) AllReadyH.nil
            go_simp
            refine hK.out _ _ ⟨cell_kept ((((((Kept.refl w2).drew.trans hk3).trans hk4).alloc _).trans hk5).alloc _) hA0, cell_kept ((((((Kept.refl w2).drew.trans hk3).trans hk4).alloc _).trans hk5).alloc _) hA1, cell_kept ((((((Kept.refl w2).drew.trans hk3).trans hk4).alloc _).trans hk5).alloc _) hB0, cell_kept ((((((Kept.refl w2).drew.trans hk3).trans hk4).alloc _).trans hk5).alloc _) hB1⟩ (fun hHeld => ?_)
            clear hK K
            have hz80 : (w5.alloc (Obj.cells #[.bool false, .slice none 0 0] 50)).cell? ⟨w4.heap.size, 0, none⟩ = some (.bool false) := cell_kept (((Kept.refl _).trans hk5).alloc _) (World.cell?_alloc_at _ _ _ _ (by simp))
            have hg80 : (w5.alloc (Obj.cells #[.bool false, .slice none 0 0] 50)).frozen? ⟨w4.heap.size, 0, none⟩ = false := ((((Kept.refl _).trans hk5).alloc _).frozens _ _ (by simp)).trans (World.frozen?_alloc_at _ _ _ _ (by simp))
            have hz81 : (w5.alloc (Obj.cells #[.bool false, .slice none 0 0] 50)).cell? ⟨w4.heap.size, 1, none⟩ = some (.slice none 0 0) := cell_kept (((Kept.refl _).trans hk5).alloc _) (World.cell?_alloc_at _ _ _ _ (by simp))
            have hg81 : (w5.alloc (Obj.cells #[.bool false, .slice none 0 0] 50)).frozen? ⟨w4.heap.size, 1, none⟩ = false := ((((Kept.refl _).trans hk5).alloc _).frozens _ _ (by simp)).trans (World.frozen?_alloc_at _ _ _ _ (by simp))
            have hz90 : (w5.alloc (Obj.cells #[.bool false, .slice none 0 0] 50)).cell? ⟨w5.heap.size, 0, none⟩ = some (.bool false) := cell_kept (Kept.refl _) (World.cell?_alloc_at _ _ _ _ (by simp))
            have hg90 : (w5.alloc (Obj.cells #[.bool false, .slice none 0 0] 50)).frozen? ⟨w5.heap.size, 0, none⟩ = false := ((Kept.refl _).frozens _ _ (by simp)).trans (World.frozen?_alloc_at _ _ _ _ (by simp))
            have hz91 : (w5.alloc (Obj.cells #[.bool false, .slice none 0 0] 50)).cell? ⟨w5.heap.size, 1, none⟩ = some (.slice none 0 0) := cell_kept (Kept.refl _) (World.cell?_alloc_at _ _ _ _ (by simp))
            have hg91 : (w5.alloc (Obj.cells #[.bool false, .slice none 0 0] 50)).frozen? ⟨w5.heap.size, 1, none⟩ = false := ((Kept.refl _).frozens _ _ (by simp)).trans (World.frozen?_alloc_at _ _ _ _ (by simp))
            obtain ⟨p8, hp⟩ : ∃ p, p = w4.heap.size := ⟨_, rfl⟩
            obtain ⟨p9, hq⟩ : ∃ p, p = w5.heap.size := ⟨_, rfl⟩
            have hp8 : w2.heap.size ≤ p8 := by omega
            have hp9 : w2.heap.size ≤ p9 := by omega
            have hne : ¬ (p8 = p9) := by omega
            have hne' : ¬ (p9 = p8) := by omega
            rw [← hp] at hz80 hz81 hg80 hg81 ⊢
            rw [← hq] at hz90 hz91 hg90 hg91 ⊢
            clear hp hq
            have hKT : Kept w2 (w5.alloc (Obj.cells #[.bool false, .slice none 0 0] 50)) := ((((((Kept.refl w2).drew.trans hk3).trans hk4).alloc _).trans hk5).alloc _)
            have ghA0 := cell_kept hKT hA0
            have ghA1 := cell_kept hKT hA1
            have ghB0 := cell_kept hKT hB0
            have ghB1 := cell_kept hKT hB1
            have HN : Hid (NIs (w5.alloc (Obj.cells #[.bool false, .slice none 0 0] 50)) sq (.slice aq kq cq) (Int.tdiv (M.int m a) (M.int n b)) ∧ NIs (w5.alloc (Obj.cells #[.bool false, .slice none 0 0] 50)) sr (.slice ar kr cr) (Int.tmod (M.int m a) (M.int n b)) ∧ Kept w2 (w5.alloc (Obj.cells #[.bool false, .slice none 0 0] 50))) := ⟨hNq.kept ((Kept.refl _).alloc _), hNr.kept ((Kept.refl _).alloc _), hKT⟩
            clear hN3 hN4 hNq hNr hk3 hk4 hk5 hHeld hKT
            generalize (w5.alloc (Obj.cells #[.bool false, .slice none 0 0] 50)) = Wx at ghA0 ghA1 ghB0 ghB1 hz80 hz81 hz90 hz91 hg80 hg81 hg90 hg91 HN ⊢
            refine wpAnyH_ready (rs := [10]) (by kernel_rfl) (by simp) ?_
            refine AllReadyH.cons rfl (fun K hK => ?_) AllReadyH.nil
            go_simp
            refine hK.out _ _ ⟨set2_far (p := p8) ghA0 (by omega), set2_far (p := p8) ghA1 (by omega), set2_far (p := p8) ghB0 (by omega), set2_far (p := p8) ghB1 (by omega)⟩ (fun hHeld => ?_)
            clear hK K
            refine wpAnyH_ready (rs := [11]) (by kernel_rfl) (by simp) ?_
            refine AllReadyH.cons rfl (fun K hK => ?_) AllReadyH.nil
            go_simp
            refine hK.out _ _ ⟨set2_far (p := p9) (set2_far (p := p8) ghA0 (by omega)) (by omega), set2_far (p := p9) (set2_far (p := p8) ghA1 (by omega)) (by omega), set2_far (p := p9) (set2_far (p := p8) ghB0 (by omega)) (by omega), set2_far (p := p9) (set2_far (p := p8) ghB1 (by omega)) (by omega)⟩ (fun hHeld => ?_)
            clear hK K
            refine wpAnyH_done (by kernel_rfl) ?_ _
            go_wp2_with fail
            go_meet
            case rel =>
              have e8 := set2_at (x := .bool sq) (y := .slice aq kq cq) hz80 hz81
              have z90 := set2_far (x := .bool sq) (y := .slice aq kq cq) hz90 hne
              have z91 := set2_far (x := .bool sq) (y := .slice aq kq cq) hz91 hne
              have e9 := set2_at (x := .bool sr) (y := .slice ar kr cr) z90 z91
              exact ⟨p8, p9, sq, sr, aq, ar, kq, kr, cq, cr, rfl, rfl, set2_far e8.1 hne', set2_far e8.2 hne', e9.1, e9.2, by omega, by omega, (((HN.out.2.2.setCell hp8 _).setCell hp8 _).setCell hp9 _).setCell hp9 _, (HN.out.1.box2 hz80 hz81 _ _).box2 z90 z91 _ _, (HN.out.2.1.box2 hz80 hz81 _ _).box2 z90 z91 _ _⟩
          refine AllReadyH.cons rfl (fun K hK => ?_) AllReadyH.nil
          go_simp
          refine hK.out _ _ ⟨cell_kept (((((Kept.refl w2).drew.trans hk3).trans hk4).alloc _).alloc _) hA0, cell_kept (((((Kept.refl w2).drew.trans hk3).trans hk4).alloc _).alloc _) hA1, cell_kept (((((Kept.refl w2).drew.trans hk3).trans hk4).alloc _).alloc _) hB0, cell_kept (((((Kept.refl w2).drew.trans hk3).trans hk4).alloc _).alloc _) hB1⟩ (fun hHeld => ?_)
          clear hK K
          refine wpAnyH_ready (rs := [4]) (by kernel_rfl) (by simp) ?_
          refine AllReadyH.cons rfl (fun K hK => ?_) AllReadyH.nil
          go_simp
          refine (Divide_any s3 s4 a3 a4 k3 k4 c3 c4 (M.int m a) (M.int n b) _ (hN3.kept ((((Kept.refl _).trans hk4).alloc _).alloc _)) (hN4.kept (((Kept.refl _).alloc _).alloc _)) (by omega) (by omega) HY.out).mono ?_
          rintro e w5 ⟨hk5, sq, aq, kq, cq, sr, ar, kr, cr, rfl, hNq, hNr, hlq, hlr⟩
          have hs5 : w2.heap.size ≤ w5.heap.size := ((((((Kept.refl w2).drew.trans hk3).trans hk4).alloc _).alloc _).trans hk5).size
          have ht5 := hk5.size
          try simp at ht5
          refine hK.out _ _ ⟨cell_kept ((((((Kept.refl w2).drew.trans hk3).trans hk4).alloc _).alloc _).trans hk5) hA0, cell_kept ((((((Kept.refl w2).drew.trans hk3).trans hk4).alloc _).alloc _).trans hk5) hA1, cell_kept ((((((Kept.refl w2).drew.trans hk3).trans hk4).alloc _).alloc _).trans hk5) hB0, cell_kept ((((((Kept.refl w2).drew.trans hk3).trans hk4).alloc _).alloc _).trans hk5) hB1⟩ (fun hHeld => ?_)
          clear hK K
          refine wpAnyH_take (i := 5) (v := ?v5x7) rfl (by kernel_rfl) (by kernel_rfl) (by kernel_rfl) (fun _ _ _ h => h) (Or.inl ⟨by rfl, ?y5x7⟩) hHeld ?r5x7
          case y5x7 =>
            intro w' hSw
            obtain ⟨hSw0, hSw1, hSw2, hSw3⟩ := hSw
            go_simp
            with_reducible rfl
          case r5x7 =>
          refine wpAnyH_take (i := 6) (v := ?v6x8) rfl (by kernel_rfl) (by kernel_rfl) (by kernel_rfl) (fun _ _ _ h => h) (Or.inl ⟨by rfl, ?y6x8⟩) hHeld ?r6x8
          case y6x8 =>
            intro w' hSw
            obtain ⟨hSw0, hSw1, hSw2, hSw3⟩ := hSw
            go_simp
            with_reducible rfl
          case r6x8 =>
          refine wpAnyH_take (i := 7) (v := ?v7x9) rfl (by kernel_rfl) (by kernel_rfl) (by kernel_rfl) (fun _ _ _ h => h) (Or.inl ⟨by rfl, ?y7x9⟩) hHeld ?r7x9
          case y7x9 =>
            intro w' hSw
            obtain ⟨hSw0, hSw1, hSw2, hSw3⟩ := hSw
            go_simp
            with_reducible rfl
          case r7x9 =>
          have hz80 : w5.cell? ⟨w4.heap.size, 0, none⟩ = some (.bool false) := cell_kept (((Kept.refl _).alloc _).trans hk5) (World.cell?_alloc_at _ _ _ _ (by simp))
          have hg80 : w5.frozen? ⟨w4.heap.size, 0, none⟩ = false := ((((Kept.refl _).alloc _).trans hk5).frozens _ _ (by simp)).trans (World.frozen?_alloc_at _ _ _ _ (by simp))
          have hz81 : w5.cell? ⟨w4.heap.size, 1, none⟩ = some (.slice none 0 0) := cell_kept (((Kept.refl _).alloc _).trans hk5) (World.cell?_alloc_at _ _ _ _ (by simp))
          have hg81 : w5.frozen? ⟨w4.heap.size, 1, none⟩ = false := ((((Kept.refl _).alloc _).trans hk5).frozens _ _ (by simp)).trans (World.frozen?_alloc_at _ _ _ _ (by simp))
          have hz90 : w5.cell? ⟨w4.heap.size + 1, 0, none⟩ = some (.bool false) := cell_kept ((Kept.refl _).trans hk5) (World.cell?_alloc_at _ _ _ _ (by simp))
          have hg90 : w5.frozen? ⟨w4.heap.size + 1, 0, none⟩ = false := (((Kept.refl _).trans hk5).frozens _ _ (by simp)).trans (World.frozen?_alloc_at _ _ _ _ (by simp))
          have hz91 : w5.cell? ⟨w4.heap.size + 1, 1, none⟩ = some (.slice none 0 0) := cell_kept ((Kept.refl _).trans hk5) (World.cell?_alloc_at _ _ _ _ (by simp))
          have hg91 : w5.frozen? ⟨w4.heap.size + 1, 1, none⟩ = false := (((Kept.refl _).trans hk5).frozens _ _ (by simp)).trans (World.frozen?_alloc_at _ _ _ _ (by simp))
          obtain ⟨p8, hp⟩ : ∃ p, p = w4.heap.size := ⟨_, rfl⟩
          obtain ⟨p9, hq⟩ : ∃ p, p = w4.heap.size + 1 := ⟨_, rfl⟩
          have hp8 : w2.heap.size ≤ p8 := by omega
          have hp9 : w2.heap.size ≤ p9 := by omega
          have hne : ¬ (p8 = p9) := by omega
          have hne' : ¬ (p9 = p8) := by omega
          rw [← hq] at hz90 hz91 hg90 hg91 ⊢
          rw [← hp] at hz80 hz81 hg80 hg81 ⊢
          clear hp hq
          have hKT : Kept w2 w5 := ((((((Kept.refl w2).drew.trans hk3).trans hk4).alloc _).alloc _).trans hk5)
          have ghA0 := cell_kept hKT hA0
          have ghA1 := cell_kept hKT hA1
          have ghB0 := cell_kept hKT hB0
          have ghB1 := cell_kept hKT hB1
          have HN : Hid (NIs w5 sq (.slice aq kq cq) (Int.tdiv (M.int m a) (M.int n b)) ∧ NIs w5 sr (.slice ar kr cr) (Int.tmod (M.int m a) (M.int n b)) ∧ Kept w2 w5) := ⟨hNq.kept (Kept.refl _), hNr.kept (Kept.refl _), hKT⟩
          clear hN3 hN4 hNq hNr hk3 hk4 hk5 hHeld hKT
          generalize w5 = Wx at ghA0 ghA1 ghB0 ghB1 hz80 hz81 hz90 hz91 hg80 hg81 hg90 hg91 HN ⊢
          refine wpAnyH_ready (rs := [10]) (by kernel_rfl) (by simp) ?_
          refine AllReadyH.cons rfl (fun K hK => ?_) AllReadyH.nil
          go_simp
          refine hK.out _ _ ⟨set2_far (p := p8) ghA0 (by omega), set2_far (p := p8) ghA1 (by omega), set2_far (p := p8) ghB0 (by omega), set2_far (p := p8) ghB1 (by omega)⟩ (fun hHeld => ?_)
          clear hK K
          refine wpAnyH_ready (rs := [11]) (by kernel_rfl) (by simp) ?_
          refine AllReadyH.cons rfl (fun K hK => ?_) AllReadyH.nil
          go_simp
          refine hK.out _ _ ⟨set2_far (p := p9) (set2_far (p := p8) ghA0 (by omega)) (by omega), set2_far (p := p9) (set2_far (p := p8) ghA1 (by omega)) (by omega), set2_far (p := p9) (set2_far (p := p8) ghB0 (by omega)) (by omega), set2_far (p := p9) (set2_far (p := p8) ghB1 (by omega)) (by omega)⟩ (fun hHeld => ?_)
          clear hK K
          refine wpAnyH_done (by kernel_rfl) ?_ _
          go_wp2_with fail
          go_meet
          case rel =>
            have e8 := set2_at (x := .bool sq) (y := .slice aq kq cq) hz80 hz81
            have z90 := set2_far (x := .bool sq) (y := .slice aq kq cq) hz90 hne
            have z91 := set2_far (x := .bool sq) (y := .slice aq kq cq) hz91 hne
            have e9 := set2_at (x := .bool sr) (y := .slice ar kr cr) z90 z91
            exact ⟨p8, p9, sq, sr, aq, ar, kq, kr, cq, cr, rfl, rfl, set2_far e8.1 hne', set2_far e8.2 hne', e9.1, e9.2, by omega, by omega, (((HN.out.2.2.setCell hp8 _).setCell hp8 _).setCell hp9 _).setCell hp9 _, (HN.out.1.box2 hz80 hz81 _ _).box2 z90 z91 _ _, (HN.out.2.1.box2 hz80 hz81 _ _).box2 z90 z91 _ _⟩
        refine AllReadyH.cons rfl (fun K hK => ?_) AllReadyH.nil
        go_simp
        refine hK.out _ _ ⟨cell_kept ((((Kept.refl w2).drew.trans hk3).trans hk4).alloc _) hA0, cell_kept ((((Kept.refl w2).drew.trans hk3).trans hk4).alloc _) hA1, cell_kept ((((Kept.refl w2).drew.trans hk3).trans hk4).alloc _) hB0, cell_kept ((((Kept.refl w2).drew.trans hk3).trans hk4).alloc _) hB1⟩ (fun hHeld => ?_)
        clear hK K
        refine wpAnyH_ready (rs := [4, 8]) (by kernel_rfl) (by simp) ?_
        refine AllReadyH.cons rfl (fun K hK => ?_) ?_
        · go_simp
          refine (Divide_any s3 s4 a3 a4 k3 k4 c3 c4 (M.int m a) (M.int n b) _ (hN3.kept (((Kept.refl _).trans hk4).alloc _)) (hN4.kept ((Kept.refl _).alloc _)) (by omega) (by omega) HY.out).mono ?_
          rintro e w5 ⟨hk5, sq, aq, kq, cq, sr, ar, kr, cr, rfl, hNq, hNr, hlq, hlr⟩
          have hs5 : w2.heap.size ≤ w5.heap.size := (((((Kept.refl w2).drew.trans hk3).trans hk4).alloc _).trans hk5).size
          have ht5 := hk5.size
          try simp at ht5
          refine hK.out _ _ ⟨cell_kept (((((Kept.refl w2).drew.trans hk3).trans hk4).alloc _).trans hk5) hA0, cell_kept (((((Kept.refl w2).drew.trans hk3).trans hk4).alloc _).trans hk5) hA1, cell_kept (((((Kept.refl w2).drew.trans hk3).trans hk4).alloc _).trans hk5) hB0, cell_kept (((((Kept.refl w2).drew.trans hk3).trans hk4).alloc _).trans hk5) hB1⟩ (fun hHeld => ?_)
          clear hK K
          refine wpAnyH_take (i := 5) (v := ?v5x10) rfl (by kernel_rfl) (by kernel_rfl) (by kernel_rfl) (fun _ _ _ h => h) (Or.inl ⟨by rfl, ?y5x10⟩) hHeld ?r5x10
          case y5x10 =>
            intro w' hSw
            obtain ⟨hSw0, hSw1, hSw2, hSw3⟩ := hSw
            go_simp
            with_reducible rfl
          case r5x10 =>
          refine wpAnyH_take (i := 6) (v := ?v6x11) rfl (by kernel_rfl) (by kernel_rfl) (by kernel_rfl) (fun _ _ _ h => h) (Or.inl ⟨by rfl, ?y6x11⟩) hHeld ?r6x11
          case y6x11 =>
            intro w' hSw
            obtain ⟨hSw0, hSw1, hSw2, hSw3⟩ := hSw
            go_simp
            with_reducible rfl
          case r6x11 =>
          refine wpAnyH_take (i := 7) (v := ?v7x12) rfl (by kernel_rfl) (by kernel_rfl) (by kernel_rfl) (fun _ _ _ h => h) (Or.inl ⟨by rfl, ?y7x12⟩) hHeld ?r7x12
          case y7x12 =>
            intro w' hSw
            obtain ⟨hSw0, hSw1, hSw2, hSw3⟩ := hSw
            go_simp
            with_reducible rfl
          case r7x12 =>
          refine wpAnyH_ready (rs := [8]) (by kernel_rfl) (by simp) ?_
          refine AllReadyH.cons rfl (fun K hK => ?_) AllReadyH.nil
          go_simp
          refine hK.out _ _ ⟨cell_kept ((((((Kept.refl w2).drew.trans hk3).trans hk4).alloc _).trans hk5).alloc _) hA0, cell_kept ((((((Kept.refl w2).drew.trans hk3).trans hk4).alloc _).trans hk5).alloc _) hA1, cell_kept ((((((Kept.refl w2).drew.trans hk3).trans hk4).alloc _).trans hk5).alloc _) hB0, cell_kept ((((((Kept.refl w2).drew.trans hk3).trans hk4).alloc _).trans hk5).alloc _) hB1⟩ (fun hHeld => ?_)
          clear hK K
          have hz80 : (w5.alloc (Obj.cells #[.bool false, .slice none 0 0] 50)).cell? ⟨w5.heap.size, 0, none⟩ = some (.bool false) := cell_kept (Kept.refl _) (World.cell?_alloc_at _ _ _ _ (by simp))
          have hg80 : (w5.alloc (Obj.cells #[.bool false, .slice none 0 0] 50)).frozen? ⟨w5.heap.size, 0, none⟩ = false := ((Kept.refl _).frozens _ _ (by simp)).trans (World.frozen?_alloc_at _ _ _ _ (by simp))
          have hz81 : (w5.alloc (Obj.cells #[.bool false, .slice none 0 0] 50)).cell? ⟨w5.heap.size, 1, none⟩ = some (.slice none 0 0) := cell_kept (Kept.refl _) (World.cell?_alloc_at _ _ _ _ (by simp))
          have hg81 : (w5.alloc (Obj.cells #[.bool false, .slice none 0 0] 50)).frozen? ⟨w5.heap.size, 1, none⟩ = false := ((Kept.refl _).frozens _ _ (by simp)).trans (World.frozen?_alloc_at _ _ _ _ (by simp))
          have hz90 : (w5.alloc (Obj.cells #[.bool false, .slice none 0 0] 50)).cell? ⟨w4.heap.size, 0, none⟩ = some (.bool false) := cell_kept (((Kept.refl _).trans hk5).alloc _) (World.cell?_alloc_at _ _ _ _ (by simp))
          have hg90 : (w5.alloc (Obj.cells #[.bool false, .slice none 0 0] 50)).frozen? ⟨w4.heap.size, 0, none⟩ = false := ((((Kept.refl _).trans hk5).alloc _).frozens _ _ (by simp)).trans (World.frozen?_alloc_at _ _ _ _ (by simp))
          have hz91 : (w5.alloc (Obj.cells #[.bool false, .slice none 0 0] 50)).cell? ⟨w4.heap.size, 1, none⟩ = some (.slice none 0 0) := cell_kept (((Kept.refl _).trans hk5).alloc _) (World.cell?_alloc_at _ _ _ _ (by simp))
          have hg91 : (w5.alloc (Obj.cells #[.bool false, .slice none 0 0] 50)).frozen? ⟨w4.heap.size, 1, none⟩ = false := ((((Kept.refl _).trans hk5).alloc _).frozens _ _ (by simp)).trans (World.frozen?_alloc_at _ _ _ _ (by simp))
          obtain ⟨p8, hp⟩ : ∃ p, p = w5.heap.size := ⟨_, rfl⟩
          obtain ⟨p9, hq⟩ : ∃ p, p = w4.heap.size := ⟨_, rfl⟩
          have hp8 : w2.heap.size ≤ p8 := by omega
          have hp9 : w2.heap.size ≤ p9 := by omega
          have hne : ¬ (p8 = p9) := by omega
          have hne' : ¬ (p9 = p8) := by omega
          rw [← hp] at hz80 hz81 hg80 hg81 ⊢
          rw [← hq] at hz90 hz91 hg90 hg91 ⊢
          clear hp hq
          have hKT : Kept w2 (w5.alloc (Obj.cells #[.bool false, .slice none 0 0] 50)) := ((((((Kept.refl w2).drew.trans hk3).trans hk4).alloc _).trans hk5).alloc _)
          have ghA0 := cell_kept hKT hA0
          have ghA1 := cell_kept hKT hA1
          have ghB0 := cell_kept hKT hB0
          have ghB1 := cell_kept hKT hB1
          have HN : Hid (NIs (w5.alloc (Obj.cells #[.bool false, .slice none 0 0] 50)) sq (.slice aq kq cq) (Int.tdiv (M.int m a) (M.int n b)) ∧ NIs (w5.alloc (Obj.cells #[.bool false, .slice none 0 0] 50)) sr (.slice ar kr cr) (Int.tmod (M.int m a) (M.int n b)) ∧ Kept w2 (w5.alloc (Obj.cells #[.bool false, .slice none 0 0] 50))) := ⟨hNq.kept ((Kept.refl _).alloc _), hNr.kept ((Kept.refl _).alloc _), hKT⟩
          clear hN3 hN4 hNq hNr hk3 hk4 hk5 hHeld hKT
          generalize (w5.alloc (Obj.cells #[.bool false, .slice none 0 0] 50)) = Wx at ghA0 ghA1 ghB0 ghB1 hz80 hz81 hz90 hz91 hg80 hg81 hg90 hg91 HN ⊢
          refine wpAnyH_ready (rs := [10]) (by kernel_rfl) (by simp) ?_
          refine AllReadyH.cons rfl (fun K hK => ?_) AllReadyH.nil
          go_simp
          refine hK.out _ _ ⟨set2_far (p := p8) ghA0 (by omega), set2_far (p := p8) ghA1 (by omega), set2_far (p := p8) ghB0 (by omega), set2_far (p := p8) ghB1 (by omega)⟩ (fun hHeld => ?_)
          clear hK K
          refine wpAnyH_ready (rs := [11]) (by kernel_rfl) (by simp) ?_
          refine AllReadyH.cons rfl (fun K hK => ?_) AllReadyH.nil
          go_simp
          refine hK.out _ _ ⟨set2_far (p := p9) (set2_far (p := p8) ghA0 (by omega)) (by omega), set2_far (p := p9) (set2_far (p := p8) ghA1 (by omega)) (by omega), set2_far (p := p9) (set2_far (p := p8) ghB0 (by omega)) (by omega), set2_far (p := p9) (set2_far (p := p8) ghB1 (by omega)) (by omega)⟩ (fun hHeld => ?_)
          clear hK K
          refine wpAnyH_done (by kernel_rfl) ?_ _
          go_wp2_with fail
          go_meet
          case rel =>
            have e8 := set2_at (x := .bool sq) (y := .slice aq kq cq) hz80 hz81
            have z90 := set2_far (x := .bool sq) (y := .slice aq kq cq) hz90 hne
            have z91 := set2_far (x := .bool sq) (y := .slice aq kq cq) hz91 hne
            have e9 := set2_at (x := .bool sr) (y := .slice ar kr cr) z90 z91
            exact ⟨p8, p9, sq, sr, aq, ar, kq, kr, cq, cr, rfl, rfl, set2_far e8.1 hne', set2_far e8.2 hne', e9.1, e9.2, by omega, by omega, (((HN.out.2.2.setCell hp8 _).setCell hp8 _).setCell hp9 _).setCell hp9 _, (HN.out.1.box2 hz80 hz81 _ _).box2 z90 z91 _ _, (HN.out.2.1.box2 hz80 hz81 _ _).box2 z90 z91 _ _⟩
        refine AllReadyH.cons rfl (fun K hK => ?_) AllReadyH.nil
        go_simp
        refine hK.out _ _ ⟨cell_kept (((((Kept.refl w2).drew.trans hk3).trans hk4).alloc _).alloc _) hA0, cell_kept (((((Kept.refl w2).drew.trans hk3).trans hk4).alloc _).alloc _) hA1, cell_kept (((((Kept.refl w2).drew.trans hk3).trans hk4).alloc _).alloc _) hB0, cell_kept (((((Kept.refl w2).drew.trans hk3).trans hk4).alloc _).alloc _) hB1⟩ (fun hHeld => ?_)
        clear hK K
        refine wpAnyH_ready (rs := [4]) (by kernel_rfl) (by simp) ?_
        refine AllReadyH.cons rfl (fun K hK => ?_) AllReadyH.nil
        go_simp
        refine (Divide_any s3 s4 a3 a4 k3 k4 c3 c4 (M.int m a) (M.int n b) _ (hN3.kept ((((Kept.refl _).trans hk4).alloc _).alloc _)) (hN4.kept (((Kept.refl _).alloc _).alloc _)) (by omega) (by omega) HY.out).mono ?_
        rintro e w5 ⟨hk5, sq, aq, kq, cq, sr, ar, kr, cr, rfl, hNq, hNr, hlq, hlr⟩
        have hs5 : w2.heap.size ≤ w5.heap.size := ((((((Kept.refl w2).drew.trans hk3).trans hk4).alloc _).alloc _).trans hk5).size
        have ht5 := hk5.size
        try simp at ht5
        refine hK.out _ _ ⟨cell_kept ((((((Kept.refl w2).drew.trans hk3).trans hk4).alloc _).alloc _).trans hk5) hA0, cell_kept ((((((Kept.refl w2).drew.trans hk3).trans hk4).alloc _).alloc _).trans hk5) hA1, cell_kept ((((((Kept.refl w2).drew.trans hk3).trans hk4).alloc _).alloc _).trans hk5) hB0, cell_kept ((((((Kept.refl w2).drew.trans hk3).trans hk4).alloc _).alloc _).trans hk5) hB1⟩ (fun hHeld => ?_)
        clear hK K
        refine wpAnyH_take (i := 5) (v := ?v5x13) rfl (by kernel_rfl) (by kernel_rfl) (by kernel_rfl) (fun _ _ _ h => h) (Or.inl ⟨by rfl, ?y5x13⟩) hHeld ?r5x13
        case y5x13 =>
          intro w' hSw
          obtain ⟨hSw0, hSw1, hSw2, hSw3⟩ := hSw
          go_simp
          with_reducible rfl
        case r5x13 =>
        refine wpAnyH_take (i := 6) (v := ?v6x14) rfl (by kernel_rfl) (by kernel_rfl) (by kernel_rfl) (fun _ _ _ h => h) (Or.inl ⟨by rfl, ?y6x14⟩) hHeld ?r6x14
        case y6x14 =>
          intro w' hSw
          obtain ⟨hSw0, hSw1, hSw2, hSw3⟩ := hSw
          go_simp
          with_reducible rfl
        case r6x14 =>
        refine wpAnyH_take (i := 7) (v := ?v7x15) rfl (by kernel_rfl) (by kernel_rfl) (by kernel_rfl) (fun _ _ _ h => h) (Or.inl ⟨by rfl, ?y7x15⟩) hHeld ?r7x15
        case y7x15 =>
          intro w' hSw
          obtain ⟨hSw0, hSw1, hSw2, hSw3⟩ := hSw
          go_simp
          with_reducible rfl
        case r7x15 =>
        have hz80 : w5.cell? ⟨w4.heap.size + 1, 0, none⟩ = some (.bool false) := cell_kept ((Kept.refl _).trans hk5) (World.cell?_alloc_at _ _ _ _ (by simp))
        have hg80 : w5.frozen? ⟨w4.heap.size + 1, 0, none⟩ = false := (((Kept.refl _).trans hk5).frozens _ _ (by simp)).trans (World.frozen?_alloc_at _ _ _ _ (by simp))
        have hz81 : w5.cell? ⟨w4.heap.size + 1, 1, none⟩ = some (.slice none 0 0) := cell_kept ((Kept.refl _).trans hk5) (World.cell?_alloc_at _ _ _ _ (by simp))
        have hg81 : w5.frozen? ⟨w4.heap.size + 1, 1, none⟩ = false := (((Kept.refl _).trans hk5).frozens _ _ (by simp)).trans (World.frozen?_alloc_at _ _ _ _ (by simp))
        have hz90 : w5.cell? ⟨w4.heap.size, 0, none⟩ = some (.bool false) := cell_kept (((Kept.refl _).alloc _).trans hk5) (World.cell?_alloc_at _ _ _ _ (by simp))
        have hg90 : w5.frozen? ⟨w4.heap.size, 0, none⟩ = false := ((((Kept.refl _).alloc _).trans hk5).frozens _ _ (by simp)).trans (World.frozen?_alloc_at _ _ _ _ (by simp))
        have hz91 : w5.cell? ⟨w4.heap.size, 1, none⟩ = some (.slice none 0 0) := cell_kept (((Kept.refl _).alloc _).trans hk5) (World.cell?_alloc_at _ _ _ _ (by simp))
        have hg91 : w5.frozen? ⟨w4.heap.size, 1, none⟩ = false := ((((Kept.refl _).alloc _).trans hk5).frozens _ _ (by simp)).trans (World.frozen?_alloc_at _ _ _ _ (by simp))
        obtain ⟨p8, hp⟩ : ∃ p, p = w4.heap.size + 1 := ⟨_, rfl⟩
        obtain ⟨p9, hq⟩ : ∃ p, p = w4.heap.size := ⟨_, rfl⟩
        have hp8 : w2.heap.size ≤ p8 := by omega
        have hp9 : w2.heap.size ≤ p9 := by omega
        have hne : ¬ (p8 = p9) := by omega
        have hne' : ¬ (p9 = p8) := by omega
        rw [← hp] at hz80 hz81 hg80 hg81 ⊢
        rw [← hq] at hz90 hz91 hg90 hg91 ⊢
        clear hp hq
        have hKT : Kept w2 w5 := ((((((Kept.refl w2).drew.trans hk3).trans hk4).alloc _).alloc _).trans hk5)
        have ghA0 := cell_kept hKT hA0
        have ghA1 := cell_kept hKT hA1
        have ghB0 := cell_kept hKT hB0
        have ghB1 := cell_kept hKT hB1
        have HN : Hid (NIs w5 sq (.slice aq kq cq) (Int.tdiv (M.int m a) (M.int n b)) ∧ NIs w5 sr (.slice ar kr cr) (Int.tmod (M.int m a) (M.int n b)) ∧ Kept w2 w5) := ⟨hNq.kept (Kept.refl _), hNr.kept (Kept.refl _), hKT⟩
        clear hN3 hN4 hNq hNr hk3 hk4 hk5 hHeld hKT
        generalize w5 = Wx at ghA0 ghA1 ghB0 ghB1 hz80 hz81 hz90 hz91 hg80 hg81 hg90 hg91 HN ⊢
        refine wpAnyH_ready (rs := [10]) (by kernel_rfl) (by simp) ?_
        refine AllReadyH.cons rfl (fun K hK => ?_) AllReadyH.nil
        go_simp
        refine hK.out _ _ ⟨set2_far (p := p8) ghA0 (by omega), set2_far (p := p8) ghA1 (by omega), set2_far (p := p8) ghB0 (by omega), set2_far (p := p8) ghB1 (by omega)⟩ (fun hHeld => ?_)
        clear hK K
        refine wpAnyH_ready (rs := [11]) (by kernel_rfl) (by simp) ?_
        refine AllReadyH.cons rfl (fun K hK => ?_) AllReadyH.nil
        go_simp
        refine hK.out _ _ ⟨set2_far (p := p9) (set2_far (p := p8) ghA0 (by omega)) (by omega), set2_far (p := p9) (set2_far (p := p8) ghA1 (by omega)) (by omega), set2_far (p := p9) (set2_far (p := p8) ghB0 (by omega)) (by omega), set2_far (p := p9) (set2_far (p := p8) ghB1 (by omega)) (by omega)⟩ (fun hHeld => ?_)
        clear hK K
        refine wpAnyH_done (by kernel_rfl) ?_ _
        go_wp2_with fail
        go_meet
        case rel =>
          have e8 := set2_at (x := .bool sq) (y := .slice aq kq cq) hz80 hz81
          have z90 := set2_far (x := .bool sq) (y := .slice aq kq cq) hz90 hne
          have z91 := set2_far (x := .bool sq) (y := .slice aq kq cq) hz91 hne
          have e9 := set2_at (x := .bool sr) (y := .slice ar kr cr) z90 z91
          exact ⟨p8, p9, sq, sr, aq, ar, kq, kr, cq, cr, rfl, rfl, set2_far e8.1 hne', set2_far e8.2 hne', e9.1, e9.2, by omega, by omega, (((HN.out.2.2.setCell hp8 _).setCell hp8 _).setCell hp9 _).setCell hp9 _, (HN.out.1.box2 hz80 hz81 _ _).box2 z90 z91 _ _, (HN.out.2.1.box2 hz80 hz81 _ _).box2 z90 z91 _ _⟩
      refine AllReadyH.cons rfl (fun K hK => ?_) ?_
      · go_simp
        refine hK.out _ _ ⟨cell_kept (((Kept.refl w2).drew.trans hk3).alloc _) hA0, cell_kept (((Kept.refl w2).drew.trans hk3).alloc _) hA1, cell_kept (((Kept.refl w2).drew.trans hk3).alloc _) hB0, cell_kept (((Kept.refl w2).drew.trans hk3).alloc _) hB1⟩ (fun hHeld => ?_)
        clear hK K
        refine wpAnyH_ready (rs := [3, 9]) (by kernel_rfl) (by simp) ?_
        refine AllReadyH.cons rfl (fun K hK => ?_) ?_
        · go_simp
          refine (Take_any n aob kb capb b _ (HB.out.1.kept (HK2.out.trans (((Kept.refl w2).drew.trans hk3).alloc _))) (by omega)).mono ?_
          rintro e w4 ⟨hk4, s4, a4, k4, c4, rfl, hN4, hl4⟩
          have hs4 : w2.heap.size ≤ w4.heap.size := ((((Kept.refl w2).drew.trans hk3).alloc _).trans hk4).size
          have ht4 := hk4.size
          try simp at ht4
          refine hK.out _ _ ⟨cell_kept ((((Kept.refl w2).drew.trans hk3).alloc _).trans hk4) hA0, cell_kept ((((Kept.refl w2).drew.trans hk3).alloc _).trans hk4) hA1, cell_kept ((((Kept.refl w2).drew.trans hk3).alloc _).trans hk4) hB0, cell_kept ((((Kept.refl w2).drew.trans hk3).alloc _).trans hk4) hB1⟩ (fun hHeld => ?_)
          clear hK K
          refine wpAnyH_ready (rs := [4, 9]) (by kernel_rfl) (by simp) ?_
          refine AllReadyH.cons rfl (fun K hK => ?_) ?_
          · go_simp
            refine (Divide_any s3 s4 a3 a4 k3 k4 c3 c4 (M.int m a) (M.int n b) _ (hN3.kept (((Kept.refl _).alloc _).trans hk4)) (hN4.kept (Kept.refl _)) (by omega) (by omega) HY.out).mono ?_
            rintro e w5 ⟨hk5, sq, aq, kq, cq, sr, ar, kr, cr, rfl, hNq, hNr, hlq, hlr⟩
            have hs5 : w2.heap.size ≤ w5.heap.size := (((((Kept.refl w2).drew.trans hk3).alloc _).trans hk4).trans hk5).size
            have ht5 := hk5.size
            try simp at ht5
            refine hK.out _ _ ⟨cell_kept (((((Kept.refl w2).drew.trans hk3).alloc _).trans hk4).trans hk5) hA0, cell_kept (((((Kept.refl w2).drew.trans hk3).alloc _).trans hk4).trans hk5) hA1, cell_kept (((((Kept.refl w2).drew.trans hk3).alloc _).trans hk4).trans hk5) hB0, cell_kept (((((Kept.refl w2).drew.trans hk3).alloc _).trans hk4).trans hk5) hB1⟩ (fun hHeld => ?_)
            clear hK K
            refine wpAnyH_take (i := 5) (v := ?v5x16) rfl (by kernel_rfl) (by kernel_rfl) (by kernel_rfl) (fun _ _ _ h => h) (Or.inl ⟨by rfl, ?y5x16⟩) hHeld ?r5x16
            case y5x16 =>
              intro w' hSw
              obtain ⟨hSw0, hSw1, hSw2, hSw3⟩ := hSw
              go_simp
              with_reducible rfl
            case r5x16 =>
            refine wpAnyH_take (i := 6) (v := ?v6x17) rfl (by kernel_rfl) (by kernel_rfl) (by kernel_rfl) (fun _ _ _ h => h) (Or.inl ⟨by rfl, ?y6x17⟩) hHeld ?r6x17
            case y6x17 =>
              intro w' hSw
              obtain ⟨hSw0, hSw1, hSw2, hSw3⟩ := hSw
              go_simp
              with_reducible rfl
            case r6x17 =>
            refine wpAnyH_take (i := 7) (v := ?v7x18) rfl (by kernel_rfl) (by kernel_rfl) (by kernel_rfl) (fun _ _ _ h => h) (Or.inl ⟨by rfl, ?y7x18⟩) hHeld ?r7x18
            case y7x18 =>
              intro w' hSw
              obtain ⟨hSw0, hSw1, hSw2, hSw3⟩ := hSw
              go_simp
              with_reducible rfl
            case r7x18 =>
            refine wpAnyH_ready (rs := [9]) (by kernel_rfl) (by simp) ?_
            refine AllReadyH.cons rfl (fun K hK => ?_) AllReadyH.nil
            go_simp
            refine hK.out _ _ ⟨cell_kept ((((((Kept.refl w2).drew.trans hk3).alloc _).trans hk4).trans hk5).alloc _) hA0, cell_kept ((((((Kept.refl w2).drew.trans hk3).alloc _).trans hk4).trans hk5).alloc _) hA1, cell_kept ((((((Kept.refl w2).drew.trans hk3).alloc _).trans hk4).trans hk5).alloc _) hB0, cell_kept ((((((Kept.refl w2).drew.trans hk3).alloc _).trans hk4).trans hk5).alloc _) hB1⟩ (fun hHeld => ?_)
            clear hK K
            have hz80 : (w5.alloc (Obj.cells #[.bool false, .slice none 0 0] 50)).cell? ⟨w3.heap.size, 0, none⟩ = some (.bool false) := cell_kept ((((Kept.refl _).trans hk4).trans hk5).alloc _) (World.cell?_alloc_at _ _ _ _ (by simp))
            have hg80 : (w5.alloc (Obj.cells #[.bool false, .slice none 0 0] 50)).frozen? ⟨w3.heap.size, 0, none⟩ = false := (((((Kept.refl _).trans hk4).trans hk5).alloc _).frozens _ _ (by simp)).trans (World.frozen?_alloc_at _ _ _ _ (by simp))
            have hz81 : (w5.alloc (Obj.cells #[.bool false, .slice none 0 0] 50)).cell? ⟨w3.heap.size, 1, none⟩ = some (.slice none 0 0) := cell_kept ((((Kept.refl _).trans hk4).trans hk5).alloc _) (World.cell?_alloc_at _ _ _ _ (by simp))
            have hg81 : (w5.alloc (Obj.cells #[.bool false, .slice none 0 0] 50)).frozen? ⟨w3.heap.size, 1, none⟩ = false := (((((Kept.refl _).trans hk4).trans hk5).alloc _).frozens _ _ (by simp)).trans (World.frozen?_alloc_at _ _ _ _ (by simp))
            have hz90 : (w5.alloc (Obj.cells #[.bool false, .slice none 0 0] 50)).cell? ⟨w5.heap.size, 0, none⟩ = some (.bool false) := cell_kept (Kept.refl _) (World.cell?_alloc_at _ _ _ _ (by simp))
            have hg90 : (w5.alloc (Obj.cells #[.bool false, .slice none 0 0] 50)).frozen? ⟨w5.heap.size, 0, none⟩ = false := ((Kept.refl _).frozens _ _ (by simp)).trans (World.frozen?_alloc_at _ _ _ _ (by simp))
            have hz91 : (w5.alloc (Obj.cells #[.bool false, .slice none 0 0] 50)).cell? ⟨w5.heap.size, 1, none⟩ = some (.slice none 0 0) := cell_kept (Kept.refl _) (World.cell?_alloc_at _ _ _ _ (by simp))
            have hg91 : (w5.alloc (Obj.cells #[.bool false, .slice none 0 0] 50)).frozen? ⟨w5.heap.size, 1, none⟩ = false := ((Kept.refl _).frozens _ _ (by simp)).trans (World.frozen?_alloc_at _ _ _ _ (by simp))
            obtain ⟨p8, hp⟩ : ∃ p, p = w3.heap.size := ⟨_, rfl⟩
            obtain ⟨p9, hq⟩ : ∃ p, p = w5.heap.size := ⟨_, rfl⟩
            have hp8 : w2.heap.size ≤ p8 := by omega
            have hp9 : w2.heap.size ≤ p9 := by omega
            have hne : ¬ (p8 = p9) := by omega
            have hne' : ¬ (p9 = p8) := by omega
            rw [← hp] at hz80 hz81 hg80 hg81 ⊢
            rw [← hq] at hz90 hz91 hg90 hg91 ⊢
            clear hp hq
            have hKT : Kept w2 (w5.alloc (Obj.cells #[.bool false, .slice none 0 0] 50)) := ((((((Kept.refl w2).drew.trans hk3).alloc _).trans hk4).trans hk5).alloc _)
            have ghA0 := cell_kept hKT hA0
            have ghA1 := cell_kept hKT hA1
            have ghB0 := cell_kept hKT hB0
            have ghB1 := cell_kept hKT hB1
            have HN : Hid (NIs (w5.alloc (Obj.cells #[.bool false, .slice none 0 0] 50)) sq (.slice aq kq cq) (Int.tdiv (M.int m a) (M.int n b)) ∧ NIs (w5.alloc (Obj.cells #[.bool false, .slice none 0 0] 50)) sr (.slice ar kr cr) (Int.tmod (M.int m a) (M.int n b)) ∧ Kept w2 (w5.alloc (Obj.cells #[.bool false, .slice none 0 0] 50))) := ⟨hNq.kept ((Kept.refl _).alloc _), hNr.kept ((Kept.refl _).alloc _), hKT⟩
            clear hN3 hN4 hNq hNr hk3 hk4 hk5 hHeld hKT
            generalize (w5.alloc (Obj.cells #[.bool false, .slice none 0 0] 50)) = Wx at ghA0 ghA1 ghB0 ghB1 hz80 hz81 hz90 hz91 hg80 hg81 hg90 hg91 HN ⊢
            refine wpAnyH_ready (rs := [10]) (by kernel_rfl) (by simp) ?_
            refine AllReadyH.cons rfl (fun K hK => ?_) AllReadyH.nil
            go_simp
            refine hK.out _ _ ⟨set2_far (p := p8) ghA0 (by omega), set2_far (p := p8) ghA1 (by omega), set2_far (p := p8) ghB0 (by omega), set2_far (p := p8) ghB1 (by omega)⟩ (fun hHeld => ?_)
            clear hK K
            refine wpAnyH_ready (rs := [11]) (by kernel_rfl) (by simp) ?_
            refine AllReadyH.cons rfl (fun K hK => ?_) AllReadyH.nil
            go_simp
            refine hK.out _ _ ⟨set2_far (p := p9) (set2_far (p := p8) ghA0 (by omega)) (by omega), set2_far (p := p9) (set2_far (p := p8) ghA1 (by omega)) (by omega), set2_far (p := p9) (set2_far (p := p8) ghB0 (by omega)) (by omega), set2_far (p := p9) (set2_far (p := p8) ghB1 (by omega)) (by omega)⟩ (fun hHeld => ?_)
            clear hK K
            refine wpAnyH_done (by kernel_rfl) ?_ _
            go_wp2_with fail
            go_meet
            case rel =>
              have e8 := set2_at (x := .bool sq) (y := .slice aq kq cq) hz80 hz81
              have z90 := set2_far (x := .bool sq) (y := .slice aq kq cq) hz90 hne
              have z91 := set2_far (x := .bool sq) (y := .slice aq kq cq) hz91 hne
              have e9 := set2_at (x := .bool sr) (y := .slice ar kr cr) z90 z91
              exact ⟨p8, p9, sq, sr, aq, ar, kq, kr, cq, cr, rfl, rfl, set2_far e8.1 hne', set2_far e8.2 hne', e9.1, e9.2, by omega, by omega, (((HN.out.2.2.setCell hp8 _).setCell hp8 _).setCell hp9 _).setCell hp9 _, (HN.out.1.box2 hz80 hz81 _ _).box2 z90 z91 _ _, (HN.out.2.1.box2 hz80 hz81 _ _).box2 z90 z91 _ _⟩
          refine AllReadyH.cons rfl (fun K hK => ?_) AllReadyH.nil
          go_simp
          refine hK.out _ _ ⟨cell_kept (((((Kept.refl w2).drew.trans hk3).alloc _).trans hk4).alloc _) hA0, cell_kept (((((Kept.refl w2).drew.trans hk3).alloc _).trans hk4).alloc _) hA1, cell_kept (((((Kept.refl w2).drew.trans hk3).alloc _).trans hk4).alloc _) hB0, cell_kept (((((Kept.refl w2).drew.trans hk3).alloc _).trans hk4).alloc _) hB1⟩ (fun hHeld => ?_)
          clear hK K
          refine wpAnyH_ready (rs := [4]) (by kernel_rfl) (by simp) ?_
          refine AllReadyH.cons rfl (fun K hK => ?_) AllReadyH.nil
          go_simp
          refine (Divide_any s3 s4 a3 a4 k3 k4 c3 c4 (M.int m a) (M.int n b) _ (hN3.kept ((((Kept.refl _).alloc _).trans hk4).alloc _)) (hN4.kept ((Kept.refl _).alloc _)) (by omega) (by omega) HY.out).mono ?_
          rintro e w5 ⟨hk5, sq, aq, kq, cq, sr, ar, kr, cr, rfl, hNq, hNr, hlq, hlr⟩
          have hs5 : w2.heap.size ≤ w5.heap.size := ((((((Kept.refl w2).drew.trans hk3).alloc _).trans hk4).alloc _).trans hk5).size
          have ht5 := hk5.size
          try simp at ht5
          refine hK.out _ _ ⟨cell_kept ((((((Kept.refl w2).drew.trans hk3).alloc _).trans hk4).alloc _).trans hk5) hA0, cell_kept ((((((Kept.refl w2).drew.trans hk3).alloc _).trans hk4).alloc _).trans hk5) hA1, cell_kept ((((((Kept.refl w2).drew.trans hk3).alloc _).trans hk4).alloc _).trans hk5) hB0, cell_kept ((((((Kept.refl w2).drew.trans hk3).alloc _).trans hk4).alloc _).trans hk5) hB1⟩ (fun hHeld => ?_)
          clear hK K
          refine wpAnyH_take (i := 5) (v := ?v5x19) rfl (by kernel_rfl) (by kernel_rfl) (by kernel_rfl) (fun _ _ _ h => h) (Or.inl ⟨by rfl, ?y5x19⟩) hHeld ?r5x19
          case y5x19 =>
            intro w' hSw
            obtain ⟨hSw0, hSw1, hSw2, hSw3⟩ := hSw
            go_simp
            with_reducible rfl
          case r5x19 =>
          refine wpAnyH_take (i := 6) (v := ?v6x20) rfl (by kernel_rfl) (by kernel_rfl) (by kernel_rfl) (fun _ _ _ h => h) (Or.inl ⟨by rfl, ?y6x20⟩) hHeld ?r6x20
          case y6x20 =>
            intro w' hSw
            obtain ⟨hSw0, hSw1, hSw2, hSw3⟩ := hSw
            go_simp
            with_reducible rfl
          case r6x20 =>
          refine wpAnyH_take (i := 7) (v := ?v7x21) rfl (by kernel_rfl) (by kernel_rfl) (by kernel_rfl) (fun _ _ _ h => h) (Or.inl ⟨by rfl, ?y7x21⟩) hHeld ?r7x21
          case y7x21 =>
            intro w' hSw
            obtain ⟨hSw0, hSw1, hSw2, hSw3⟩ := hSw
            go_simp
            with_reducible rfl
          case r7x21 =>
          have hz80 : w5.cell? ⟨w3.heap.size, 0, none⟩ = some (.bool false) := cell_kept ((((Kept.refl _).trans hk4).alloc _).trans hk5) (World.cell?_alloc_at _ _ _ _ (by simp))
          have hg80 : w5.frozen? ⟨w3.heap.size, 0, none⟩ = false := (((((Kept.refl _).trans hk4).alloc _).trans hk5).frozens _ _ (by simp)).trans (World.frozen?_alloc_at _ _ _ _ (by simp))
          have hz81 : w5.cell? ⟨w3.heap.size, 1, none⟩ = some (.slice none 0 0) := cell_kept ((((Kept.refl _).trans hk4).alloc _).trans hk5) (World.cell?_alloc_at _ _ _ _ (by simp))
          have hg81 : w5.frozen? ⟨w3.heap.size, 1, none⟩ = false := (((((Kept.refl _).trans hk4).alloc _).trans hk5).frozens _ _ (by simp)).trans (World.frozen?_alloc_at _ _ _ _ (by simp))
          have hz90 : w5.cell? ⟨w4.heap.size, 0, none⟩ = some (.bool false) := cell_kept ((Kept.refl _).trans hk5) (World.cell?_alloc_at _ _ _ _ (by simp))
          have hg90 : w5.frozen? ⟨w4.heap.size, 0, none⟩ = false := (((Kept.refl _).trans hk5).frozens _ _ (by simp)).trans (World.frozen?_alloc_at _ _ _ _ (by simp))
          have hz91 : w5.cell? ⟨w4.heap.size, 1, none⟩ = some (.slice none 0 0) := cell_kept ((Kept.refl _).trans hk5) (World.cell?_alloc_at _ _ _ _ (by simp))
          have hg91 : w5.frozen? ⟨w4.heap.size, 1, none⟩ = false := (((Kept.refl _).trans hk5).frozens _ _ (by simp)).trans (World.frozen?_alloc_at _ _ _ _ (by simp))
          obtain ⟨p8, hp⟩ : ∃ p, p = w3.heap.size := ⟨_, rfl⟩
          obtain ⟨p9, hq⟩ : ∃ p, p = w4.heap.size := ⟨_, rfl⟩
          have hp8 : w2.heap.size ≤ p8 := by omega
          have hp9 : w2.heap.size ≤ p9 := by omega
          have hne : ¬ (p8 = p9) := by omega
          have hne' : ¬ (p9 = p8) := by omega
          rw [← hp] at hz80 hz81 hg80 hg81 ⊢
          rw [← hq] at hz90 hz91 hg90 hg91 ⊢
          clear hp hq
          have hKT : Kept w2 w5 := ((((((Kept.refl w2).drew.trans hk3).alloc _).trans hk4).alloc _).trans hk5)
          have ghA0 := cell_kept hKT hA0
          have ghA1 := cell_kept hKT hA1
          have ghB0 := cell_kept hKT hB0
          have ghB1 := cell_kept hKT hB1
          have HN : Hid (NIs w5 sq (.slice aq kq cq) (Int.tdiv (M.int m a) (M.int n b)) ∧ NIs w5 sr (.slice ar kr cr) (Int.tmod (M.int m a) (M.int n b)) ∧ Kept w2 w5) := ⟨hNq.kept (Kept.refl _), hNr.kept (Kept.refl _), hKT⟩
          clear hN3 hN4 hNq hNr hk3 hk4 hk5 hHeld hKT
          generalize w5 = Wx at ghA0 ghA1 ghB0 ghB1 hz80 hz81 hz90 hz91 hg80 hg81 hg90 hg91 HN ⊢
          refine wpAnyH_ready (rs := [10]) (by kernel_rfl) (by simp) ?_
          refine AllReadyH.cons rfl (fun K hK => ?_) AllReadyH.nil
          go_simp
          refine hK.out _ _ ⟨set2_far (p := p8) ghA0 (by omega), set2_far (p := p8) ghA1 (by omega), set2_far (p := p8) ghB0 (by omega), set2_far (p := p8) ghB1 (by omega)⟩ (fun hHeld => ?_)
          clear hK K
          refine wpAnyH_ready (rs := [11]) (by kernel_rfl) (by simp) ?_
          refine AllReadyH.cons rfl (fun K hK => ?_) AllReadyH.nil
          go_simp
          refine hK.out _ _ ⟨set2_far (p := p9) (set2_far (p := p8) ghA0 (by omega)) (by omega), set2_far (p := p9) (set2_far (p := p8) ghA1 (by omega)) (by omega), set2_far (p := p9) (set2_far (p := p8) ghB0 (by omega)) (by omega), set2_far (p := p9) (set2_far (p := p8) ghB1 (by omega)) (by omega)⟩ (fun hHeld => ?_)
          clear hK K
          refine wpAnyH_done (by kernel_rfl) ?_ _
          go_wp2_with fail
          go_meet
          case rel =>
            have e8 := set2_at (x := .bool sq) (y := .slice aq kq cq) hz80 hz81
            have z90 := set2_far (x := .bool sq) (y := .slice aq kq cq) hz90 hne
            have z91 := set2_far (x := .bool sq) (y := .slice aq kq cq) hz91 hne
            have e9 := set2_at (x := .bool sr) (y := .slice ar kr cr) z90 z91
            exact ⟨p8, p9, sq, sr, aq, ar, kq, kr, cq, cr, rfl, rfl, set2_far e8.1 hne', set2_far e8.2 hne', e9.1, e9.2, by omega, by omega, (((HN.out.2.2.setCell hp8 _).setCell hp8 _).setCell hp9 _).setCell hp9 _, (HN.out.1.box2 hz80 hz81 _ _).box2 z90 z91 _ _, (HN.out.2.1.box2 hz80 hz81 _ _).box2 z90 z91 _ _⟩
        refine AllReadyH.cons rfl (fun K hK => ?_) AllReadyH.nil
        go_simp
        refine hK.out _ _ ⟨cell_kept ((((Kept.refl w2).drew.trans hk3).alloc _).alloc _) hA0, cell_kept ((((Kept.refl w2).drew.trans hk3).alloc _).alloc _) hA1, cell_kept ((((Kept.refl w2).drew.trans hk3).alloc _).alloc _) hB0, cell_kept ((((Kept.refl w2).drew.trans hk3).alloc _).alloc _) hB1⟩ (fun hHeld => ?_)
        clear hK K
        refine wpAnyH_ready (rs := [3]) (by kernel_rfl) (by simp) ?_
        refine AllReadyH.cons rfl (fun K hK => ?_) AllReadyH.nil
        go_simp
        refine (Take_any n aob kb capb b _ (HB.out.1.kept (HK2.out.trans ((((Kept.refl w2).drew.trans hk3).alloc _).alloc _))) (by omega)).mono ?_
        rintro e w4 ⟨hk4, s4, a4, k4, c4, rfl, hN4, hl4⟩
        have hs4 : w2.heap.size ≤ w4.heap.size := (((((Kept.refl w2).drew.trans hk3).alloc _).alloc _).trans hk4).size
        have ht4 := hk4.size
        try simp at ht4
        refine hK.out _ _ ⟨cell_kept (((((Kept.refl w2).drew.trans hk3).alloc _).alloc _).trans hk4) hA0, cell_kept (((((Kept.refl w2).drew.trans hk3).alloc _).alloc _).trans hk4) hA1, cell_kept (((((Kept.refl w2).drew.trans hk3).alloc _).alloc _).trans hk4) hB0, cell_kept (((((Kept.refl w2).drew.trans hk3).alloc _).alloc _).trans hk4) hB1⟩ (fun hHeld => ?_)
        clear hK K
        refine wpAnyH_ready (rs := [4]) (by kernel_rfl) (by simp) ?_
        refine AllReadyH.cons rfl (fun K hK => ?_) AllReadyH.nil
        go_simp
        refine (Divide_any s3 s4 a3 a4 k3 k4 c3 c4 (M.int m a) (M.int n b) _ (hN3.kept ((((Kept.refl _).alloc _).alloc _).trans hk4)) (hN4.kept (Kept.refl _)) (by omega) (by omega) HY.out).mono ?_
        rintro e w5 ⟨hk5, sq, aq, kq, cq, sr, ar, kr, cr, rfl, hNq, hNr, hlq, hlr⟩
        have hs5 : w2.heap.size ≤ w5.heap.size := ((((((Kept.refl w2).drew.trans hk3).alloc _).alloc _).trans hk4).trans hk5).size
        have ht5 := hk5.size
        try simp at ht5
        refine hK.out _ _ ⟨cell_kept ((((((Kept.refl w2).drew.trans hk3).alloc _).alloc _).trans hk4).trans hk5) hA0, cell_kept ((((((Kept.refl w2).drew.trans hk3).alloc _).alloc _).trans hk4).trans hk5) hA1, cell_kept ((((((Kept.refl w2).drew.trans hk3).alloc _).alloc _).trans hk4).trans hk5) hB0, cell_kept ((((((Kept.refl w2).drew.trans hk3).alloc _).alloc _).trans hk4).trans hk5) hB1⟩ (fun hHeld => ?_)
        clear hK K
        refine wpAnyH_take (i := 5) (v := ?v5x22) rfl (by kernel_rfl) (by kernel_rfl) (by kernel_rfl) (fun _ _ _ h => h) (Or.inl ⟨by rfl, ?y5x22⟩) hHeld ?r5x22
        case y5x22 =>
          intro w' hSw
          obtain ⟨hSw0, hSw1, hSw2, hSw3⟩ := hSw
          go_simp
          with_reducible rfl
        case r5x22 =>
        refine wpAnyH_take (i := 6) (v := ?v6x23) rfl (by kernel_rfl) (by kernel_rfl) (by kernel_rfl) (fun _ _ _ h => h) (Or.inl ⟨by rfl, ?y6x23⟩) hHeld ?r6x23
        case y6x23 =>
          intro w' hSw
          obtain ⟨hSw0, hSw1, hSw2, hSw3⟩ := hSw
          go_simp
          with_reducible rfl
        case r6x23 =>
        refine wpAnyH_take (i := 7) (v := ?v7x24) rfl (by kernel_rfl) (by kernel_rfl) (by kernel_rfl) (fun _ _ _ h => h) (Or.inl ⟨by rfl, ?y7x24⟩) hHeld ?r7x24
        case y7x24 =>
          intro w' hSw
          obtain ⟨hSw0, hSw1, hSw2, hSw3⟩ := hSw
          go_simp
          with_reducible rfl
        case r7x24 =>
        have hz80 : w5.cell? ⟨w3.heap.size, 0, none⟩ = some (.bool false) := cell_kept ((((Kept.refl _).alloc _).trans hk4).trans hk5) (World.cell?_alloc_at _ _ _ _ (by simp))
        have hg80 : w5.frozen? ⟨w3.heap.size, 0, none⟩ = false := (((((Kept.refl _).alloc _).trans hk4).trans hk5).frozens _ _ (by simp)).trans (World.frozen?_alloc_at _ _ _ _ (by simp))
        have hz81 : w5.cell? ⟨w3.heap.size, 1, none⟩ = some (.slice none 0 0) := cell_kept ((((Kept.refl _).alloc _).trans hk4).trans hk5) (World.cell?_alloc_at _ _ _ _ (by simp))
        have hg81 : w5.frozen? ⟨w3.heap.size, 1, none⟩ = false := (((((Kept.refl _).alloc _).trans hk4).trans hk5).frozens _ _ (by simp)).trans (World.frozen?_alloc_at _ _ _ _ (by simp))
        have hz90 : w5.cell? ⟨w3.heap.size + 1, 0, none⟩ = some (.bool false) := cell_kept (((Kept.refl _).trans hk4).trans hk5) (World.cell?_alloc_at _ _ _ _ (by simp))
        have hg90 : w5.frozen? ⟨w3.heap.size + 1, 0, none⟩ = false := ((((Kept.refl _).trans hk4).trans hk5).frozens _ _ (by simp)).trans (World.frozen?_alloc_at _ _ _ _ (by simp))
        have hz91 : w5.cell? ⟨w3.heap.size + 1, 1, none⟩ = some (.slice none 0 0) := cell_kept (((Kept.refl _).trans hk4).trans hk5) (World.cell?_alloc_at _ _ _ _ (by simp))
        have hg91 : w5.frozen? ⟨w3.heap.size + 1, 1, none⟩ = false := ((((Kept.refl _).trans hk4).trans hk5).frozens _ _ (by simp)).trans (World.frozen?_alloc_at _ _ _ _ (by simp))
        obtain ⟨p8, hp⟩ : ∃ p, p = w3.heap.size := ⟨_, rfl⟩
        obtain ⟨p9, hq⟩ : ∃ p, p = w3.heap.size + 1 := ⟨_, rfl⟩
        have hp8 : w2.heap.size ≤ p8 := by omega
        have hp9 : w2.heap.size ≤ p9 := by omega
        have hne : ¬ (p8 = p9) := by omega
        have hne' : ¬ (p9 = p8) := by omega
        rw [← hq] at hz90 hz91 hg90 hg91 ⊢
        rw [← hp] at hz80 hz81 hg80 hg81 ⊢
        clear hp hq
        have hKT : Kept w2 w5 := ((((((Kept.refl w2).drew.trans hk3).alloc _).alloc _).trans hk4).trans hk5)
        have ghA0 := cell_kept hKT hA0
        have ghA1 := cell_kept hKT hA1
        have ghB0 := cell_kept hKT hB0
        have ghB1 := cell_kept hKT hB1
        have HN : Hid (NIs w5 sq (.slice aq kq cq) (Int.tdiv (M.int m a) (M.int n b)) ∧ NIs w5 sr (.slice ar kr cr) (Int.tmod (M.int m a) (M.int n b)) ∧ Kept w2 w5) := ⟨hNq.kept (Kept.refl _), hNr.kept (Kept.refl _), hKT⟩
        clear hN3 hN4 hNq hNr hk3 hk4 hk5 hHeld hKT
        generalize w5 = Wx at ghA0 ghA1 ghB0 ghB1 hz80 hz81 hz90 hz91 hg80 hg81 hg90 hg91 HN ⊢
        refine wpAnyH_ready (rs := [10]) (by kernel_rfl) (by simp) ?_
        refine AllReadyH.cons rfl (fun K hK => ?_) AllReadyH.nil
        go_simp
        refine hK.out _ _ ⟨set2_far (p := p8) ghA0 (by omega), set2_far (p := p8) ghA1 (by omega), set2_far (p := p8) ghB0 (by omega), set2_far (p := p8) ghB1 (by omega)⟩ (fun hHeld => ?_)
        clear hK K
        refine wpAnyH_ready (rs := [11]) (by kernel_rfl) (by simp) ?_
        refine AllReadyH.cons rfl (fun K hK => ?_) AllReadyH.nil
        go_simp
        refine hK.out _ _ ⟨set2_far (p := p9) (set2_far (p := p8) ghA0 (by omega)) (by omega), set2_far (p := p9) (set2_far (p := p8) ghA1 (by omega)) (by omega), set2_far (p := p9) (set2_far (p := p8) ghB0 (by omega)) (by omega), set2_far (p := p9) (set2_far (p := p8) ghB1 (by omega)) (by omega)⟩ (fun hHeld => ?_)
        clear hK K
        refine wpAnyH_done (by kernel_rfl) ?_ _
        go_wp2_with fail
        go_meet
        case rel =>
          have e8 := set2_at (x := .bool sq) (y := .slice aq kq cq) hz80 hz81
          have z90 := set2_far (x := .bool sq) (y := .slice aq kq cq) hz90 hne
          have z91 := set2_far (x := .bool sq) (y := .slice aq kq cq) hz91 hne
          have e9 := set2_at (x := .bool sr) (y := .slice ar kr cr) z90 z91
          exact ⟨p8, p9, sq, sr, aq, ar, kq, kr, cq, cr, rfl, rfl, set2_far e8.1 hne', set2_far e8.2 hne', e9.1, e9.2, by omega, by omega, (((HN.out.2.2.setCell hp8 _).setCell hp8 _).setCell hp9 _).setCell hp9 _, (HN.out.1.box2 hz80 hz81 _ _).box2 z90 z91 _ _, (HN.out.2.1.box2 hz80 hz81 _ _).box2 z90 z91 _ _⟩
      refine AllReadyH.cons rfl (fun K hK => ?_) AllReadyH.nil
      go_simp
      refine hK.out _ _ ⟨cell_kept (((Kept.refl w2).drew.trans hk3).alloc _) hA0, cell_kept (((Kept.refl w2).drew.trans hk3).alloc _) hA1, cell_kept (((Kept.refl w2).drew.trans hk3).alloc _) hB0, cell_kept (((Kept.refl w2).drew.trans hk3).alloc _) hB1⟩ (fun hHeld => ?_)
      clear hK K
      refine wpAnyH_ready (rs := [3, 8]) (by kernel_rfl) (by simp) ?_
      refine AllReadyH.cons rfl (fun K hK => ?_) ?_
      · go_simp
        refine (Take_any n aob kb capb b _ (HB.out.1.kept (HK2.out.trans (((Kept.refl w2).drew.trans hk3).alloc _))) (by omega)).mono ?_
        rintro e w4 ⟨hk4, s4, a4, k4, c4, rfl, hN4, hl4⟩
        have hs4 : w2.heap.size ≤ w4.heap.size := ((((Kept.refl w2).drew.trans hk3).alloc _).trans hk4).size
        have ht4 := hk4.size
        try simp at ht4
        refine hK.out _ _ ⟨cell_kept ((((Kept.refl w2).drew.trans hk3).alloc _).trans hk4) hA0, cell_kept ((((Kept.refl w2).drew.trans hk3).alloc _).trans hk4) hA1, cell_kept ((((Kept.refl w2).drew.trans hk3).alloc _).trans hk4) hB0, cell_kept ((((Kept.refl w2).drew.trans hk3).alloc _).trans hk4) hB1⟩ (fun hHeld => ?_)
        clear hK K
        refine wpAnyH_ready (rs := [4, 8]) (by kernel_rfl) (by simp) ?_
        refine AllReadyH.cons rfl (fun K hK => ?_) ?_
        · go_simp
          refine (Divide_any s3 s4 a3 a4 k3 k4 c3 c4 (M.int m a) (M.int n b) _ (hN3.kept (((Kept.refl _).alloc _).trans hk4)) (hN4.kept (Kept.refl _)) (by omega) (by omega) HY.out).mono ?_
          rintro e w5 ⟨hk5, sq, aq, kq, cq, sr, ar, kr, cr, rfl, hNq, hNr, hlq, hlr⟩
          have hs5 : w2.heap.size ≤ w5.heap.size := (((((Kept.refl w2).drew.trans hk3).alloc _).trans hk4).trans hk5).size
          have ht5 := hk5.size
          try simp at ht5
          refine hK.out _ _ ⟨cell_kept (((((Kept.refl w2).drew.trans hk3).alloc _).trans hk4).trans hk5) hA0, cell_kept (((((Kept.refl w2).drew.trans hk3).alloc _).trans hk4).trans hk5) hA1, cell_kept (((((Kept.refl w2).drew.trans hk3).alloc _).trans hk4).trans hk5) hB0, cell_kept (((((Kept.refl w2).drew.trans hk3).alloc _).trans hk4).trans hk5) hB1⟩ (fun hHeld => ?_)
          clear hK K
          refine wpAnyH_take (i := 5) (v := ?v5x25) rfl (by kernel_rfl) (by kernel_rfl) (by kernel_rfl) (fun _ _ _ h => h) (Or.inl ⟨by rfl, ?y5x25⟩) hHeld ?r5x25
          case y5x25 =>
            intro w' hSw
            obtain ⟨hSw0, hSw1, hSw2, hSw3⟩ := hSw
            go_simp
            with_reducible rfl
          case r5x25 =>
          refine wpAnyH_take (i := 6) (v := ?v6x26) rfl (by kernel_rfl) (by kernel_rfl) (by kernel_rfl) (fun _ _ _ h => h) (Or.inl ⟨by rfl, ?y6x26⟩) hHeld ?r6x26
          case y6x26 =>
            intro w' hSw
            obtain ⟨hSw0, hSw1, hSw2, hSw3⟩ := hSw
            go_simp
            with_reducible rfl
          case r6x26 =>
          refine wpAnyH_take (i := 7) (v := ?v7x27) rfl (by kernel_rfl) (by kernel_rfl) (by kernel_rfl) (fun _ _ _ h => h) (Or.inl ⟨by rfl, ?y7x27⟩) hHeld ?r7x27
          case y7x27 =>
            intro w' hSw
            obtain ⟨hSw0, hSw1, hSw2, hSw3⟩ := hSw
            go_simp
            with_reducible rfl
          case r7x27 =>
          refine wpAnyH_ready (rs := [8]) (by kernel_rfl) (by simp) ?_
          refine AllReadyH.cons rfl (fun K hK => ?_) AllReadyH.nil
          go_simp
          refine hK.out _ _ ⟨cell_kept ((((((Kept.refl w2).drew.trans hk3).alloc _).trans hk4).trans hk5).alloc _) hA0, cell_kept ((((((Kept.refl w2).drew.trans hk3).alloc _).trans hk4).trans hk5).alloc _) hA1, cell_kept ((((((Kept.refl w2).drew.trans hk3).alloc _).trans hk4).trans hk5).alloc _) hB0, cell_kept ((((((Kept.refl w2).drew.trans hk3).alloc _).trans hk4).trans hk5).alloc _) hB1⟩ (fun hHeld => ?_)
          clear hK K
          have hz80 : (w5.alloc (Obj.cells #[.bool false, .slice none 0 0] 50)).cell? ⟨w5.heap.size, 0, none⟩ = some (.bool false) := cell_kept (Kept.refl _) (World.cell?_alloc_at _ _ _ _ (by simp))
          have hg80 : (w5.alloc (Obj.cells #[.bool false, .slice none 0 0] 50)).frozen? ⟨w5.heap.size, 0, none⟩ = false := ((Kept.refl _).frozens _ _ (by simp)).trans (World.frozen?_alloc_at _ _ _ _ (by simp))
          have hz81 : (w5.alloc (Obj.cells #[.bool false, .slice none 0 0] 50)).cell? ⟨w5.heap.size, 1, none⟩ = some (.slice none 0 0) := cell_kept (Kept.refl _) (World.cell?_alloc_at _ _ _ _ (by simp))
          have hg81 : (w5.alloc (Obj.cells #[.bool false, .slice none 0 0] 50)).frozen? ⟨w5.heap.size, 1, none⟩ = false := ((Kept.refl _).frozens _ _ (by simp)).trans (World.frozen?_alloc_at _ _ _ _ (by simp))
          have hz90 : (w5.alloc (Obj.cells #[.bool false, .slice none 0 0] 50)).cell? ⟨w3.heap.size, 0, none⟩ = some (.bool false) := cell_kept ((((Kept.refl _).trans hk4).trans hk5).alloc _) (World.cell?_alloc_at _ _ _ _ (by simp))
          have hg90 : (w5.alloc (Obj.cells #[.bool false, .slice none 0 0] 50)).frozen? ⟨w3.heap.size, 0, none⟩ = false := (((((Kept.refl _).trans hk4).trans hk5).alloc _).frozens _ _ (by simp)).trans (World.frozen?_alloc_at _ _ _ _ (by simp))
          have hz91 : (w5.alloc (Obj.cells #[.bool false, .slice none 0 0] 50)).cell? ⟨w3.heap.size, 1, none⟩ = some (.slice none 0 0) := cell_kept ((((Kept.refl _).trans hk4).trans hk5).alloc _) (World.cell?_alloc_at _ _ _ _ (by simp))
          have hg91 : (w5.alloc (Obj.cells #[.bool false, .slice none 0 0] 50)).frozen? ⟨w3.heap.size, 1, none⟩ = false := (((((Kept.refl _).trans hk4).trans hk5).alloc _).frozens _ _ (by simp)).trans (World.frozen?_alloc_at _ _ _ _ (by simp))
          obtain ⟨p8, hp⟩ : ∃ p, p = w5.heap.size := ⟨_, rfl⟩
          obtain ⟨p9, hq⟩ : ∃ p, p = w3.heap.size := ⟨_, rfl⟩
          have hp8 : w2.heap.size ≤ p8 := by omega
          have hp9 : w2.heap.size ≤ p9 := by omega
          have hne : ¬ (p8 = p9) := by omega
          have hne' : ¬ (p9 = p8) := by omega
          rw [← hp] at hz80 hz81 hg80 hg81 ⊢
          rw [← hq] at hz90 hz91 hg90 hg91 ⊢
          clear hp hq
          have hKT : Kept w2 (w5.alloc (Obj.cells #[.bool false, .slice none 0 0] 50)) := ((((((Kept.refl w2).drew.trans hk3).alloc _).trans hk4).trans hk5).alloc _)
          have ghA0 := cell_kept hKT hA0
          have ghA1 := cell_kept hKT hA1
          have ghB0 := cell_kept hKT hB0
          have ghB1 := cell_kept hKT hB1
          have HN : Hid (NIs (w5.alloc (Obj.cells #[.bool false, .slice none 0 0] 50)) sq (.slice aq kq cq) (Int.tdiv (M.int m a) (M.int n b)) ∧ NIs (w5.alloc (Obj.cells #[.bool false, .slice none 0 0] 50)) sr (.slice ar kr cr) (Int.tmod (M.int m a) (M.int n b)) ∧ Kept w2 (w5.alloc (Obj.cells #[.bool false, .slice none 0 0] 50))) := ⟨hNq.kept ((Kept.refl _).alloc _), hNr.kept ((Kept.refl _).alloc _), hKT⟩
          clear hN3 hN4 hNq hNr hk3 hk4 hk5 hHeld hKT
          generalize (w5.alloc (Obj.cells #[.bool false, .slice none 0 0] 50)) = Wx at ghA0 ghA1 ghB0 ghB1 hz80 hz81 hz90 hz91 hg80 hg81 hg90 hg91 HN ⊢
          refine wpAnyH_ready (rs := [10]) (by kernel_rfl) (by simp) ?_
          refine AllReadyH.cons rfl (fun K hK => ?_) AllReadyH.nil
          go_simp
          refine hK.out _ _ ⟨set2_far (p := p8) ghA0 (by omega), set2_far (p := p8) ghA1 (by omega), set2_far (p := p8) ghB0 (by omega), set2_far (p := p8) ghB1 (by omega)⟩ (fun hHeld => ?_)
          clear hK K
          refine wpAnyH_ready (rs := [11]) (by kernel_rfl) (by simp) ?_
          refine AllReadyH.cons rfl (fun K hK => ?_) AllReadyH.nil
          go_simp
          refine hK.out _ _ ⟨set2_far (p := p9) (set2_far (p := p8) ghA0 (by omega)) (by omega), set2_far (p := p9) (set2_far (p := p8) ghA1 (by omega)) (by omega), set2_far (p := p9) (set2_far (p := p8) ghB0 (by omega)) (by omega), set2_far (p := p9) (set2_far (p := p8) ghB1 (by omega)) (by omega)⟩ (fun hHeld => ?_)
          clear hK K
          refine wpAnyH_done (by kernel_rfl) ?_ _
          go_wp2_with fail
          go_meet
          case rel =>
            have e8 := set2_at (x := .bool sq) (y := .slice aq kq cq) hz80 hz81
            have z90 := set2_far (x := .bool sq) (y := .slice aq kq cq) hz90 hne
            have z91 := set2_far (x := .bool sq) (y := .slice aq kq cq) hz91 hne
            have e9 := set2_at (x := .bool sr) (y := .slice ar kr cr) z90 z91
            exact ⟨p8, p9, sq, sr, aq, ar, kq, kr, cq, cr, rfl, rfl, set2_far e8.1 hne', set2_far e8.2 hne', e9.1, e9.2, by omega, by omega, (((HN.out.2.2.setCell hp8 _).setCell hp8 _).setCell hp9 _).setCell hp9 _, (HN.out.1.box2 hz80 hz81 _ _).box2 z90 z91 _ _, (HN.out.2.1.box2 hz80 hz81 _ _).box2 z90 z91 _ _⟩
        refine AllReadyH.cons rfl (fun K hK => ?_) AllReadyH.nil
        go_simp
        refine hK.out _ _ ⟨cell_kept (((((Kept.refl w2).drew.trans hk3).alloc _).trans hk4).alloc _) hA0, cell_kept (((((Kept.refl w2).drew.trans hk3).alloc _).trans hk4).alloc _) hA1, cell_kept (((((Kept.refl w2).drew.trans hk3).alloc _).trans hk4).alloc _) hB0, cell_kept (((((Kept.refl w2).drew.trans hk3).alloc _).trans hk4).alloc _) hB1⟩ (fun hHeld => ?_)
        clear hK K
        refine wpAnyH_ready (rs := [4]) (by kernel_rfl) (by simp) ?_
        refine AllReadyH.cons rfl (fun K hK => ?_) AllReadyH.nil
        go_simp
        refine (Divide_any s3 s4 a3 a4 k3 k4 c3 c4 (M.int m a) (M.int n b) _ (hN3.kept ((((Kept.refl _).alloc _).trans hk4).alloc _)) (hN4.kept ((Kept.refl _).alloc _)) (by omega) (by omega) HY.out).mono ?_
        rintro e w5 ⟨hk5, sq, aq, kq, cq, sr, ar, kr, cr, rfl, hNq, hNr, hlq, hlr⟩
        have hs5 : w2.heap.size ≤ w5.heap.size := ((((((Kept.refl w2).drew.trans hk3).alloc _).trans hk4).alloc _).trans hk5).size
        have ht5 := hk5.size
        try simp at ht5
        refine hK.out _ _ ⟨cell_kept ((((((Kept.refl w2).drew.trans hk3).alloc _).trans hk4).alloc _).trans hk5) hA0, cell_kept ((((((Kept.refl w2).drew.trans hk3).alloc _).trans hk4).alloc _).trans hk5) hA1, cell_kept ((((((Kept.refl w2).drew.trans hk3).alloc _).trans hk4).alloc _).trans hk5) hB0, cell_kept ((((((Kept.refl w2).drew.trans hk3).alloc _).trans hk4).alloc _).trans hk5) hB1⟩ (fun hHeld => ?_)
        clear hK K
        refine wpAnyH_take (i := 5) (v := ?v5x28) rfl (by kernel_rfl) (by kernel_rfl) (by kernel_rfl) (fun _ _ _ h => h) (Or.inl ⟨by rfl, ?y5x28⟩) hHeld ?r5x28
        case y5x28 =>
          intro w' hSw
          obtain ⟨hSw0, hSw1, hSw2, hSw3⟩ := hSw
          go_simp
          with_reducible rfl
        case r5x28 =>
        refine wpAnyH_take (i := 6) (v := ?v6x29) rfl (by kernel_rfl) (by kernel_rfl) (by kernel_rfl) (fun _ _ _ h => h) (Or.inl ⟨by rfl, ?y6x29⟩) hHeld ?r6x29
        case y6x29 =>
          intro w' hSw
          obtain ⟨hSw0, hSw1, hSw2, hSw3⟩ := hSw
          go_simp
          with_reducible rfl
        case r6x29 =>
        refine wpAnyH_take (i := 7) (v := ?v7x30) rfl (by kernel_rfl) (by kernel_rfl) (by kernel_rfl) (fun _ _ _ h => h) (Or.inl ⟨by rfl, ?y7x30⟩) hHeld ?r7x30
        case y7x30 =>
          intro w' hSw
          obtain ⟨hSw0, hSw1, hSw2, hSw3⟩ := hSw
          go_simp
          with_reducible rfl
        case r7x30 =>
        have hz80 : w5.cell? ⟨w4.heap.size, 0, none⟩ = some (.bool false) := cell_kept ((Kept.refl _).trans hk5) (World.cell?_alloc_at _ _ _ _ (by simp))
        have hg80 : w5.frozen? ⟨w4.heap.size, 0, none⟩ = false := (((Kept.refl _).trans hk5).frozens _ _ (by simp)).trans (World.frozen?_alloc_at _ _ _ _ (by simp))
        have hz81 : w5.cell? ⟨w4.heap.size, 1, none⟩ = some (.slice none 0 0) := cell_kept ((Kept.refl _).trans hk5) (World.cell?_alloc_at _ _ _ _ (by simp))
        have hg81 : w5.frozen? ⟨w4.heap.size, 1, none⟩ = false := (((Kept.refl _).trans hk5).frozens _ _ (by simp)).trans (World.frozen?_alloc_at _ _ _ _ (by simp))
        have hz90 : w5.cell? ⟨w3.heap.size, 0, none⟩ = some (.bool false) := cell_kept ((((Kept.refl _).trans hk4).alloc _).trans hk5) (World.cell?_alloc_at _ _ _ _ (by simp))
        have hg90 : w5.frozen? ⟨w3.heap.size, 0, none⟩ = false := (((((Kept.refl _).trans hk4).alloc _).trans hk5).frozens _ _ (by simp)).trans (World.frozen?_alloc_at _ _ _ _ (by simp))
        have hz91 : w5.cell? ⟨w3.heap.size, 1, none⟩ = some (.slice none 0 0) := cell_kept ((((Kept.refl _).trans hk4).alloc _).trans hk5) (World.cell?_alloc_at _ _ _ _ (by simp))
        have hg91 : w5.frozen? ⟨w3.heap.size, 1, none⟩ = false := (((((Kept.refl _).trans hk4).alloc _).trans hk5).frozens _ _ (by simp)).trans (World.frozen?_alloc_at _ _ _ _ (by simp))
        obtain ⟨p8, hp⟩ : ∃ p, p = w4.heap.size := ⟨_, rfl⟩
        obtain ⟨p9, hq⟩ : ∃ p, p = w3.heap.size := ⟨_, rfl⟩
        have hp8 : w2.heap.size ≤ p8 := by omega
        have hp9 : w2.heap.size ≤ p9 := by omega
        have hne : ¬ (p8 = p9) := by omega
        have hne' : ¬ (p9 = p8) := by omega
        rw [← hp] at hz80 hz81 hg80 hg81 ⊢
        rw [← hq] at hz90 hz91 hg90 hg91 ⊢
        clear hp hq
        have hKT : Kept w2 w5 := ((((((Kept.refl w2).drew.trans hk3).alloc _).trans hk4).alloc _).trans hk5)
        have ghA0 := cell_kept hKT hA0
        have ghA1 := cell_kept hKT hA1
        have ghB0 := cell_kept hKT hB0
        have ghB1 := cell_kept hKT hB1
        have HN : Hid (NIs w5 sq (.slice aq kq cq) (Int.tdiv (M.int m a) (M.int n b)) ∧ NIs w5 sr (.slice ar kr cr) (Int.tmod (M.int m a) (M.int n b)) ∧ Kept w2 w5) := ⟨hNq.kept (Kept.refl _), hNr.kept (Kept.refl _), hKT⟩
        clear hN3 hN4 hNq hNr hk3 hk4 hk5 hHeld hKT
        generalize w5 = Wx at ghA0 ghA1 ghB0 ghB1 hz80 hz81 hz90 hz91 hg80 hg81 hg90 hg91 HN ⊢
        refine wpAnyH_ready (rs := [10]) (by kernel_rfl) (by simp) ?_
        refine AllReadyH.cons rfl (fun K hK => ?_) AllReadyH.nil
        go_simp
        refine hK.out _ _ ⟨set2_far (p := p8) ghA0 (by omega), set2_far (p := p8) ghA1 (by omega), set2_far (p := p8) ghB0 (by omega), set2_far (p := p8) ghB1 (by omega)⟩ (fun hHeld => ?_)
        clear hK K
        refine wpAnyH_ready (rs := [11]) (by kernel_rfl) (by simp) ?_
        refine AllReadyH.cons rfl (fun K hK => ?_) AllReadyH.nil
        go_simp
        refine hK.out _ _ ⟨set2_far (p := p9) (set2_far (p := p8) ghA0 (by omega)) (by omega), set2_far (p := p9) (set2_far (p := p8) ghA1 (by omega)) (by omega), set2_far (p := p9) (set2_far (p := p8) ghB0 (by omega)) (by omega), set2_far (p := p9) (set2_far (p := p8) ghB1 (by omega)) (by omega)⟩ (fun hHeld => ?_)
        clear hK K
        refine wpAnyH_done (by kernel_rfl) ?_ _
        go_wp2_with fail
        go_meet
        case rel =>
          have e8 := set2_at (x := .bool sq) (y := .slice aq kq cq) hz80 hz81
          have z90 := set2_far (x := .bool sq) (y := .slice aq kq cq) hz90 hne
          have z91 := set2_far (x := .bool sq) (y := .slice aq kq cq) hz91 hne
          have e9 := set2_at (x := .bool sr) (y := .slice ar kr cr) z90 z91
          exact ⟨p8, p9, sq, sr, aq, ar, kq, kr, cq, cr, rfl, rfl, set2_far e8.1 hne', set2_far e8.2 hne', e9.1, e9.2, by omega, by omega, (((HN.out.2.2.setCell hp8 _).setCell hp8 _).setCell hp9 _).setCell hp9 _, (HN.out.1.box2 hz80 hz81 _ _).box2 z90 z91 _ _, (HN.out.2.1.box2 hz80 hz81 _ _).box2 z90 z91 _ _⟩
      refine AllReadyH.cons rfl (fun K hK => ?_) AllReadyH.nil
      go_simp
      refine hK.out _ _ ⟨cell_kept ((((Kept.refl w2).drew.trans hk3).alloc _).alloc _) hA0, cell_kept ((((Kept.refl w2).drew.trans hk3).alloc _).alloc _) hA1, cell_kept ((((Kept.refl w2).drew.trans hk3).alloc _).alloc _) hB0, cell_kept ((((Kept.refl w2).drew.trans hk3).alloc _).alloc _) hB1⟩ (fun hHeld => ?_)
      clear hK K
      refine wpAnyH_ready (rs := [3]) (by kernel_rfl) (by simp) ?_
      refine AllReadyH.cons rfl (fun K hK => ?_) AllReadyH.nil
      go_simp
      refine (Take_any n aob kb capb b _ (HB.out.1.kept (HK2.out.trans ((((Kept.refl w2).drew.trans hk3).alloc _).alloc _))) (by omega)).mono ?_
      rintro e w4 ⟨hk4, s4, a4, k4, c4, rfl, hN4, hl4⟩
      have hs4 : w2.heap.size ≤ w4.heap.size := (((((Kept.refl w2).drew.trans hk3).alloc _).alloc _).trans hk4).size
      have ht4 := hk4.size
      try simp at ht4
      refine hK.out _ _ ⟨cell_kept (((((Kept.refl w2).drew.trans hk3).alloc _).alloc _).trans hk4) hA0, cell_kept (((((Kept.refl w2).drew.trans hk3).alloc _).alloc _).trans hk4) hA1, cell_kept (((((Kept.refl w2).drew.trans hk3).alloc _).alloc _).trans hk4) hB0, cell_kept (((((Kept.refl w2).drew.trans hk3).alloc _).alloc _).trans hk4) hB1⟩ (fun hHeld => ?_)
      clear hK K
      refine wpAnyH_ready (rs := [4]) (by kernel_rfl) (by simp) ?_
      refine AllReadyH.cons rfl (fun K hK => ?_) AllReadyH.nil
      go_simp
      refine (Divide_any s3 s4 a3 a4 k3 k4 c3 c4 (M.int m a) (M.int n b) _ (hN3.kept ((((Kept.refl _).alloc _).alloc _).trans hk4)) (hN4.kept (Kept.refl _)) (by omega) (by omega) HY.out).mono ?_
      rintro e w5 ⟨hk5, sq, aq, kq, cq, sr, ar, kr, cr, rfl, hNq, hNr, hlq, hlr⟩
      have hs5 : w2.heap.size ≤ w5.heap.size := ((((((Kept.refl w2).drew.trans hk3).alloc _).alloc _).trans hk4).trans hk5).size
      have ht5 := hk5.size
      try simp at ht5
      refine hK.out _ _ ⟨cell_kept ((((((Kept.refl w2).drew.trans hk3).alloc _).alloc _).trans hk4).trans hk5) hA0, cell_kept ((((((Kept.refl w2).drew.trans hk3).alloc _).alloc _).trans hk4).trans hk5) hA1, cell_kept ((((((Kept.refl w2).drew.trans hk3).alloc _).alloc _).trans hk4).trans hk5) hB0, cell_kept ((((((Kept.refl w2).drew.trans hk3).alloc _).alloc _).trans hk4).trans hk5) hB1⟩ (fun hHeld => ?_)
      clear hK K
      refine wpAnyH_take (i := 5) (v := ?v5x31) rfl (by kernel_rfl) (by kernel_rfl) (by kernel_rfl) (fun _ _ _ h => h) (Or.inl ⟨by rfl, ?y5x31⟩) hHeld ?r5x31
      case y5x31 =>
        intro w' hSw
        obtain ⟨hSw0, hSw1, hSw2, hSw3⟩ := hSw
        go_simp
        with_reducible rfl
      case r5x31 =>
      refine wpAnyH_take (i := 6) (v := ?v6x32) rfl (by kernel_rfl) (by kernel_rfl) (by kernel_rfl) (fun _ _ _ h => h) (Or.inl ⟨by rfl, ?y6x32⟩) hHeld ?r6x32
      case y6x32 =>
        intro w' hSw
        obtain ⟨hSw0, hSw1, hSw2, hSw3⟩ := hSw
        go_simp
        with_reducible rfl
      case r6x32 =>
      refine wpAnyH_take (i := 7) (v := ?v7x33) rfl (by kernel_rfl) (by kernel_rfl) (by kernel_rfl) (fun _ _ _ h => h) (Or.inl ⟨by rfl, ?y7x33⟩) hHeld ?r7x33
      case y7x33 =>
        intro w' hSw
        obtain ⟨hSw0, hSw1, hSw2, hSw3⟩ := hSw
        go_simp
        with_reducible rfl
      case r7x33 =>
      have hz80 : w5.cell? ⟨w3.heap.size + 1, 0, none⟩ = some (.bool false) := cell_kept (((Kept.refl _).trans hk4).trans hk5) (World.cell?_alloc_at _ _ _ _ (by simp))
      have hg80 : w5.frozen? ⟨w3.heap.size + 1, 0, none⟩ = false := ((((Kept.refl _).trans hk4).trans hk5).frozens _ _ (by simp)).trans (World.frozen?_alloc_at _ _ _ _ (by simp))
      have hz81 : w5.cell? ⟨w3.heap.size + 1, 1, none⟩ = some (.slice none 0 0) := cell_kept (((Kept.refl _).trans hk4).trans hk5) (World.cell?_alloc_at _ _ _ _ (by simp))
      have hg81 : w5.frozen? ⟨w3.heap.size + 1, 1, none⟩ = false := ((((Kept.refl _).trans hk4).trans hk5).frozens _ _ (by simp)).trans (World.frozen?_alloc_at _ _ _ _ (by simp))
      have hz90 : w5.cell? ⟨w3.heap.size, 0, none⟩ = some (.bool false) := cell_kept ((((Kept.refl _).alloc _).trans hk4).trans hk5) (World.cell?_alloc_at _ _ _ _ (by simp))
      have hg90 : w5.frozen? ⟨w3.heap.size, 0, none⟩ = false := (((((Kept.refl _).alloc _).trans hk4).trans hk5).frozens _ _ (by simp)).trans (World.frozen?_alloc_at _ _ _ _ (by simp))
      have hz91 : w5.cell? ⟨w3.heap.size, 1, none⟩ = some (.slice none 0 0) := cell_kept ((((Kept.refl _).alloc _).trans hk4).trans hk5) (World.cell?_alloc_at _ _ _ _ (by simp))
      have hg91 : w5.frozen? ⟨w3.heap.size, 1, none⟩ = false := (((((Kept.refl _).alloc _).trans hk4).trans hk5).frozens _ _ (by simp)).trans (World.frozen?_alloc_at _ _ _ _ (by simp))
      obtain ⟨p8, hp⟩ : ∃ p, p = w3.heap.size + 1 := ⟨_, rfl⟩
      obtain ⟨p9, hq⟩ : ∃ p, p = w3.heap.size := ⟨_, rfl⟩
      have hp8 : w2.heap.size ≤ p8 := by omega
      have hp9 : w2.heap.size ≤ p9 := by omega
      have hne : ¬ (p8 = p9) := by omega
      have hne' : ¬ (p9 = p8) := by omega
      rw [← hp] at hz80 hz81 hg80 hg81 ⊢
      rw [← hq] at hz90 hz91 hg90 hg91 ⊢
      clear hp hq
      have hKT : Kept w2 w5 := ((((((Kept.refl w2).drew.trans hk3).alloc _).alloc _).trans hk4).trans hk5)
      have ghA0 := cell_kept hKT hA0
      have ghA1 := cell_kept hKT hA1
      have ghB0 := cell_kept hKT hB0
      have ghB1 := cell_kept hKT hB1
      have HN : Hid (NIs w5 sq (.slice aq kq cq) (Int.tdiv (M.int m a) (M.int n b)) ∧ NIs w5 sr (.slice ar kr cr) (Int.tmod (M.int m a) (M.int n b)) ∧ Kept w2 w5) := ⟨hNq.kept (Kept.refl _), hNr.kept (Kept.refl _), hKT⟩
      clear hN3 hN4 hNq hNr hk3 hk4 hk5 hHeld hKT
      generalize w5 = Wx at ghA0 ghA1 ghB0 ghB1 hz80 hz81 hz90 hz91 hg80 hg81 hg90 hg91 HN ⊢
      refine wpAnyH_ready (rs := [10]) (by kernel_rfl) (by simp) ?_
      refine AllReadyH.cons rfl (fun K hK => ?_) AllReadyH.nil
      go_simp
      refine hK.out _ _ ⟨set2_far (p := p8) ghA0 (by omega), set2_far (p := p8) ghA1 (by omega), set2_far (p := p8) ghB0 (by omega), set2_far (p := p8) ghB1 (by omega)⟩ (fun hHeld => ?_)
      clear hK K
      refine wpAnyH_ready (rs := [11]) (by kernel_rfl) (by simp) ?_
      refine AllReadyH.cons rfl (fun K hK => ?_) AllReadyH.nil
      go_simp
      refine hK.out _ _ ⟨set2_far (p := p9) (set2_far (p := p8) ghA0 (by omega)) (by omega), set2_far (p := p9) (set2_far (p := p8) ghA1 (by omega)) (by omega), set2_far (p := p9) (set2_far (p := p8) ghB0 (by omega)) (by omega), set2_far (p := p9) (set2_far (p := p8) ghB1 (by omega)) (by omega)⟩ (fun hHeld => ?_)
      clear hK K
      refine wpAnyH_done (by kernel_rfl) ?_ _
      go_wp2_with fail
      go_meet
      case rel =>
        have e8 := set2_at (x := .bool sq) (y := .slice aq kq cq) hz80 hz81
        have z90 := set2_far (x := .bool sq) (y := .slice aq kq cq) hz90 hne
        have z91 := set2_far (x := .bool sq) (y := .slice aq kq cq) hz91 hne
        have e9 := set2_at (x := .bool sr) (y := .slice ar kr cr) z90 z91
        exact ⟨p8, p9, sq, sr, aq, ar, kq, kr, cq, cr, rfl, rfl, set2_far e8.1 hne', set2_far e8.2 hne', e9.1, e9.2, by omega, by omega, (((HN.out.2.2.setCell hp8 _).setCell hp8 _).setCell hp9 _).setCell hp9 _, (HN.out.1.box2 hz80 hz81 _ _).box2 z90 z91 _ _, (HN.out.2.1.box2 hz80 hz81 _ _).box2 z90 z91 _ _⟩
    refine AllReadyH.cons rfl (fun K hK => ?_) ?_
    · go_simp
      refine hK.out _ _ ⟨cell_kept ((Kept.refl w2).drew.alloc _) hA0, cell_kept ((Kept.refl w2).drew.alloc _) hA1, cell_kept ((Kept.refl w2).drew.alloc _) hB0, cell_kept ((Kept.refl w2).drew.alloc _) hB1⟩ (fun hHeld => ?_)
      clear hK K
      refine wpAnyH_ready (rs := [1, 9]) (by kernel_rfl) (by simp) ?_
      refine AllReadyH.cons rfl (fun K hK => ?_) ?_
      · go_simp
        refine (Take_any m aoa ka capa a _ (HA.out.1.kept (HK2.out.trans ((Kept.refl w2).drew.alloc _))) (by omega)).mono ?_
        rintro e w3 ⟨hk3, s3, a3, k3, c3, rfl, hN3, hl3⟩
        have hs3 : w2.heap.size ≤ w3.heap.size := (((Kept.refl w2).drew.alloc _).trans hk3).size
        have ht3 := hk3.size
        try simp at ht3
        refine hK.out _ _ ⟨cell_kept (((Kept.refl w2).drew.alloc _).trans hk3) hA0, cell_kept (((Kept.refl w2).drew.alloc _).trans hk3) hA1, cell_kept (((Kept.refl w2).drew.alloc _).trans hk3) hB0, cell_kept (((Kept.refl w2).drew.alloc _).trans hk3) hB1⟩ (fun hHeld => ?_)
        clear hK K
        refine wpAnyH_ready (rs := [3, 9]) (by kernel_rfl) (by simp) ?_
        refine AllReadyH.cons rfl (fun K hK => ?_) ?_
        · go_simp
          refine (Take_any n aob kb capb b _ (HB.out.1.kept (HK2.out.trans (((Kept.refl w2).drew.alloc _).trans hk3))) (by omega)).mono ?_
          rintro e w4 ⟨hk4, s4, a4, k4, c4, rfl, hN4, hl4⟩
          have hs4 : w2.heap.size ≤ w4.heap.size := ((((Kept.refl w2).drew.alloc _).trans hk3).trans hk4).size
          have ht4 := hk4.size
          try simp at ht4
          refine hK.out _ _ ⟨cell_kept ((((Kept.refl w2).drew.alloc _).trans hk3).trans hk4) hA0, cell_kept ((((Kept.refl w2).drew.alloc _).trans hk3).trans hk4) hA1, cell_kept ((((Kept.refl w2).drew.alloc _).trans hk3).trans hk4) hB0, cell_kept ((((Kept.refl w2).drew.alloc _).trans hk3).trans hk4) hB1⟩ (fun hHeld => ?_)
          clear hK K
          refine wpAnyH_ready (rs := [4, 9]) (by kernel_rfl) (by simp) ?_
          refine AllReadyH.cons rfl (fun K hK => ?_) ?_
          · go_simp
            refine (Divide_any s3 s4 a3 a4 k3 k4 c3 c4 (M.int m a) (M.int n b) _ (hN3.kept ((Kept.refl _).trans hk4)) (hN4.kept (Kept.refl _)) (by omega) (by omega) HY.out).mono ?_
            rintro e w5 ⟨hk5, sq, aq, kq, cq, sr, ar, kr, cr, rfl, hNq, hNr, hlq, hlr⟩
            have hs5 : w2.heap.size ≤ w5.heap.size := (((((Kept.refl w2).drew.alloc _).trans hk3).trans hk4).trans hk5).size
            have ht5 := hk5.size
            try simp at ht5
            refine hK.out _ _ ⟨cell_kept (((((Kept.refl w2).drew.alloc _).trans hk3).trans hk4).trans hk5) hA0, cell_kept (((((Kept.refl w2).drew.alloc _).trans hk3).trans hk4).trans hk5) hA1, cell_kept (((((Kept.refl w2).drew.alloc _).trans hk3).trans hk4).trans hk5) hB0, cell_kept (((((Kept.refl w2).drew.alloc _).trans hk3).trans hk4).trans hk5) hB1⟩ (fun hHeld => ?_)
            clear hK K
            refine wpAnyH_take (i := 5) (v := ?v5x34) rfl (by kernel_rfl) (by kernel_rfl) (by kernel_rfl) (fun _ _ _ h => h) (Or.inl ⟨by rfl, ?y5x34⟩) hHeld ?r5x34
            case y5x34 =>
              intro w' hSw
              obtain ⟨hSw0, hSw1, hSw2, hSw3⟩ := hSw
              go_simp
              with_reducible rfl
            case r5x34 =>
            refine wpAnyH_take (i := 6) (v := ?v6x35) rfl (by kernel_rfl) (by kernel_rfl) (by kernel_rfl) (fun _ _ _ h => h) (Or.inl ⟨by rfl, ?y6x35⟩) hHeld ?r6x35
            case y6x35 =>
              intro w' hSw
              obtain ⟨hSw0, hSw1, hSw2, hSw3⟩ := hSw
              go_simp
              with_reducible rfl
            case r6x35 =>
            refine wpAnyH_take (i := 7) (v := ?v7x36) rfl (by kernel_rfl) (by kernel_rfl) (by kernel_rfl) (fun _ _ _ h => h) (Or.inl ⟨by rfl, ?y7x36⟩) hHeld ?r7x36
            case y7x36 =>
              intro w' hSw
              obtain ⟨hSw0, hSw1, hSw2, hSw3⟩ := hSw
              go_simp
              with_reducible rfl
            case r7x36 =>
            refine wpAnyH_ready (rs := [9]) (by kernel_rfl) (by simp) ?_
            refine AllReadyH.cons rfl (fun K hK => ?_) AllReadyH.nil
            go_simp
            refine hK.out _ _ ⟨cell_kept ((((((Kept.refl w2).drew.alloc _).trans hk3).trans hk4).trans hk5).alloc _) hA0, cell_kept ((((((Kept.refl w2).drew.alloc _).trans hk3).trans hk4).trans hk5).alloc _) hA1, cell_kept ((((((Kept.refl w2).drew.alloc _).trans hk3).trans hk4).trans hk5).alloc _) hB0, cell_kept ((((((Kept.refl w2).drew.alloc _).trans hk3).trans hk4).trans hk5).alloc _) hB1⟩ (fun hHeld => ?_)
            clear hK K
            have hz80 : (w5.alloc (Obj.cells #[.bool false, .slice none 0 0] 50)).cell? ⟨w2.heap.size, 0, none⟩ = some (.bool false) := cell_kept (((((Kept.refl _).trans hk3).trans hk4).trans hk5).alloc _) (World.cell?_alloc_at _ _ _ _ (by simp))
            have hg80 : (w5.alloc (Obj.cells #[.bool false, .slice none 0 0] 50)).frozen? ⟨w2.heap.size, 0, none⟩ = false := ((((((Kept.refl _).trans hk3).trans hk4).trans hk5).alloc _).frozens _ _ (by simp)).trans (World.frozen?_alloc_at _ _ _ _ (by simp))
            have hz81 : (w5.alloc (Obj.cells #[.bool false, .slice none 0 0] 50)).cell? ⟨w2.heap.size, 1, none⟩ = some (.slice none 0 0) := cell_kept (((((Kept.refl _).trans hk3).trans hk4).trans hk5).alloc _) (World.cell?_alloc_at _ _ _ _ (by simp))
            have hg81 : (w5.alloc (Obj.cells #[.bool false, .slice none 0 0] 50)).frozen? ⟨w2.heap.size, 1, none⟩ = false := ((((((Kept.refl _).trans hk3).trans hk4).trans hk5).alloc _).frozens _ _ (by simp)).trans (World.frozen?_alloc_at _ _ _ _ (by simp))
            have hz90 : (w5.alloc (Obj.cells #[.bool false, .slice none 0 0] 50)).cell? ⟨w5.heap.size, 0, none⟩ = some (.bool false) := cell_kept (Kept.refl _) (World.cell?_alloc_at _ _ _ _ (by simp))
            have hg90 : (w5.alloc (Obj.cells #[.bool false, .slice none 0 0] 50)).frozen? ⟨w5.heap.size, 0, none⟩ = false := ((Kept.refl _).frozens _ _ (by simp)).trans (World.frozen?_alloc_at _ _ _ _ (by simp))
            have hz91 : (w5.alloc (Obj.cells #[.bool false, .slice none 0 0] 50)).cell? ⟨w5.heap.size, 1, none⟩ = some (.slice none 0 0) := cell_kept (Kept.refl _) (World.cell?_alloc_at _ _ _ _ (by simp))
            have hg91 : (w5.alloc (Obj.cells #[.bool false, .slice none 0 0] 50)).frozen? ⟨w5.heap.size, 1, none⟩ = false := ((Kept.refl _).frozens _ _ (by simp)).trans (World.frozen?_alloc_at _ _ _ _ (by simp))
            obtain ⟨p8, hp⟩ : ∃ p, p = w2.heap.size := ⟨_, rfl⟩
            obtain ⟨p9, hq⟩ : ∃ p, p = w5.heap.size := ⟨_, rfl⟩
            have hp8 : w2.heap.size ≤ p8 := by omega
            have hp9 : w2.heap.size ≤ p9 := by omega
            have hne : ¬ (p8 = p9) := by omega
            have hne' : ¬ (p9 = p8) := by omega
            rw [← hp] at hz80 hz81 hg80 hg81 ⊢
            rw [← hq] at hz90 hz91 hg90 hg91 ⊢
            clear hp hq
            have hKT : Kept w2 (w5.alloc (Obj.cells #[.bool false, .slice none 0 0] 50)) := ((((((Kept.refl w2).drew.alloc _).trans hk3).trans hk4).trans hk5).alloc _)
            have ghA0 := cell_kept hKT hA0
            have ghA1 := cell_kept hKT hA1
            have ghB0 := cell_kept hKT hB0
            have ghB1 := cell_kept hKT hB1
            have HN : Hid (NIs (w5.alloc (Obj.cells #[.bool false, .slice none 0 0] 50)) sq (.slice aq kq cq) (Int.tdiv (M.int m a) (M.int n b)) ∧ NIs (w5.alloc (Obj.cells #[.bool false, .slice none 0 0] 50)) sr (.slice ar kr cr) (Int.tmod (M.int m a) (M.int n b)) ∧ Kept w2 (w5.alloc (Obj.cells #[.bool false, .slice none 0 0] 50))) := ⟨hNq.kept ((Kept.refl _).alloc _), hNr.kept ((Kept.refl _).alloc _), hKT⟩
            clear hN3 hN4 hNq hNr hk3 hk4 hk5 hHeld hKT
            generalize (w5.alloc (Obj.cells #[.bool false, .slice none 0 0] 50)) = Wx at ghA0 ghA1 ghB0 ghB1 hz80 hz81 hz90 hz91 hg80 hg81 hg90 hg91 HN ⊢
            refine wpAnyH_ready (rs := [10]) (by kernel_rfl) (by simp) ?_
            refine AllReadyH.cons rfl (fun K hK => ?_) AllReadyH.nil
            go_simp
            refine hK.out _ _ ⟨set2_far (p := p8) ghA0 (by omega), set2_far (p := p8) ghA1 (by omega), set2_far (p := p8) ghB0 (by omega), set2_far (p := p8) ghB1 (by omega)⟩ (fun hHeld => ?_)
            clear hK K
            refine wpAnyH_ready (rs := [11]) (by kernel_rfl) (by simp) ?_
            refine AllReadyH.cons rfl (fun K hK => ?_) AllReadyH.nil
            go_simp
            refine hK.out _ _ ⟨set2_far (p := p9) (set2_far (p := p8) ghA0 (by omega)) (by omega), set2_far (p := p9) (set2_far (p := p8) ghA1 (by omega)) (by omega), set2_far (p := p9) (set2_far (p := p8) ghB0 (by omega)) (by omega), set2_far (p := p9) (set2_far (p := p8) ghB1 (by omega)) (by omega)⟩ (fun hHeld => ?_)
            clear hK K
            refine wpAnyH_done (by kernel_rfl) ?_ _
            go_wp2_with fail
            go_meet
            case rel =>
              have e8 := set2_at (x := .bool sq) (y := .slice aq kq cq) hz80 hz81
              have z90 := set2_far (x := .bool sq) (y := .slice aq kq cq) hz90 hne
              have z91 := set2_far (x := .bool sq) (y := .slice aq kq cq) hz91 hne
              have e9 := set2_at (x := .bool sr) (y := .slice ar kr cr) z90 z91
              exact ⟨p8, p9, sq, sr, aq, ar, kq, kr, cq, cr, rfl, rfl, set2_far e8.1 hne', set2_far e8.2 hne', e9.1, e9.2, by omega, by omega, (((HN.out.2.2.setCell hp8 _).setCell hp8 _).setCell hp9 _).setCell hp9 _, (HN.out.1.box2 hz80 hz81 _ _).box2 z90 z91 _ _, (HN.out.2.1.box2 hz80 hz81 _ _).box2 z90 z91 _ _⟩
          refine AllReadyH.cons rfl (fun K hK => ?_) AllReadyH.nil
          go_simp
          refine hK.out _ _ ⟨cell_kept (((((Kept.refl w2).drew.alloc _).trans hk3).trans hk4).alloc _) hA0, cell_kept (((((Kept.refl w2).drew.alloc _).trans hk3).trans hk4).alloc _) hA1, cell_kept (((((Kept.refl w2).drew.alloc _).trans hk3).trans hk4).alloc _) hB0, cell_kept (((((Kept.refl w2).drew.alloc _).trans hk3).trans hk4).alloc _) hB1⟩ (fun hHeld => ?_)
          clear hK K
          refine wpAnyH_ready (rs := [4]) (by kernel_rfl) (by simp) ?_
          refine AllReadyH.cons rfl (fun K hK => ?_) AllReadyH.nil
          go_simp
          refine (Divide_any s3 s4 a3 a4 k3 k4 c3 c4 (M.int m a) (M.int n b) _ (hN3.kept (((Kept.refl _).trans hk4).alloc _)) (hN4.kept ((Kept.refl _).alloc _)) (by omega) (by omega) HY.out).mono ?_
          rintro e w5 ⟨hk5, sq, aq, kq, cq, sr, ar, kr, cr, rfl, hNq, hNr, hlq, hlr⟩
          have hs5 : w2.heap.size ≤ w5.heap.size := ((((((Kept.refl w2).drew.alloc _).trans hk3).trans hk4).alloc _).trans hk5).size
          have ht5 := hk5.size
          try simp at ht5
          refine hK.out _ _ ⟨cell_kept ((((((Kept.refl w2).drew.alloc _).trans hk3).trans hk4).alloc _).trans hk5) hA0, cell_kept ((((((Kept.refl w2).drew.alloc _).trans hk3).trans hk4).alloc _).trans hk5) hA1, cell_kept ((((((Kept.refl w2).drew.alloc _).trans hk3).trans hk4).alloc _).trans hk5) hB0, cell_kept ((((((Kept.refl w2).drew.alloc _).trans hk3).trans hk4).alloc _).trans hk5) hB1⟩ (fun hHeld => ?_)
          clear hK K
          refine wpAnyH_take (i := 5) (v := ?v5x37) rfl (by kernel_rfl) (by kernel_rfl) (by kernel_rfl) (fun _ _ _ h => h) (Or.inl ⟨by rfl, ?y5x37⟩) hHeld ?r5x37
          case y5x37 =>
            intro w' hSw
            obtain ⟨hSw0, hSw1, hSw2, hSw3⟩ := hSw
            go_simp
            with_reducible rfl
          case r5x37 =>
          refine wpAnyH_take (i := 6) (v := ?v6x38) rfl (by kernel_rfl) (by kernel_rfl) (by kernel_rfl) (fun _ _ _ h => h) (Or.inl ⟨by rfl, ?y6x38⟩) hHeld ?r6x38
          case y6x38 =>
            intro w' hSw
            obtain ⟨hSw0, hSw1, hSw2, hSw3⟩ := hSw
            go_simp
            with_reducible rfl
          case r6x38 =>
          refine wpAnyH_take (i := 7) (v := ?v7x39) rfl (by kernel_rfl) (by kernel_rfl) (by kernel_rfl) (fun _ _ _ h => h) (Or.inl ⟨by rfl, ?y7x39⟩) hHeld ?r7x39
          case y7x39 =>
            intro w' hSw
            obtain ⟨hSw0, hSw1, hSw2, hSw3⟩ := hSw
            go_simp
            with_reducible rfl
          case r7x39 =>
          have hz80 : w5.cell? ⟨w2.heap.size, 0, none⟩ = some (.bool false) := cell_kept (((((Kept.refl _).trans hk3).trans hk4).alloc _).trans hk5) (World.cell?_alloc_at _ _ _ _ (by simp))
          have hg80 : w5.frozen? ⟨w2.heap.size, 0, none⟩ = false := ((((((Kept.refl _).trans hk3).trans hk4).alloc _).trans hk5).frozens _ _ (by simp)).trans (World.frozen?_alloc_at _ _ _ _ (by simp))
          have hz81 : w5.cell? ⟨w2.heap.size, 1, none⟩ = some (.slice none 0 0) := cell_kept (((((Kept.refl _).trans hk3).trans hk4).alloc _).trans hk5) (World.cell?_alloc_at _ _ _ _ (by simp))
          have hg81 : w5.frozen? ⟨w2.heap.size, 1, none⟩ = false := ((((((Kept.refl _).trans hk3).trans hk4).alloc _).trans hk5).frozens _ _ (by simp)).trans (World.frozen?_alloc_at _ _ _ _ (by simp))
          have hz90 : w5.cell? ⟨w4.heap.size, 0, none⟩ = some (.bool false) := cell_kept ((Kept.refl _).trans hk5) (World.cell?_alloc_at _ _ _ _ (by simp))
          have hg90 : w5.frozen? ⟨w4.heap.size, 0, none⟩ = false := (((Kept.refl _).trans hk5).frozens _ _ (by simp)).trans (World.frozen?_alloc_at _ _ _ _ (by simp))
          have hz91 : w5.cell? ⟨w4.heap.size, 1, none⟩ = some (.slice none 0 0) := cell_kept ((Kept.refl _).trans hk5) (World.cell?_alloc_at _ _ _ _ (by simp))
          have hg91 : w5.frozen? ⟨w4.heap.size, 1, none⟩ = false := (((Kept.refl _).trans hk5).frozens _ _ (by simp)).trans (World.frozen?_alloc_at _ _ _ _ (by simp))
          obtain ⟨p8, hp⟩ : ∃ p, p = w2.heap.size := ⟨_, rfl⟩
          obtain ⟨p9, hq⟩ : ∃ p, p = w4.heap.size := ⟨_, rfl⟩
          have hp8 : w2.heap.size ≤ p8 := by omega
          have hp9 : w2.heap.size ≤ p9 := by omega
          have hne : ¬ (p8 = p9) := by omega
          have hne' : ¬ (p9 = p8) := by omega
          rw [← hp] at hz80 hz81 hg80 hg81 ⊢
          rw [← hq] at hz90 hz91 hg90 hg91 ⊢
          clear hp hq
          have hKT : Kept w2 w5 := ((((((Kept.refl w2).drew.alloc _).trans hk3).trans hk4).alloc _).trans hk5)
          have ghA0 := cell_kept hKT hA0
          have ghA1 := cell_kept hKT hA1
          have ghB0 := cell_kept hKT hB0
          have ghB1 := cell_kept hKT hB1
          have HN : Hid (NIs w5 sq (.slice aq kq cq) (Int.tdiv (M.int m a) (M.int n b)) ∧ NIs w5 sr (.slice ar kr cr) (Int.tmod (M.int m a) (M.int n b)) ∧ Kept w2 w5) := ⟨hNq.kept (Kept.refl _), hNr.kept (Kept.refl _), hKT⟩
          clear hN3 hN4 hNq hNr hk3 hk4 hk5 hHeld hKT
          generalize w5 = Wx at ghA0 ghA1 ghB0 ghB1 hz80 hz81 hz90 hz91 hg80 hg81 hg90 hg91 HN ⊢
          refine wpAnyH_ready (rs := [10]) (by kernel_rfl) (by simp) ?_
          refine AllReadyH.cons rfl (fun K hK => ?_) AllReadyH.nil
          go_simp
          refine hK.out _ _ ⟨set2_far (p := p8) ghA0 (by omega), set2_far (p := p8) ghA1 (by omega), set2_far (p := p8) ghB0 (by omega), set2_far (p := p8) ghB1 (by omega)⟩ (fun hHeld => ?_)
          clear hK K
          refine wpAnyH_ready (rs := [11]) (by kernel_rfl) (by simp) ?_
          refine AllReadyH.cons rfl (fun K hK => ?_) AllReadyH.nil
          go_simp
          refine hK.out _ _ ⟨set2_far (p := p9) (set2_far (p := p8) ghA0 (by omega)) (by omega), set2_far (p := p9) (set2_far (p := p8) ghA1 (by omega)) (by omega), set2_far (p := p9) (set2_far (p := p8) ghB0 (by omega)) (by omega), set2_far (p := p9) (set2_far (p := p8) ghB1 (by omega)) (by omega)⟩ (fun hHeld => ?_)
          clear hK K
          refine wpAnyH_done (by kernel_rfl) ?_ _
          go_wp2_with fail
          go_meet
          case rel =>
            have e8 := set2_at (x := .bool sq) (y := .slice aq kq cq) hz80 hz81
            have z90 := set2_far (x := .bool sq) (y := .slice aq kq cq) hz90 hne
            have z91 := set2_far (x := .bool sq) (y := .slice aq kq cq) hz91 hne
            have e9 := set2_at (x := .bool sr) (y := .slice ar kr cr) z90 z91
            exact ⟨p8, p9, sq, sr, aq, ar, kq, kr, cq, cr, rfl, rfl, set2_far e8.1 hne', set2_far e8.2 hne', e9.1, e9.2, by omega, by omega, (((HN.out.2.2.setCell hp8 _).setCell hp8 _).setCell hp9 _).setCell hp9 _, (HN.out.1.box2 hz80 hz81 _ _).box2 z90 z91 _ _, (HN.out.2.1.box2 hz80 hz81 _ _).box2 z90 z91 _ _⟩
        refine AllReadyH.cons rfl (fun K hK => ?_) AllReadyH.nil
        go_simp
        refine hK.out _ _ ⟨cell_kept ((((Kept.refl w2).drew.alloc _).trans hk3).alloc _) hA0, cell_kept ((((Kept.refl w2).drew.alloc _).trans hk3).alloc _) hA1, cell_kept ((((Kept.refl w2).drew.alloc _).trans hk3).alloc _) hB0, cell_kept ((((Kept.refl w2).drew.alloc _).trans hk3).alloc _) hB1⟩ (fun hHeld => ?_)
        clear hK K
        refine wpAnyH_ready (rs := [3]) (by kernel_rfl) (by simp) ?_
        refine AllReadyH.cons rfl (fun K hK => ?_) AllReadyH.nil
        go_simp
        refine (Take_any n aob kb capb b _ (HB.out.1.kept (HK2.out.trans ((((Kept.refl w2).drew.alloc _).trans hk3).alloc _))) (by omega)).mono ?_
        rintro e w4 ⟨hk4, s4, a4, k4, c4, rfl, hN4, hl4⟩
        have hs4 : w2.heap.size ≤ w4.heap.size := (((((Kept.refl w2).drew.alloc _).trans hk3).alloc _).trans hk4).size
        have ht4 := hk4.size
        try simp at ht4
        refine hK.out _ _ ⟨cell_kept (((((Kept.refl w2).drew.alloc _).trans hk3).alloc _).trans hk4) hA0, cell_kept (((((Kept.refl w2).drew.alloc _).trans hk3).alloc _).trans hk4) hA1, cell_kept (((((Kept.refl w2).drew.alloc _).trans hk3).alloc _).trans hk4) hB0, cell_kept (((((Kept.refl w2).drew.alloc _).trans hk3).alloc _).trans hk4) hB1⟩ (fun hHeld => ?_)
        clear hK K
        refine wpAnyH_ready (rs := [4]) (by kernel_rfl) (by simp) ?_
        refine AllReadyH.cons rfl (fun K hK => ?_) AllReadyH.nil
        go_simp
        refine (Divide_any s3 s4 a3 a4 k3 k4 c3 c4 (M.int m a) (M.int n b) _ (hN3.kept (((Kept.refl _).alloc _).trans hk4)) (hN4.kept (Kept.refl _)) (by omega) (by omega) HY.out).mono ?_
        rintro e w5 ⟨hk5, sq, aq, kq, cq, sr, ar, kr, cr, rfl, hNq, hNr, hlq, hlr⟩
        have hs5 : w2.heap.size ≤ w5.heap.size := ((((((Kept.refl w2).drew.alloc _).trans hk3).alloc _).trans hk4).trans hk5).size
        have ht5 := hk5.size
        try simp at ht5
        refine hK.out _ _ ⟨cell_kept ((((((Kept.refl w2).drew.alloc _).trans hk3).alloc _).trans hk4).trans hk5) hA0, cell_kept ((((((Kept.refl w2).drew.alloc _).trans hk3).alloc _).trans hk4).trans hk5) hA1, cell_kept ((((((Kept.refl w2).drew.alloc _).trans hk3).alloc _).trans hk4).trans hk5) hB0, cell_kept ((((((Kept.refl w2).drew.alloc _).trans hk3).alloc _).trans hk4).trans hk5) hB1⟩ (fun hHeld => ?_)
        clear hK K
        refine wpAnyH_take (i := 5) (v := ?v5x40) rfl (by kernel_rfl) (by kernel_rfl) (by kernel_rfl) (fun _ _ _ h => h) (Or.inl ⟨by rfl, ?y5x40⟩) hHeld ?r5x40
        case y5x40 =>
          intro w' hSw
          obtain ⟨hSw0, hSw1, hSw2, hSw3⟩ := hSw
          go_simp
          with_reducible rfl
        case r5x40 =>
        refine wpAnyH_take (i := 6) (v := ?v6x41) rfl (by kernel_rfl) (by kernel_rfl) (by kernel_rfl) (fun _ _ _ h => h) (Or.inl ⟨by rfl, ?y6x41⟩) hHeld ?r6x41
        case y6x41 =>
          intro w' hSw
          obtain ⟨hSw0, hSw1, hSw2, hSw3⟩ := hSw
          go_simp
          with_reducible rfl
        case r6x41 =>
        refine wpAnyH_take (i := 7) (v := ?v7x42) rfl (by kernel_rfl) (by kernel_rfl) (by kernel_rfl) (fun _ _ _ h => h) (Or.inl ⟨by rfl, ?y7x42⟩) hHeld ?r7x42
        case y7x42 =>
          intro w' hSw
          obtain ⟨hSw0, hSw1, hSw2, hSw3⟩ := hSw
          go_simp
          with_reducible rfl
        case r7x42 =>
        have hz80 : w5.cell? ⟨w2.heap.size, 0, none⟩ = some (.bool false) := cell_kept (((((Kept.refl _).trans hk3).alloc _).trans hk4).trans hk5) (World.cell?_alloc_at _ _ _ _ (by simp))
        have hg80 : w5.frozen? ⟨w2.heap.size, 0, none⟩ = false := ((((((Kept.refl _).trans hk3).alloc _).trans hk4).trans hk5).frozens _ _ (by simp)).trans (World.frozen?_alloc_at _ _ _ _ (by simp))
        have hz81 : w5.cell? ⟨w2.heap.size, 1, none⟩ = some (.slice none 0 0) := cell_kept (((((Kept.refl _).trans hk3).alloc _).trans hk4).trans hk5) (World.cell?_alloc_at _ _ _ _ (by simp))
        have hg81 : w5.frozen? ⟨w2.heap.size, 1, none⟩ = false := ((((((Kept.refl _).trans hk3).alloc _).trans hk4).trans hk5).frozens _ _ (by simp)).trans (World.frozen?_alloc_at _ _ _ _ (by simp))
        have hz90 : w5.cell? ⟨w3.heap.size, 0, none⟩ = some (.bool false) := cell_kept (((Kept.refl _).trans hk4).trans hk5) (World.cell?_alloc_at _ _ _ _ (by simp))
        have hg90 : w5.frozen? ⟨w3.heap.size, 0, none⟩ = false := ((((Kept.refl _).trans hk4).trans hk5).frozens _ _ (by simp)).trans (World.frozen?_alloc_at _ _ _ _ (by simp))
        have hz91 : w5.cell? ⟨w3.heap.size, 1, none⟩ = some (.slice none 0 0) := cell_kept (((Kept.refl _).trans hk4).trans hk5) (World.cell?_alloc_at _ _ _ _ (by simp))
        have hg91 : w5.frozen? ⟨w3.heap.size, 1, none⟩ = false := ((((Kept.refl _).trans hk4).trans hk5).frozens _ _ (by simp)).trans (World.frozen?_alloc_at _ _ _ _ (by simp))
        obtain ⟨p8, hp⟩ : ∃ p, p = w2.heap.size := ⟨_, rfl⟩
        obtain ⟨p9, hq⟩ : ∃ p, p = w3.heap.size := ⟨_, rfl⟩
        have hp8 : w2.heap.size ≤ p8 := by omega
        have hp9 : w2.heap.size ≤ p9 := by omega
        have hne : ¬ (p8 = p9) := by omega
        have hne' : ¬ (p9 = p8) := by omega
        rw [← hp] at hz80 hz81 hg80 hg81 ⊢
        rw [← hq] at hz90 hz91 hg90 hg91 ⊢
        clear hp hq
        have hKT : Kept w2 w5 := ((((((Kept.refl w2).drew.alloc _).trans hk3).alloc _).trans hk4).trans hk5)
        have ghA0 := cell_kept hKT hA0
        have ghA1 := cell_kept hKT hA1
        have ghB0 := cell_kept hKT hB0
        have ghB1 := cell_kept hKT hB1
        have HN : Hid (NIs w5 sq (.slice aq kq cq) (Int.tdiv (M.int m a) (M.int n b)) ∧ NIs w5 sr (.slice ar kr cr) (Int.tmod (M.int m a) (M.int n b)) ∧ Kept w2 w5) := ⟨hNq.kept (Kept.refl _), hNr.kept (Kept.refl _), hKT⟩
        clear hN3 hN4 hNq hNr hk3 hk4 hk5 hHeld hKT
        generalize w5 = Wx at ghA0 ghA1 ghB0 ghB1 hz80 hz81 hz90 hz91 hg80 hg81 hg90 hg91 HN ⊢
        refine wpAnyH_ready (rs := [10]) (by kernel_rfl) (by simp) ?_
        refine AllReadyH.cons rfl (fun K hK => ?_) AllReadyH.nil
        go_simp
        refine hK.out _ _ ⟨set2_far (p := p8) ghA0 (by omega), set2_far (p := p8) ghA1 (by omega), set2_far (p := p8) ghB0 (by omega), set2_far (p := p8) ghB1 (by omega)⟩ (fun hHeld => ?_)
        clear hK K
        refine wpAnyH_ready (rs := [11]) (by kernel_rfl) (by simp) ?_
        refine AllReadyH.cons rfl (fun K hK => ?_) AllReadyH.nil
        go_simp
        refine hK.out _ _ ⟨set2_far (p := p9) (set2_far (p := p8) ghA0 (by omega)) (by omega), set2_far (p := p9) (set2_far (p := p8) ghA1 (by omega)) (by omega), set2_far (p := p9) (set2_far (p := p8) ghB0 (by omega)) (by omega), set2_far (p := p9) (set2_far (p := p8) ghB1 (by omega)) (by omega)⟩ (fun hHeld => ?_)
        clear hK K
        refine wpAnyH_done (by kernel_rfl) ?_ _
        go_wp2_with fail
        go_meet
        case rel =>
          have e8 := set2_at (x := .bool sq) (y := .slice aq kq cq) hz80 hz81
          have z90 := set2_far (x := .bool sq) (y := .slice aq kq cq) hz90 hne
          have z91 := set2_far (x := .bool sq) (y := .slice aq kq cq) hz91 hne
          have e9 := set2_at (x := .bool sr) (y := .slice ar kr cr) z90 z91
          exact ⟨p8, p9, sq, sr, aq, ar, kq, kr, cq, cr, rfl, rfl, set2_far e8.1 hne', set2_far e8.2 hne', e9.1, e9.2, by omega, by omega, (((HN.out.2.2.setCell hp8 _).setCell hp8 _).setCell hp9 _).setCell hp9 _, (HN.out.1.box2 hz80 hz81 _ _).box2 z90 z91 _ _, (HN.out.2.1.box2 hz80 hz81 _ _).box2 z90 z91 _ _⟩
      refine AllReadyH.cons rfl (fun K hK => ?_) AllReadyH.nil
      go_simp
      refine hK.out _ _ ⟨cell_kept (((Kept.refl w2).drew.alloc _).alloc _) hA0, cell_kept (((Kept.refl w2).drew.alloc _).alloc _) hA1, cell_kept (((Kept.refl w2).drew.alloc _).alloc _) hB0, cell_kept (((Kept.refl w2).drew.alloc _).alloc _) hB1⟩ (fun hHeld => ?_)
      clear hK K
      refine wpAnyH_ready (rs := [1]) (by kernel_rfl) (by simp) ?_
      refine AllReadyH.cons rfl (fun K hK => ?_) AllReadyH.nil
      go_simp
      refine (Take_any m aoa ka capa a _ (HA.out.1.kept (HK2.out.trans (((Kept.refl w2).drew.alloc _).alloc _))) (by omega)).mono ?_
      rintro e w3 ⟨hk3, s3, a3, k3, c3, rfl, hN3, hl3⟩
      have hs3 : w2.heap.size ≤ w3.heap.size := ((((Kept.refl w2).drew.alloc _).alloc _).trans hk3).size
      have ht3 := hk3.size
      try simp at ht3
      refine hK.out _ _ ⟨cell_kept ((((Kept.refl w2).drew.alloc _).alloc _).trans hk3) hA0, cell_kept ((((Kept.refl w2).drew.alloc _).alloc _).trans hk3) hA1, cell_kept ((((Kept.refl w2).drew.alloc _).alloc _).trans hk3) hB0, cell_kept ((((Kept.refl w2).drew.alloc _).alloc _).trans hk3) hB1⟩ (fun hHeld => ?_)
      clear hK K
      refine wpAnyH_ready (rs := [3]) (by kernel_rfl) (by simp) ?_
      refine AllReadyH.cons rfl (fun K hK => ?_) AllReadyH.nil
      go_simp
      refine (Take_any n aob kb capb b _ (HB.out.1.kept (HK2.out.trans ((((Kept.refl w2).drew.alloc _).alloc _).trans hk3))) (by omega)).mono ?_
      rintro e w4 ⟨hk4, s4, a4, k4, c4, rfl, hN4, hl4⟩
      have hs4 : w2.heap.size ≤ w4.heap.size := (((((Kept.refl w2).drew.alloc _).alloc _).trans hk3).trans hk4).size
      have ht4 := hk4.size
      try simp at ht4
      refine hK.out _ _ ⟨cell_kept (((((Kept.refl w2).drew.alloc _).alloc _).trans hk3).trans hk4) hA0, cell_kept (((((Kept.refl w2).drew.alloc _).alloc _).trans hk3).trans hk4) hA1, cell_kept (((((Kept.refl w2).drew.alloc _).alloc _).trans hk3).trans hk4) hB0, cell_kept (((((Kept.refl w2).drew.alloc _).alloc _).trans hk3).trans hk4) hB1⟩ (fun hHeld => ?_)
      clear hK K
      refine wpAnyH_ready (rs := [4]) (by kernel_rfl) (by simp) ?_
      refine AllReadyH.cons rfl (fun K hK => ?_) AllReadyH.nil
      go_simp
      refine (Divide_any s3 s4 a3 a4 k3 k4 c3 c4 (M.int m a) (M.int n b) _ (hN3.kept ((Kept.refl _).trans hk4)) (hN4.kept (Kept.refl _)) (by omega) (by omega) HY.out).mono ?_
      rintro e w5 ⟨hk5, sq, aq, kq, cq, sr, ar, kr, cr, rfl, hNq, hNr, hlq, hlr⟩
      have hs5 : w2.heap.size ≤ w5.heap.size := ((((((Kept.refl w2).drew.alloc _).alloc _).trans hk3).trans hk4).trans hk5).size
      have ht5 := hk5.size
      try simp at ht5
      refine hK.out _ _ ⟨cell_kept ((((((Kept.refl w2).drew.alloc _).alloc _).trans hk3).trans hk4).trans hk5) hA0, cell_kept ((((((Kept.refl w2).drew.alloc _).alloc _).trans hk3).trans hk4).trans hk5) hA1, cell_kept ((((((Kept.refl w2).drew.alloc _).alloc _).trans hk3).trans hk4).trans hk5) hB0, cell_kept ((((((Kept.refl w2).drew.alloc _).alloc _).trans hk3).trans hk4).trans hk5) hB1⟩ (fun hHeld => ?_)
      clear hK K
      refine wpAnyH_take (i := 5) (v := ?v5x43) rfl (by kernel_rfl) (by kernel_rfl) (by kernel_rfl) (fun _ _ _ h => h) (Or.inl ⟨by rfl, ?y5x43⟩) hHeld ?r5x43
      case y5x43 =>
        intro w' hSw
        obtain ⟨hSw0, hSw1, hSw2, hSw3⟩ := hSw
        go_simp
        with_reducible rfl
      case r5x43 =>
      refine wpAnyH_take (i := 6) (v := ?v6x44) rfl (by kernel_rfl) (by kernel_rfl) (by kernel_rfl) (fun _ _ _ h => h) (Or.inl ⟨by rfl, ?y6x44⟩) hHeld ?r6x44
      case y6x44 =>
        intro w' hSw
        obtain ⟨hSw0, hSw1, hSw2, hSw3⟩ := hSw
        go_simp
        with_reducible rfl
      case r6x44 =>
      refine wpAnyH_take (i := 7) (v := ?v7x45) rfl (by kernel_rfl) (by kernel_rfl) (by kernel_rfl) (fun _ _ _ h => h) (Or.inl ⟨by rfl, ?y7x45⟩) hHeld ?r7x45
      case y7x45 =>
        intro w' hSw
        obtain ⟨hSw0, hSw1, hSw2, hSw3⟩ := hSw
        go_simp
        with_reducible rfl
      case r7x45 =>
      have hz80 : w5.cell? ⟨w2.heap.size, 0, none⟩ = some (.bool false) := cell_kept (((((Kept.refl _).alloc _).trans hk3).trans hk4).trans hk5) (World.cell?_alloc_at _ _ _ _ (by simp))
      have hg80 : w5.frozen? ⟨w2.heap.size, 0, none⟩ = false := ((((((Kept.refl _).alloc _).trans hk3).trans hk4).trans hk5).frozens _ _ (by simp)).trans (World.frozen?_alloc_at _ _ _ _ (by simp))
      have hz81 : w5.cell? ⟨w2.heap.size, 1, none⟩ = some (.slice none 0 0) := cell_kept (((((Kept.refl _).alloc _).trans hk3).trans hk4).trans hk5) (World.cell?_alloc_at _ _ _ _ (by simp))
      have hg81 : w5.frozen? ⟨w2.heap.size, 1, none⟩ = false := ((((((Kept.refl _).alloc _).trans hk3).trans hk4).trans hk5).frozens _ _ (by simp)).trans (World.frozen?_alloc_at _ _ _ _ (by simp))
      have hz90 : w5.cell? ⟨w2.heap.size + 1, 0, none⟩ = some (.bool false) := cell_kept ((((Kept.refl _).trans hk3).trans hk4).trans hk5) (World.cell?_alloc_at _ _ _ _ (by simp))
      have hg90 : w5.frozen? ⟨w2.heap.size + 1, 0, none⟩ = false := (((((Kept.refl _).trans hk3).trans hk4).trans hk5).frozens _ _ (by simp)).trans (World.frozen?_alloc_at _ _ _ _ (by simp))
      have hz91 : w5.cell? ⟨w2.heap.size + 1, 1, none⟩ = some (.slice none 0 0) := cell_kept ((((Kept.refl _).trans hk3).trans hk4).trans hk5) (World.cell?_alloc_at _ _ _ _ (by simp))
      have hg91 : w5.frozen? ⟨w2.heap.size + 1, 1, none⟩ = false := (((((Kept.refl _).trans hk3).trans hk4).trans hk5).frozens _ _ (by simp)).trans (World.frozen?_alloc_at _ _ _ _ (by simp))
      obtain ⟨p8, hp⟩ : ∃ p, p = w2.heap.size := ⟨_, rfl⟩
      obtain ⟨p9, hq⟩ : ∃ p, p = w2.heap.size + 1 := ⟨_, rfl⟩
      have hp8 : w2.heap.size ≤ p8 := by omega
      have hp9 : w2.heap.size ≤ p9 := by omega
      have hne : ¬ (p8 = p9) := by omega
      have hne' : ¬ (p9 = p8) := by omega
      rw [← hq] at hz90 hz91 hg90 hg91 ⊢
      rw [← hp] at hz80 hz81 hg80 hg81 ⊢
      clear hp hq
      have hKT : Kept w2 w5 := ((((((Kept.refl w2).drew.alloc _).alloc _).trans hk3).trans hk4).trans hk5)
      have ghA0 := cell_kept hKT hA0
      have ghA1 := cell_kept hKT hA1
      have ghB0 := cell_kept hKT hB0
      have ghB1 := cell_kept hKT hB1
      have HN : Hid (NIs w5 sq (.slice aq kq cq) (Int.tdiv (M.int m a) (M.int n b)) ∧ NIs w5 sr (.slice ar kr cr) (Int.tmod (M.int m a) (M.int n b)) ∧ Kept w2 w5) := ⟨hNq.kept (Kept.refl _), hNr.kept (Kept.refl _), hKT⟩
      clear hN3 hN4 hNq hNr hk3 hk4 hk5 hHeld hKT
      generalize w5 = Wx at ghA0 ghA1 ghB0 ghB1 hz80 hz81 hz90 hz91 hg80 hg81 hg90 hg91 HN ⊢
      refine wpAnyH_ready (rs := [10]) (by kernel_rfl) (by simp) ?_
      refine AllReadyH.cons rfl (fun K hK => ?_) AllReadyH.nil
      go_simp
      refine hK.out _ _ ⟨set2_far (p := p8) ghA0 (by omega), set2_far (p := p8) ghA1 (by omega), set2_far (p := p8) ghB0 (by omega), set2_far (p := p8) ghB1 (by omega)⟩ (fun hHeld => ?_)
      clear hK K
      refine wpAnyH_ready (rs := [11]) (by kernel_rfl) (by simp) ?_
      refine AllReadyH.cons rfl (fun K hK => ?_) AllReadyH.nil
      go_simp
      refine hK.out _ _ ⟨set2_far (p := p9) (set2_far (p := p8) ghA0 (by omega)) (by omega), set2_far (p := p9) (set2_far (p := p8) ghA1 (by omega)) (by omega), set2_far (p := p9) (set2_far (p := p8) ghB0 (by omega)) (by omega), set2_far (p := p9) (set2_far (p := p8) ghB1 (by omega)) (by omega)⟩ (fun hHeld => ?_)
      clear hK K
      refine wpAnyH_done (by kernel_rfl) ?_ _
      go_wp2_with fail
      go_meet
      case rel =>
        have e8 := set2_at (x := .bool sq) (y := .slice aq kq cq) hz80 hz81
        have z90 := set2_far (x := .bool sq) (y := .slice aq kq cq) hz90 hne
        have z91 := set2_far (x := .bool sq) (y := .slice aq kq cq) hz91 hne
        have e9 := set2_at (x := .bool sr) (y := .slice ar kr cr) z90 z91
        exact ⟨p8, p9, sq, sr, aq, ar, kq, kr, cq, cr, rfl, rfl, set2_far e8.1 hne', set2_far e8.2 hne', e9.1, e9.2, by omega, by omega, (((HN.out.2.2.setCell hp8 _).setCell hp8 _).setCell hp9 _).setCell hp9 _, (HN.out.1.box2 hz80 hz81 _ _).box2 z90 z91 _ _, (HN.out.2.1.box2 hz80 hz81 _ _).box2 z90 z91 _ _⟩
    refine AllReadyH.cons rfl (fun K hK => ?_) AllReadyH.nil
    go_simp
    refine hK.out _ _ ⟨cell_kept ((Kept.refl w2).drew.alloc _) hA0, cell_kept ((Kept.refl w2).drew.alloc _) hA1, cell_kept ((Kept.refl w2).drew.alloc _) hB0, cell_kept ((Kept.refl w2).drew.alloc _) hB1⟩ (fun hHeld => ?_)
    clear hK K
    refine wpAnyH_ready (rs := [1, 8]) (by kernel_rfl) (by simp) ?_
    refine AllReadyH.cons rfl (fun K hK => ?_) ?_
    · go_simp
      refine (Take_any m aoa ka capa a _ (HA.out.1.kept (HK2.out.trans ((Kept.refl w2).drew.alloc _))) (by omega)).mono ?_
      rintro e w3 ⟨hk3, s3, a3, k3, c3, rfl, hN3, hl3⟩
      have hs3 : w2.heap.size ≤ w3.heap.size := (((Kept.refl w2).drew.alloc _).trans hk3).size
      have ht3 := hk3.size
      try simp at ht3
      refine hK.out _ _ ⟨cell_kept (((Kept.refl w2).drew.alloc _).trans hk3) hA0, cell_kept (((Kept.refl w2).drew.alloc _).trans hk3) hA1, cell_kept (((Kept.refl w2).drew.alloc _).trans hk3) hB0, cell_kept (((Kept.refl w2).drew.alloc _).trans hk3) hB1⟩ (fun hHeld => ?_)
      clear hK K
      refine wpAnyH_ready (rs := [3, 8]) (by kernel_rfl) (by simp) ?_
      refine AllReadyH.cons rfl (fun K hK => ?_) ?_
      · go_simp
        refine (Take_any n aob kb capb b _ (HB.out.1.kept (HK2.out.trans (((Kept.refl w2).drew.alloc _).trans hk3))) (by omega)).mono ?_
        rintro e w4 ⟨hk4, s4, a4, k4, c4, rfl, hN4, hl4⟩
        have hs4 : w2.heap.size ≤ w4.heap.size := ((((Kept.refl w2).drew.alloc _).trans hk3).trans hk4).size
        have ht4 := hk4.size
        try simp at ht4
        refine hK.out _ _ ⟨cell_kept ((((Kept.refl w2).drew.alloc _).trans hk3).trans hk4) hA0, cell_kept ((((Kept.refl w2).drew.alloc _).trans hk3).trans hk4) hA1, cell_kept ((((Kept.refl w2).drew.alloc _).trans hk3).trans hk4) hB0, cell_kept ((((Kept.refl w2).drew.alloc _).trans hk3).trans hk4) hB1⟩ (fun hHeld => ?_)
        clear hK K
        refine wpAnyH_ready (rs := [4, 8]) (by kernel_rfl) (by simp) ?_
        refine AllReadyH.cons rfl (fun K hK => ?_) ?_
        · go_simp
          refine (Divide_any s3 s4 a3 a4 k3 k4 c3 c4 (M.int m a) (M.int n b) _ (hN3.kept ((Kept.refl _).trans hk4)) (hN4.kept (Kept.refl _)) (by omega) (by omega) HY.out).mono ?_
          rintro e w5 ⟨hk5, sq, aq, kq, cq, sr, ar, kr, cr, rfl, hNq, hNr, hlq, hlr⟩
          have hs5 : w2.heap.size ≤ w5.heap.size := (((((Kept.refl w2).drew.alloc _).trans hk3).trans hk4).trans hk5).size
          have ht5 := hk5.size
          try simp at ht5
          refine hK.out _ _ ⟨cell_kept (((((Kept.refl w2).drew.alloc _).trans hk3).trans hk4).trans hk5) hA0, cell_kept (((((Kept.refl w2).drew.alloc _).trans hk3).trans hk4).trans hk5) hA1, cell_kept (((((Kept.refl w2).drew.alloc _).trans hk3).trans hk4).trans hk5) hB0, cell_kept (((((Kept.refl w2).drew.alloc _).trans hk3).trans hk4).trans hk5) hB1⟩ (fun hHeld => ?_)
          clear hK K
          refine wpAnyH_take (i := 5) (v := ?v5x46) rfl (by kernel_rfl) (by kernel_rfl) (by kernel_rfl) (fun _ _ _ h => h) (Or.inl ⟨by rfl, ?y5x46⟩) hHeld ?r5x46
          case y5x46 =>
            intro w' hSw
            obtain ⟨hSw0, hSw1, hSw2, hSw3⟩ := hSw
            go_simp
            with_reducible rfl
          case r5x46 =>
          refine wpAnyH_take (i := 6) (v := ?v6x47) rfl (by kernel_rfl) (by kernel_rfl) (by kernel_rfl) (fun _ _ _ h => h) (Or.inl ⟨by rfl, ?y6x47⟩) hHeld ?r6x47
          case y6x47 =>
            intro w' hSw
            obtain ⟨hSw0, hSw1, hSw2, hSw3⟩ := hSw
            go_simp
            with_reducible rfl
          case r6x47 =>
          refine wpAnyH_take (i := 7) (v := ?v7x48) rfl (by kernel_rfl) (by kernel_rfl) (by kernel_rfl) (fun _ _ _ h => h) (Or.inl ⟨by rfl, ?y7x48⟩) hHeld ?r7x48
          case y7x48 =>
            intro w' hSw
            obtain ⟨hSw0, hSw1, hSw2, hSw3⟩ := hSw
            go_simp
            with_reducible rfl
          case r7x48 =>
          refine wpAnyH_ready (rs := [8]) (by kernel_rfl) (by simp) ?_
          refine AllReadyH.cons rfl (fun K hK => ?_) AllReadyH.nil
          go_simp
          refine hK.out _ _ ⟨cell_kept ((((((Kept.refl w2).drew.alloc _).trans hk3).trans hk4).trans hk5).alloc _) hA0, cell_kept ((((((Kept.refl w2).drew.alloc _).trans hk3).trans hk4).trans hk5).alloc _) hA1, cell_kept ((((((Kept.refl w2).drew.alloc _).trans hk3).trans hk4).trans hk5).alloc _) hB0, cell_kept ((((((Kept.refl w2).drew.alloc _).trans hk3).trans hk4).trans hk5).alloc _) hB1⟩ (fun hHeld => ?_)
          clear hK K
          have hz80 : (w5.alloc (Obj.cells #[.bool false, .slice none 0 0] 50)).cell? ⟨w5.heap.size, 0, none⟩ = some (.bool false) := cell_kept (Kept.refl _) (World.cell?_alloc_at _ _ _ _ (by simp))
          have hg80 : (w5.alloc (Obj.cells #[.bool false, .slice none 0 0] 50)).frozen? ⟨w5.heap.size, 0, none⟩ = false := ((Kept.refl _).frozens _ _ (by simp)).trans (World.frozen?_alloc_at _ _ _ _ (by simp))
          have hz81 : (w5.alloc (Obj.cells #[.bool false, .slice none 0 0] 50)).cell? ⟨w5.heap.size, 1, none⟩ = some (.slice none 0 0) := cell_kept (Kept.refl _) (World.cell?_alloc_at _ _ _ _ (by simp))
          have hg81 : (w5.alloc (Obj.cells #[.bool false, .slice none 0 0] 50)).frozen? ⟨w5.heap.size, 1, none⟩ = false := ((Kept.refl _).frozens _ _ (by simp)).trans (World.frozen?_alloc_at _ _ _ _ (by simp))
          have hz90 : (w5.alloc (Obj.cells #[.bool false, .slice none 0 0] 50)).cell? ⟨w2.heap.size, 0, none⟩ = some (.bool false) := cell_kept (((((Kept.refl _).trans hk3).trans hk4).trans hk5).alloc _) (World.cell?_alloc_at _ _ _ _ (by simp))
          have hg90 : (w5.alloc (Obj.cells #[.bool false, .slice none 0 0] 50)).frozen? ⟨w2.heap.size, 0, none⟩ = false := ((((((Kept.refl _).trans hk3).trans hk4).trans hk5).alloc _).frozens _ _ (by simp)).trans (World.frozen?_alloc_at _ _ _ _ (by simp))
          have hz91 : (w5.alloc (Obj.cells #[.bool false, .slice none 0 0] 50)).cell? ⟨w2.heap.size, 1, none⟩ = some (.slice none 0 0) := cell_kept (((((Kept.refl _).trans hk3).trans hk4).trans hk5).alloc _) (World.cell?_alloc_at _ _ _ _ (by simp))
          have hg91 : (w5.alloc (Obj.cells #[.bool false, .slice none 0 0] 50)).frozen? ⟨w2.heap.size, 1, none⟩ = false := ((((((Kept.refl _).trans hk3).trans hk4).trans hk5).alloc _).frozens _ _ (by simp)).trans (World.frozen?_alloc_at _ _ _ _ (by simp))
          obtain ⟨p8, hp⟩ : ∃ p, p = w5.heap.size := ⟨_, rfl⟩
          obtain ⟨p9, hq⟩ : ∃ p, p = w2.heap.size := ⟨_, rfl⟩
          have hp8 : w2.heap.size ≤ p8 := by omega
          have hp9 : w2.heap.size ≤ p9 := by omega
          have hne : ¬ (p8 = p9) := by omega
          have hne' : ¬ (p9 = p8) := by omega
          rw [← hp] at hz80 hz81 hg80 hg81 ⊢
          rw [← hq] at hz90 hz91 hg90 hg91 ⊢
          clear hp hq
          have hKT : Kept w2 (w5.alloc (Obj.cells #[.bool false, .slice none 0 0] 50)) := ((((((Kept.refl w2).drew.alloc _).trans hk3).trans hk4).trans hk5).alloc _)
          have ghA0 := cell_kept hKT hA0
          have ghA1 := cell_kept hKT hA1
          have ghB0 := cell_kept hKT hB0
          have ghB1 := cell_kept hKT hB1
          have HN : Hid (NIs (w5.alloc (Obj.cells #[.bool false, .slice none 0 0] 50)) sq (.slice aq kq cq) (Int.tdiv (M.int m a) (M.int n b)) ∧ NIs (w5.alloc (Obj.cells #[.bool false, .slice none 0 0] 50)) sr (.slice ar kr cr) (Int.tmod (M.int m a) (M.int n b)) ∧ Kept w2 (w5.alloc (Obj.cells #[.bool false, .slice none 0 0] 50))) := ⟨hNq.kept ((Kept.refl _).alloc _), hNr.kept ((Kept.refl _).alloc _), hKT⟩
          clear hN3 hN4 hNq hNr hk3 hk4 hk5 hHeld hKT
          generalize (w5.alloc (Obj.cells #[.bool false, .slice none 0 0] 50)) = Wx at ghA0 ghA1 ghB0 ghB1 hz80 hz81 hz90 hz91 hg80 hg81 hg90 hg91 HN ⊢
          refine wpAnyH_ready (rs := [10]) (by kernel_rfl) (by simp) ?_
          refine AllReadyH.cons rfl (fun K hK => ?_) AllReadyH.nil
          go_simp
          refine hK.out _ _ ⟨set2_far (p := p8) ghA0 (by omega), set2_far (p := p8) ghA1 (by omega), set2_far (p := p8) ghB0 (by omega), set2_far (p := p8) ghB1 (by omega)⟩ (fun hHeld => ?_)
          clear hK K
          refine wpAnyH_ready (rs := [11]) (by kernel_rfl) (by simp) ?_
          refine AllReadyH.cons rfl (fun K hK => ?_) AllReadyH.nil
          go_simp
          refine hK.out _ _ ⟨set2_far (p := p9) (set2_far (p := p8) ghA0 (by omega)) (by omega), set2_far (p := p9) (set2_far (p := p8) ghA1 (by omega)) (by omega), set2_far (p := p9) (set2_far (p := p8) ghB0 (by omega)) (by omega), set2_far (p := p9) (set2_far (p := p8) ghB1 (by omega)) (by omega)⟩ (fun hHeld => ?_)
          clear hK K
          refine wpAnyH_done (by kernel_rfl) ?_ _
          go_wp2_with fail
          go_meet
          case rel =>
            have e8 := set2_at (x := .bool sq) (y := .slice aq kq cq) hz80 hz81
            have z90 := set2_far (x := .bool sq) (y := .slice aq kq cq) hz90 hne
            have z91 := set2_far (x := .bool sq) (y := .slice aq kq cq) hz91 hne
            have e9 := set2_at (x := .bool sr) (y := .slice ar kr cr) z90 z91
            exact ⟨p8, p9, sq, sr, aq, ar, kq, kr, cq, cr, rfl, rfl, set2_far e8.1 hne', set2_far e8.2 hne', e9.1, e9.2, by omega, by omega, (((HN.out.2.2.setCell hp8 _).setCell hp8 _).setCell hp9 _).setCell hp9 _, (HN.out.1.box2 hz80 hz81 _ _).box2 z90 z91 _ _, (HN.out.2.1.box2 hz80 hz81 _ _).box2 z90 z91 _ _⟩
        refine AllReadyH.cons rfl (fun K hK => ?_) AllReadyH.nil
        go_simp
        refine hK.out _ _ ⟨cell_kept (((((Kept.refl w2).drew.alloc _).trans hk3).trans hk4).alloc _) hA0, cell_kept (((((Kept.refl w2).drew.alloc _).trans hk3).trans hk4).alloc _) hA1, cell_kept (((((Kept.refl w2).drew.alloc _).trans hk3).trans hk4).alloc _) hB0, cell_kept (((((Kept.refl w2).drew.alloc _).trans hk3).trans hk4).alloc _) hB1⟩ (fun hHeld => ?_)
        clear hK K
        refine wpAnyH_ready (rs := [4]) (by kernel_rfl) (by simp) ?_
        refine AllReadyH.cons rfl (fun K hK => ?_) AllReadyH.nil
        go_simp
        refine (Divide_any s3 s4 a3 a4 k3 k4 c3 c4 (M.int m a) (M.int n b) _ (hN3.kept (((Kept.refl _).trans hk4).alloc _)) (hN4.kept ((Kept.refl _).alloc _)) (by omega) (by omega) HY.out).mono ?_
        rintro e w5 ⟨hk5, sq, aq, kq, cq, sr, ar, kr, cr, rfl, hNq, hNr, hlq, hlr⟩
        have hs5 : w2.heap.size ≤ w5.heap.size := ((((((Kept.refl w2).drew.alloc _).trans hk3).trans hk4).alloc _).trans hk5).size
        have ht5 := hk5.size
        try simp at ht5
        refine hK.out _ _ ⟨cell_kept ((((((Kept.refl w2).drew.alloc _).trans hk3).trans hk4).alloc _).trans hk5) hA0, cell_kept ((((((Kept.refl w2).drew.alloc _).trans hk3).trans hk4).alloc _).trans hk5) hA1, cell_kept ((((((Kept.refl w2).drew.alloc _).trans hk3).trans hk4).alloc _).trans hk5) hB0, cell_kept ((((((Kept.refl w2).drew.alloc _).trans hk3).trans hk4).alloc _).trans hk5) hB1⟩ (fun hHeld => ?_)
        clear hK K
        refine wpAnyH_take (i := 5) (v := ?v5x49) rfl (by kernel_rfl) (by kernel_rfl) (by kernel_rfl) (fun _ _ _ h => h) (Or.inl ⟨by rfl, ?y5x49⟩) hHeld ?r5x49
        case y5x49 =>
          intro w' hSw
          obtain ⟨hSw0, hSw1, hSw2, hSw3⟩ := hSw
          go_simp
          with_reducible rfl
        case r5x49 =>
        refine wpAnyH_take (i := 6) (v := ?v6x50) rfl (by kernel_rfl) (by kernel_rfl) (by kernel_rfl) (fun _ _ _ h => h) (Or.inl ⟨by rfl, ?y6x50⟩) hHeld ?r6x50
        case y6x50 =>
          intro w' hSw
          obtain ⟨hSw0, hSw1, hSw2, hSw3⟩ := hSw
          go_simp
          with_reducible rfl
        case r6x50 =>
        refine wpAnyH_take (i := 7) (v := ?v7x51) rfl (by kernel_rfl) (by kernel_rfl) (by kernel_rfl) (fun _ _ _ h => h) (Or.inl ⟨by rfl, ?y7x51⟩) hHeld ?r7x51
        case y7x51 =>
          intro w' hSw
          obtain ⟨hSw0, hSw1, hSw2, hSw3⟩ := hSw
          go_simp
          with_reducible rfl
        case r7x51 =>
        have hz80 : w5.cell? ⟨w4.heap.size, 0, none⟩ = some (.bool false) := cell_kept ((Kept.refl _).trans hk5) (World.cell?_alloc_at _ _ _ _ (by simp))
        have hg80 : w5.frozen? ⟨w4.heap.size, 0, none⟩ = false := (((Kept.refl _).trans hk5).frozens _ _ (by simp)).trans (World.frozen?_alloc_at _ _ _ _ (by simp))
        have hz81 : w5.cell? ⟨w4.heap.size, 1, none⟩ = some (.slice none 0 0) := cell_kept ((Kept.refl _).trans hk5) (World.cell?_alloc_at _ _ _ _ (by simp))
        have hg81 : w5.frozen? ⟨w4.heap.size, 1, none⟩ = false := (((Kept.refl _).trans hk5).frozens _ _ (by simp)).trans (World.frozen?_alloc_at _ _ _ _ (by simp))
        have hz90 : w5.cell? ⟨w2.heap.size, 0, none⟩ = some (.bool false) := cell_kept (((((Kept.refl _).trans hk3).trans hk4).alloc _).trans hk5) (World.cell?_alloc_at _ _ _ _ (by simp))
        have hg90 : w5.frozen? ⟨w2.heap.size, 0, none⟩ = false := ((((((Kept.refl _).trans hk3).trans hk4).alloc _).trans hk5).frozens _ _ (by simp)).trans (World.frozen?_alloc_at _ _ _ _ (by simp))
        have hz91 : w5.cell? ⟨w2.heap.size, 1, none⟩ = some (.slice none 0 0) := cell_kept (((((Kept.refl _).trans hk3).trans hk4).alloc _).trans hk5) (World.cell?_alloc_at _ _ _ _ (by simp))
        have hg91 : w5.frozen? ⟨w2.heap.size, 1, none⟩ = false := ((((((Kept.refl _).trans hk3).trans hk4).alloc _).trans hk5).frozens _ _ (by simp)).trans (World.frozen?_alloc_at _ _ _ _ (by simp))
        obtain ⟨p8, hp⟩ : ∃ p, p = w4.heap.size := ⟨_, rfl⟩
        obtain ⟨p9, hq⟩ : ∃ p, p = w2.heap.size := ⟨_, rfl⟩
        have hp8 : w2.heap.size ≤ p8 := by omega
        have hp9 : w2.heap.size ≤ p9 := by omega
        have hne : ¬ (p8 = p9) := by omega
        have hne' : ¬ (p9 = p8) := by omega
        rw [← hp] at hz80 hz81 hg80 hg81 ⊢
        rw [← hq] at hz90 hz91 hg90 hg91 ⊢
        clear hp hq
        have hKT : Kept w2 w5 := ((((((Kept.refl w2).drew.alloc _).trans hk3).trans hk4).alloc _).trans hk5)
        have ghA0 := cell_kept hKT hA0
        have ghA1 := cell_kept hKT hA1
        have ghB0 := cell_kept hKT hB0
        have ghB1 := cell_kept hKT hB1
        have HN : Hid (NIs w5 sq (.slice aq kq cq) (Int.tdiv (M.int m a) (M.int n b)) ∧ NIs w5 sr (.slice ar kr cr) (Int.tmod (M.int m a) (M.int n b)) ∧ Kept w2 w5) := ⟨hNq.kept (Kept.refl _), hNr.kept (Kept.refl _), hKT⟩
        clear hN3 hN4 hNq hNr hk3 hk4 hk5 hHeld hKT
        generalize w5 = Wx at ghA0 ghA1 ghB0 ghB1 hz80 hz81 hz90 hz91 hg80 hg81 hg90 hg91 HN ⊢
        refine wpAnyH_ready (rs := [10]) (by kernel_rfl) (by simp) ?_
        refine AllReadyH.cons rfl (fun K hK => ?_) AllReadyH.nil
        go_simp
        refine hK.out _ _ ⟨set2_far (p := p8) ghA0 (by omega), set2_far (p := p8) ghA1 (by omega), set2_far (p := p8) ghB0 (by omega), set2_far (p := p8) ghB1 (by omega)⟩ (fun hHeld => ?_)
        clear hK K
        refine wpAnyH_ready (rs := [11]) (by kernel_rfl) (by simp) ?_
        refine AllReadyH.cons rfl (fun K hK => ?_) AllReadyH.nil
        go_simp
        refine hK.out _ _ ⟨set2_far (p := p9) (set2_far (p := p8) ghA0 (by omega)) (by omega), set2_far (p := p9) (set2_far (p := p8) ghA1 (by omega)) (by omega), set2_far (p := p9) (set2_far (p := p8) ghB0 (by omega)) (by omega), set2_far (p := p9) (set2_far (p := p8) ghB1 (by omega)) (by omega)⟩ (fun hHeld => ?_)
        clear hK K
        refine wpAnyH_done (by kernel_rfl) ?_ _
        go_wp2_with fail
        go_meet
        case rel =>
          have e8 := set2_at (x := .bool sq) (y := .slice aq kq cq) hz80 hz81
          have z90 := set2_far (x := .bool sq) (y := .slice aq kq cq) hz90 hne
          have z91 := set2_far (x := .bool sq) (y := .slice aq kq cq) hz91 hne
          have e9 := set2_at (x := .bool sr) (y := .slice ar kr cr) z90 z91
          exact ⟨p8, p9, sq, sr, aq, ar, kq, kr, cq, cr, rfl, rfl, set2_far e8.1 hne', set2_far e8.2 hne', e9.1, e9.2, by omega, by omega, (((HN.out.2.2.setCell hp8 _).setCell hp8 _).setCell hp9 _).setCell hp9 _, (HN.out.1.box2 hz80 hz81 _ _).box2 z90 z91 _ _, (HN.out.2.1.box2 hz80 hz81 _ _).box2 z90 z91 _ _⟩
      refine AllReadyH.cons rfl (fun K hK => ?_) AllReadyH.nil
      go_simp
      refine hK.out _ _ ⟨cell_kept ((((Kept.refl w2).drew.alloc _).trans hk3).alloc _) hA0, cell_kept ((((Kept.refl w2).drew.alloc _).trans hk3).alloc _) hA1, cell_kept ((((Kept.refl w2).drew.alloc _).trans hk3).alloc _) hB0, cell_kept ((((Kept.refl w2).drew.alloc _).trans hk3).alloc _) hB1⟩ (fun hHeld => ?_)
      clear hK K
      refine wpAnyH_ready (rs := [3]) (by kernel_rfl) (by simp) ?_
      refine AllReadyH.cons rfl (fun K hK => ?_) AllReadyH.nil
      go_simp
      refine (Take_any n aob kb capb b _ (HB.out.1.kept (HK2.out.trans ((((Kept.refl w2).drew.alloc _).trans hk3).alloc _))) (by omega)).mono ?_
      rintro e w4 ⟨hk4, s4, a4, k4, c4, rfl, hN4, hl4⟩
      have hs4 : w2.heap.size ≤ w4.heap.size := (((((Kept.refl w2).drew.alloc _).trans hk3).alloc _).trans hk4).size
      have ht4 := hk4.size
      try simp at ht4
      refine hK.out _ _ ⟨cell_kept (((((Kept.refl w2).drew.alloc _).trans hk3).alloc _).trans hk4) hA0, cell_kept (((((Kept.refl w2).drew.alloc _).trans hk3).alloc _).trans hk4) hA1, cell_kept (((((Kept.refl w2).drew.alloc _).trans hk3).alloc _).trans hk4) hB0, cell_kept (((((Kept.refl w2).drew.alloc _).trans hk3).alloc _).trans hk4) hB1⟩ (fun hHeld => ?_)
      clear hK K
      refine wpAnyH_ready (rs := [4]) (by kernel_rfl) (by simp) ?_
      refine AllReadyH.cons rfl (fun K hK => ?_) AllReadyH.nil
      go_simp
      refine (Divide_any s3 s4 a3 a4 k3 k4 c3 c4 (M.int m a) (M.int n b) _ (hN3.kept (((Kept.refl _).alloc _).trans hk4)) (hN4.kept (Kept.refl _)) (by omega) (by omega) HY.out).mono ?_
      rintro e w5 ⟨hk5, sq, aq, kq, cq, sr, ar, kr, cr, rfl, hNq, hNr, hlq, hlr⟩
      have hs5 : w2.heap.size ≤ w5.heap.size := ((((((Kept.refl w2).drew.alloc _).trans hk3).alloc _).trans hk4).trans hk5).size
      have ht5 := hk5.size
      try simp at ht5
      refine hK.out _ _ ⟨cell_kept ((((((Kept.refl w2).drew.alloc _).trans hk3).alloc _).trans hk4).trans hk5) hA0, cell_kept ((((((Kept.refl w2).drew.alloc _).trans hk3).alloc _).trans hk4).trans hk5) hA1, cell_kept ((((((Kept.refl w2).drew.alloc _).trans hk3).alloc _).trans hk4).trans hk5) hB0, cell_kept ((((((Kept.refl w2).drew.alloc _).trans hk3).alloc _).trans hk4).trans hk5) hB1⟩ (fun hHeld => ?_)
      clear hK K
      refine wpAnyH_take (i := 5) (v := ?v5x52) rfl (by kernel_rfl) (by kernel_rfl) (by kernel_rfl) (fun _ _ _ h => h) (Or.inl ⟨by rfl, ?y5x52⟩) hHeld ?r5x52
      case y5x52 =>
        intro w' hSw
        obtain ⟨hSw0, hSw1, hSw2, hSw3⟩ := hSw
        go_simp
        with_reducible rfl
      case r5x52 =>
      refine wpAnyH_take (i := 6) (v := ?v6x53) rfl (by kernel_rfl) (by kernel_rfl) (by kernel_rfl) (fun _ _ _ h => h) (Or.inl ⟨by rfl, ?y6x53⟩) hHeld ?r6x53
      case y6x53 =>
        intro w' hSw
        obtain ⟨hSw0, hSw1, hSw2, hSw3⟩ := hSw
        go_simp
        with_reducible rfl
      case r6x53 =>
      refine wpAnyH_take (i := 7) (v := ?v7x54) rfl (by kernel_rfl) (by kernel_rfl) (by kernel_rfl) (fun _ _ _ h => h) (Or.inl ⟨by rfl, ?y7x54⟩) hHeld ?r7x54
      case y7x54 =>
        intro w' hSw
        obtain ⟨hSw0, hSw1, hSw2, hSw3⟩ := hSw
        go_simp
        with_reducible rfl
      case r7x54 =>
      have hz80 : w5.cell? ⟨w3.heap.size, 0, none⟩ = some (.bool false) := cell_kept (((Kept.refl _).trans hk4).trans hk5) (World.cell?_alloc_at _ _ _ _ (by simp))
      have hg80 : w5.frozen? ⟨w3.heap.size, 0, none⟩ = false := ((((Kept.refl _).trans hk4).trans hk5).frozens _ _ (by simp)).trans (World.frozen?_alloc_at _ _ _ _ (by simp))
      have hz81 : w5.cell? ⟨w3.heap.size, 1, none⟩ = some (.slice none 0 0) := cell_kept (((Kept.refl _).trans hk4).trans hk5) (World.cell?_alloc_at _ _ _ _ (by simp))
      have hg81 : w5.frozen? ⟨w3.heap.size, 1, none⟩ = false := ((((Kept.refl _).trans hk4).trans hk5).frozens _ _ (by simp)).trans (World.frozen?_alloc_at _ _ _ _ (by simp))
      have hz90 : w5.cell? ⟨w2.heap.size, 0, none⟩ = some (.bool false) := cell_kept (((((Kept.refl _).trans hk3).alloc _).trans hk4).trans hk5) (World.cell?_alloc_at _ _ _ _ (by simp))
      have hg90 : w5.frozen? ⟨w2.heap.size, 0, none⟩ = false := ((((((Kept.refl _).trans hk3).alloc _).trans hk4).trans hk5).frozens _ _ (by simp)).trans (World.frozen?_alloc_at _ _ _ _ (by simp))
      have hz91 : w5.cell? ⟨w2.heap.size, 1, none⟩ = some (.slice none 0 0) := cell_kept (((((Kept.refl _).trans hk3).alloc _).trans hk4).trans hk5) (World.cell?_alloc_at _ _ _ _ (by simp))
      have hg91 : w5.frozen? ⟨w2.heap.size, 1, none⟩ = false := ((((((Kept.refl _).trans hk3).alloc _).trans hk4).trans hk5).frozens _ _ (by simp)).trans (World.frozen?_alloc_at _ _ _ _ (by simp))
      obtain ⟨p8, hp⟩ : ∃ p, p = w3.heap.size := ⟨_, rfl⟩
      obtain ⟨p9, hq⟩ : ∃ p, p = w2.heap.size := ⟨_, rfl⟩
      have hp8 : w2.heap.size ≤ p8 := by omega
      have hp9 : w2.heap.size ≤ p9 := by omega
      have hne : ¬ (p8 = p9) := by omega
      have hne' : ¬ (p9 = p8) := by omega
      rw [← hp] at hz80 hz81 hg80 hg81 ⊢
      rw [← hq] at hz90 hz91 hg90 hg91 ⊢
      clear hp hq
      have hKT : Kept w2 w5 := ((((((Kept.refl w2).drew.alloc _).trans hk3).alloc _).trans hk4).trans hk5)
      have ghA0 := cell_kept hKT hA0
      have ghA1 := cell_kept hKT hA1
      have ghB0 := cell_kept hKT hB0
      have ghB1 := cell_kept hKT hB1
      have HN : Hid (NIs w5 sq (.slice aq kq cq) (Int.tdiv (M.int m a) (M.int n b)) ∧ NIs w5 sr (.slice ar kr cr) (Int.tmod (M.int m a) (M.int n b)) ∧ Kept w2 w5) := ⟨hNq.kept (Kept.refl _), hNr.kept (Kept.refl _), hKT⟩
      clear hN3 hN4 hNq hNr hk3 hk4 hk5 hHeld hKT
      generalize w5 = Wx at ghA0 ghA1 ghB0 ghB1 hz80 hz81 hz90 hz91 hg80 hg81 hg90 hg91 HN ⊢
      refine wpAnyH_ready (rs := [10]) (by kernel_rfl) (by simp) ?_
      refine AllReadyH.cons rfl (fun K hK => ?_) AllReadyH.nil
      go_simp
      refine hK.out _ _ ⟨set2_far (p := p8) ghA0 (by omega), set2_far (p := p8) ghA1 (by omega), set2_far (p := p8) ghB0 (by omega), set2_far (p := p8) ghB1 (by omega)⟩ (fun hHeld => ?_)
      clear hK K
      refine wpAnyH_ready (rs := [11]) (by kernel_rfl) (by simp) ?_
      refine AllReadyH.cons rfl (fun K hK => ?_) AllReadyH.nil
      go_simp
      refine hK.out _ _ ⟨set2_far (p := p9) (set2_far (p := p8) ghA0 (by omega)) (by omega), set2_far (p := p9) (set2_far (p := p8) ghA1 (by omega)) (by omega), set2_far (p := p9) (set2_far (p := p8) ghB0 (by omega)) (by omega), set2_far (p := p9) (set2_far (p := p8) ghB1 (by omega)) (by omega)⟩ (fun hHeld => ?_)
      clear hK K
      refine wpAnyH_done (by kernel_rfl) ?_ _
      go_wp2_with fail
      go_meet
      case rel =>
        have e8 := set2_at (x := .bool sq) (y := .slice aq kq cq) hz80 hz81
        have z90 := set2_far (x := .bool sq) (y := .slice aq kq cq) hz90 hne
        have z91 := set2_far (x := .bool sq) (y := .slice aq kq cq) hz91 hne
        have e9 := set2_at (x := .bool sr) (y := .slice ar kr cr) z90 z91
        exact ⟨p8, p9, sq, sr, aq, ar, kq, kr, cq, cr, rfl, rfl, set2_far e8.1 hne', set2_far e8.2 hne', e9.1, e9.2, by omega, by omega, (((HN.out.2.2.setCell hp8 _).setCell hp8 _).setCell hp9 _).setCell hp9 _, (HN.out.1.box2 hz80 hz81 _ _).box2 z90 z91 _ _, (HN.out.2.1.box2 hz80 hz81 _ _).box2 z90 z91 _ _⟩
    refine AllReadyH.cons rfl (fun K hK => ?_) AllReadyH.nil
    go_simp
    refine hK.out _ _ ⟨cell_kept (((Kept.refl w2).drew.alloc _).alloc _) hA0, cell_kept (((Kept.refl w2).drew.alloc _).alloc _) hA1, cell_kept (((Kept.refl w2).drew.alloc _).alloc _) hB0, cell_kept (((Kept.refl w2).drew.alloc _).alloc _) hB1⟩ (fun hHeld => ?_)
    clear hK K
    refine wpAnyH_ready (rs := [1]) (by kernel_rfl) (by simp) ?_
    refine AllReadyH.cons rfl (fun K hK => ?_) AllReadyH.nil
    go_simp
    refine (Take_any m aoa ka capa a _ (HA.out.1.kept (HK2.out.trans (((Kept.refl w2).drew.alloc _).alloc _))) (by omega)).mono ?_
    rintro e w3 ⟨hk3, s3, a3, k3, c3, rfl, hN3, hl3⟩
    have hs3 : w2.heap.size ≤ w3.heap.size := ((((Kept.refl w2).drew.alloc _).alloc _).trans hk3).size
    have ht3 := hk3.size
    try simp at ht3
    refine hK.out _ _ ⟨cell_kept ((((Kept.refl w2).drew.alloc _).alloc _).trans hk3) hA0, cell_kept ((((Kept.refl w2).drew.alloc _).alloc _).trans hk3) hA1, cell_kept ((((Kept.refl w2).drew.alloc _).alloc _).trans hk3) hB0, cell_kept ((((Kept.refl w2).drew.alloc _).alloc _).trans hk3) hB1⟩ (fun hHeld => ?_)
    clear hK K
    refine wpAnyH_ready (rs := [3]) (by kernel_rfl) (by simp) ?_
    refine AllReadyH.cons rfl (fun K hK => ?_) AllReadyH.nil
    go_simp
    refine (Take_any n aob kb capb b _ (HB.out.1.kept (HK2.out.trans ((((Kept.refl w2).drew.alloc _).alloc _).trans hk3))) (by omega)).mono ?_
    rintro e w4 ⟨hk4, s4, a4, k4, c4, rfl, hN4, hl4⟩
    have hs4 : w2.heap.size ≤ w4.heap.size := (((((Kept.refl w2).drew.alloc _).alloc _).trans hk3).trans hk4).size
    have ht4 := hk4.size
    try simp at ht4
    refine hK.out _ _ ⟨cell_kept (((((Kept.refl w2).drew.alloc _).alloc _).trans hk3).trans hk4) hA0, cell_kept (((((Kept.refl w2).drew.alloc _).alloc _).trans hk3).trans hk4) hA1, cell_kept (((((Kept.refl w2).drew.alloc _).alloc _).trans hk3).trans hk4) hB0, cell_kept (((((Kept.refl w2).drew.alloc _).alloc _).trans hk3).trans hk4) hB1⟩ (fun hHeld => ?_)
    clear hK K
    refine wpAnyH_ready (rs := [4]) (by kernel_rfl) (by simp) ?_
    refine AllReadyH.cons rfl (fun K hK => ?_) AllReadyH.nil
    go_simp
    refine (Divide_any s3 s4 a3 a4 k3 k4 c3 c4 (M.int m a) (M.int n b) _ (hN3.kept ((Kept.refl _).trans hk4)) (hN4.kept (Kept.refl _)) (by omega) (by omega) HY.out).mono ?_
    rintro e w5 ⟨hk5, sq, aq, kq, cq, sr, ar, kr, cr, rfl, hNq, hNr, hlq, hlr⟩
    have hs5 : w2.heap.size ≤ w5.heap.size := ((((((Kept.refl w2).drew.alloc _).alloc _).trans hk3).trans hk4).trans hk5).size
    have ht5 := hk5.size
    try simp at ht5
    refine hK.out _ _ ⟨cell_kept ((((((Kept.refl w2).drew.alloc _).alloc _).trans hk3).trans hk4).trans hk5) hA0, cell_kept ((((((Kept.refl w2).drew.alloc _).alloc _).trans hk3).trans hk4).trans hk5) hA1, cell_kept ((((((Kept.refl w2).drew.alloc _).alloc _).trans hk3).trans hk4).trans hk5) hB0, cell_kept ((((((Kept.refl w2).drew.alloc _).alloc _).trans hk3).trans hk4).trans hk5) hB1⟩ (fun hHeld => ?_)
    clear hK K
    refine wpAnyH_take (i := 5) (v := ?v5x55) rfl (by kernel_rfl) (by kernel_rfl) (by kernel_rfl) (fun _ _ _ h => h) (Or.inl ⟨by rfl, ?y5x55⟩) hHeld ?r5x55
    case y5x55 =>
      intro w' hSw
      obtain ⟨hSw0, hSw1, hSw2, hSw3⟩ := hSw
      go_simp
      with_reducible rfl
    case r5x55 =>
    refine wpAnyH_take (i := 6) (v := ?v6x56) rfl (by kernel_rfl) (by kernel_rfl) (by kernel_rfl) (fun _ _ _ h => h) (Or.inl ⟨by rfl, ?y6x56⟩) hHeld ?r6x56
    case y6x56 =>
      intro w' hSw
      obtain ⟨hSw0, hSw1, hSw2, hSw3⟩ := hSw
      go_simp
      with_reducible rfl
    case r6x56 =>
    refine wpAnyH_take (i := 7) (v := ?v7x57) rfl (by kernel_rfl) (by kernel_rfl) (by kernel_rfl) (fun _ _ _ h => h) (Or.inl ⟨by rfl, ?y7x57⟩) hHeld ?r7x57
    case y7x57 =>
      intro w' hSw
      obtain ⟨hSw0, hSw1, hSw2, hSw3⟩ := hSw
      go_simp
      with_reducible rfl
    case r7x57 =>
    have hz80 : w5.cell? ⟨w2.heap.size + 1, 0, none⟩ = some (.bool false) := cell_kept ((((Kept.refl _).trans hk3).trans hk4).trans hk5) (World.cell?_alloc_at _ _ _ _ (by simp))
    have hg80 : w5.frozen? ⟨w2.heap.size + 1, 0, none⟩ = false := (((((Kept.refl _).trans hk3).trans hk4).trans hk5).frozens _ _ (by simp)).trans (World.frozen?_alloc_at _ _ _ _ (by simp))
    have hz81 : w5.cell? ⟨w2.heap.size + 1, 1, none⟩ = some (.slice none 0 0) := cell_kept ((((Kept.refl _).trans hk3).trans hk4).trans hk5) (World.cell?_alloc_at _ _ _ _ (by simp))
    have hg81 : w5.frozen? ⟨w2.heap.size + 1, 1, none⟩ = false := (((((Kept.refl _).trans hk3).trans hk4).trans hk5).frozens _ _ (by simp)).trans (World.frozen?_alloc_at _ _ _ _ (by simp))
    have hz90 : w5.cell? ⟨w2.heap.size, 0, none⟩ = some (.bool false) := cell_kept (((((Kept.refl _).alloc _).trans hk3).trans hk4).trans hk5) (World.cell?_alloc_at _ _ _ _ (by simp))
    have hg90 : w5.frozen? ⟨w2.heap.size, 0, none⟩ = false := ((((((Kept.refl _).alloc _).trans hk3).trans hk4).trans hk5).frozens _ _ (by simp)).trans (World.frozen?_alloc_at _ _ _ _ (by simp))
    have hz91 : w5.cell? ⟨w2.heap.size, 1, none⟩ = some (.slice none 0 0) := cell_kept (((((Kept.refl _).alloc _).trans hk3).trans hk4).trans hk5) (World.cell?_alloc_at _ _ _ _ (by simp))
    have hg91 : w5.frozen? ⟨w2.heap.size, 1, none⟩ = false := ((((((Kept.refl _).alloc _).trans hk3).trans hk4).trans hk5).frozens _ _ (by simp)).trans (World.frozen?_alloc_at _ _ _ _ (by simp))
    obtain ⟨p8, hp⟩ : ∃ p, p = w2.heap.size + 1 := ⟨_, rfl⟩
    obtain ⟨p9, hq⟩ : ∃ p, p = w2.heap.size := ⟨_, rfl⟩
    have hp8 : w2.heap.size ≤ p8 := by omega
    have hp9 : w2.heap.size ≤ p9 := by omega
    have hne : ¬ (p8 = p9) := by omega
    have hne' : ¬ (p9 = p8) := by omega
    rw [← hp] at hz80 hz81 hg80 hg81 ⊢
    rw [← hq] at hz90 hz91 hg90 hg91 ⊢
    clear hp hq
    have hKT : Kept w2 w5 := ((((((Kept.refl w2).drew.alloc _).alloc _).trans hk3).trans hk4).trans hk5)
    have ghA0 := cell_kept hKT hA0
    have ghA1 := cell_kept hKT hA1
    have ghB0 := cell_kept hKT hB0
    have ghB1 := cell_kept hKT hB1
    have HN : Hid (NIs w5 sq (.slice aq kq cq) (Int.tdiv (M.int m a) (M.int n b)) ∧ NIs w5 sr (.slice ar kr cr) (Int.tmod (M.int m a) (M.int n b)) ∧ Kept w2 w5) := ⟨hNq.kept (Kept.refl _), hNr.kept (Kept.refl _), hKT⟩
    clear hN3 hN4 hNq hNr hk3 hk4 hk5 hHeld hKT
    generalize w5 = Wx at ghA0 ghA1 ghB0 ghB1 hz80 hz81 hz90 hz91 hg80 hg81 hg90 hg91 HN ⊢
    refine wpAnyH_ready (rs := [10]) (by kernel_rfl) (by simp) ?_
    refine AllReadyH.cons rfl (fun K hK => ?_) AllReadyH.nil
    go_simp
    refine hK.out _ _ ⟨set2_far (p := p8) ghA0 (by omega), set2_far (p := p8) ghA1 (by omega), set2_far (p := p8) ghB0 (by omega), set2_far (p := p8) ghB1 (by omega)⟩ (fun hHeld => ?_)
    clear hK K
    refine wpAnyH_ready (rs := [11]) (by kernel_rfl) (by simp) ?_
    refine AllReadyH.cons rfl (fun K hK => ?_) AllReadyH.nil
    go_simp
    refine hK.out _ _ ⟨set2_far (p := p9) (set2_far (p := p8) ghA0 (by omega)) (by omega), set2_far (p := p9) (set2_far (p := p8) ghA1 (by omega)) (by omega), set2_far (p := p9) (set2_far (p := p8) ghB0 (by omega)) (by omega), set2_far (p := p9) (set2_far (p := p8) ghB1 (by omega)) (by omega)⟩ (fun hHeld => ?_)
    clear hK K
    refine wpAnyH_done (by kernel_rfl) ?_ _
    go_wp2_with fail
    go_meet
    case rel =>
      have e8 := set2_at (x := .bool sq) (y := .slice aq kq cq) hz80 hz81
      have z90 := set2_far (x := .bool sq) (y := .slice aq kq cq) hz90 hne
      have z91 := set2_far (x := .bool sq) (y := .slice aq kq cq) hz91 hne
      have e9 := set2_at (x := .bool sr) (y := .slice ar kr cr) z90 z91
      exact ⟨p8, p9, sq, sr, aq, ar, kq, kr, cq, cr, rfl, rfl, set2_far e8.1 hne', set2_far e8.2 hne', e9.1, e9.2, by omega, by omega, (((HN.out.2.2.setCell hp8 _).setCell hp8 _).setCell hp9 _).setCell hp9 _, (HN.out.1.box2 hz80 hz81 _ _).box2 z90 z91 _ _, (HN.out.2.1.box2 hz80 hz81 _ _).box2 z90 z91 _ _⟩

  case rest =>
    obtain ⟨p8, p9, sq, sr, aq, ar, kq, kr, cq, cr, rfl, rfl, h80, h81, h90, h91, hkql, hkrl, hcc⟩ := hcut
    have HC : Hid (Kept w2 wc ∧ NIs wc sq (.slice aq kq cq) (Int.tdiv (M.int m a) (M.int n b)) ∧ NIs wc sr (.slice ar kr cr) (Int.tmod (M.int m a) (M.int n b))) := hcc
    have hR0 := cell_kept HC.out.1 hR0
    have hR1 := cell_kept HC.out.1 hR1
    have hS0 := cell_kept HC.out.1 hS0
    have hS1 := cell_kept HC.out.1 hS1
    have hfR : ∀ j, wc.frozen? ⟨w.heap.size + 1 + 1, j, none⟩ = false := fun j => by rw [HC.out.1.frozens _ _ (by omega)]; exact hfR j
    have hfS : ∀ j, wc.frozen? ⟨w.heap.size + 1 + 1 + 1, j, none⟩ = false := fun j => by rw [HC.out.1.frozens _ _ (by omega)]; exact hfS j
    have HKc : Hid (Kept w wc) := HK2.out.trans HC.out.1
    have hzc : w.heap.size + 1 + 1 + 1 + 1 ≤ wc.heap.size := Nat.le_trans hz2 HC.out.1.size
    have HW : Hid (∀ W, Kept wc W → W.cell? ⟨p9, 0, none⟩ = some (.bool sr) ∧ W.cell? ⟨p9, 1, none⟩ = some (.slice ar kr cr) ∧ W.cell? ⟨w.heap.size + 1 + 1, 0, none⟩ = some (.bool false) ∧ W.cell? ⟨w.heap.size + 1 + 1, 1, none⟩ = some (.slice none 0 0) ∧ W.cell? ⟨w.heap.size + 1 + 1 + 1, 0, none⟩ = some (.bool false) ∧ W.cell? ⟨w.heap.size + 1 + 1 + 1, 1, none⟩ = some (.slice none 0 0) ∧ (∀ j, W.frozen? ⟨w.heap.size + 1 + 1, j, none⟩ = false) ∧ (∀ j, W.frozen? ⟨w.heap.size + 1 + 1 + 1, j, none⟩ = false)) := fun W hk => ⟨cell_kept hk h90, cell_kept hk h91, cell_kept hk hR0, cell_kept hk hR1, cell_kept hk hS0, cell_kept hk hS1, fun j => by rw [hk.frozens _ _ (by omega)]; exact hfR j, fun j => by rw [hk.frozens _ _ (by omega)]; exact hfS j⟩
    clear hcc hR0 hR1 hS0 hS1 hfR hfS hA0 hA1 hB0 hB1
    go_wp2_with fail
    go_region_with (first
      | (go_at_call_of 27 (Value.slice aq kq cq); refine (Give_int sq aq kq cq _ _ (HC.out.2.1.kept (Kept.refl wc).drew) (by omega)).mono ?_; rintro e w3 ⟨hk3, a3, n3, c3, q, rfl, hn3, ht3, hi3, hq3⟩; obtain ⟨hr0, hr1, _⟩ := HW.out _ ((Kept.refl wc).drew.trans hk3))
      | (go_at_call_of 27 (Value.slice ar kr cr); refine (Give_int sr ar kr cr _ _ (HC.out.2.2.kept ((Kept.refl wc).drew.trans hk3)) (by omega)).mono ?_; rintro e w4 ⟨hk4, a4, n4, c4, r, rfl, hn4, ht4, hi4, hr4⟩; obtain ⟨_, _, hR0, hR1, hS0, hS1, hfR, hfS⟩ := HW.out _ (((Kept.refl wc).drew.trans hk3).trans hk4)))
    all_goals
      have HF : Hid (Kept w w4 ∧ Go.Proofs.YthijnnififodjaaDoor.New (w.heap.size + 1 + 1 + 1 + 1) w4 (.slice a3 n3 c3) q ∧ Go.Proofs.YthijnnififodjaaDoor.New (w.heap.size + 1 + 1 + 1 + 1) w4 (.slice a4 n4 c4) r ∧ M.Bd q ∧ M.Tr q ∧ M.Bd r ∧ M.Tr r ∧ M.int sq q = Int.tdiv (M.int m a) (M.int n b) ∧ M.int sr r = Int.tmod (M.int m a) (M.int n b) ∧ (q = [] → sq = false) ∧ (r = [] → sr = false)) := by
        have hs3 : w.heap.size + 1 + 1 + 1 + 1 ≤ w3.heap.size := Nat.le_trans hzc ((Kept.refl wc).drew.trans hk3).size
        exact ⟨HKc.out.trans (((Kept.refl wc).drew.trans hk3).trans hk4), (hn3.kept hk4).mono hzc, hn4.mono hs3, hn3.1, ht3, hn4.1, ht4, hi3, hi4, hq3, hr4⟩
      clear hk3 hk4 hn3 hn4 ht3 ht4 hi3 hi4 hq3 hr4 hr0 hr1 HW
      go_wp2
      refine bodyPost_ret (v := .tuple #[.agg #[.bool sq, .slice a3 n3 c3], .agg #[.bool sr, .slice a4 n4 c4], .int .i64 0]) (by simp [results, Tryd.results9, go_sem, hR0, hR1, hS0, hS1]) rfl ⟨?_, sq, a3, n3, c3, q, sr, a4, n4, c4, r, rfl, ?_, ?_, HF.out.2.2.2⟩
      · exact (((HF.out.1.setCell (by simp; omega) _).setCell (by simp; omega) _).setCell (by simp; omega) _).setCell (by simp; omega) _
      · exact ((((HF.out.2.1.other (by simp) _).other (by simp) _).other (by simp) _).other (by simp) _).mono (by omega)
      · exact ((((HF.out.2.2.1.other (by simp) _).other (by simp) _).other (by simp) _).other (by simp) _).mono (by omega)

end D
end Go.Proofs.YthijnnififodjaaDoor
