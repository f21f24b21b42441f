/- LimbParts: the walk of the statement itself: numbers of up to 80 limbs. -/
import Derived.Test.YthijnnififodjaaDoorBparts
import Derived.Test.YthijnnififodjaaDoorGh
namespace Go.Proofs.YthijnnififodjaaDoor
open Go.RowKit
open D (set2_far set2_at)

set_option maxRecDepth 100000 in
set_option maxHeartbeats 4000000 in
theorem lparts_main (ma mb : Bool) (aa ab : Option Addr) (ca cb : Nat) (a b : List Nat) (w : World) (ha : Sl w (.slice aa a.length ca) a) (hb : Sl w (.slice ab b.length cb) b) (hla : a.length ≤ 80) (hlb : b.length ≤ 80) :
    Calls Tryd.prog 3 #[.agg #[.bool ma, .slice aa a.length ca], .agg #[.bool mb, .slice ab b.length cb]] w fun e w' => e = .returned (.bool true) ∧ Kept w w' := by
  obtain ⟨sq, lq, sr, lr, cq, hlq, hlr, H1, T1⟩ := quo_both ma mb a b hla hlb
  obtain ⟨se, le, ce, hle, H2, T2⟩ := exact_both ma mb a b hla hlb
  obtain ⟨sg, lg, cg, hlg, H3, T3⟩ := gcd_both ma mb a b hla hlb
  have HA0 : Hid (Sl w (.slice aa a.length ca) a ∧ Sl w (.slice ab b.length cb) b) := ⟨ha, hb⟩
  clear ha hb
  go_enter Tryd.func3, Tryd.ntmps3
  go_wp2_with fail
  refine (awake_yes _).mono ?_
  rintro e w1 ⟨rfl, hk1⟩
  obtain ⟨hA0, hA1, hB0, hB1⟩ := box_kept2 hk1
  have HK1 : Hid (Kept w w1) := (((Kept.refl w).alloc _).alloc _).trans hk1
  have hz1 : w.heap.size + 1 + 1 ≤ w1.heap.size := by have := hk1.size; simpa using this
  clear hk1
  go_wp2_with fail
  refine (long_any ma aa a.length ca _ (by omega)).mono ?_
  rintro e w2 ⟨rfl, hk2⟩
  rw [decide_eq_false (by omega)]
  replace hA0 := cell_kept hk2 hA0
  replace hA1 := cell_kept hk2 hA1
  replace hB0 := cell_kept hk2 hB0
  replace hB1 := cell_kept hk2 hB1
  have HK2 : Hid (Kept w w2) := HK1.out.trans hk2
  have hz2 : w.heap.size + 1 + 1 ≤ w2.heap.size := Nat.le_trans hz1 hk2.size
  clear hk2
  go_wp2_with fail
  refine (long_any mb ab b.length cb _ (by omega)).mono ?_
  rintro e w3 ⟨rfl, hk3⟩
  rw [decide_eq_false (by omega)]
  replace hA0 := cell_kept hk3 hA0
  replace hA1 := cell_kept hk3 hA1
  replace hB0 := cell_kept hk3 hB0
  replace hB1 := cell_kept hk3 hB1
  have HK3 : Hid (Kept w w3) := HK2.out.trans hk3
  have hz3 : w.heap.size + 1 + 1 ≤ w3.heap.size := Nat.le_trans hz2 hk3.size
  have HA3 : Hid (Sl w3 (.slice aa a.length ca) a) := HA0.out.1.kept HK3.out
  have HB3 : Hid (Sl w3 (.slice ab b.length cb) b) := HA0.out.2.kept HK3.out
  clear hk3
  go_upto_region 5 with fail
  go_cut [5, 6] (fun s5 s6 wc => ∃ (p5 p6 bx by_ cx cy : Nat), s5 = .pointer (some ⟨p5, 0, none⟩) ∧ s6 = .pointer (some ⟨p6, 0, none⟩) ∧ wc.cell? ⟨p5, 0, none⟩ = some (.bool ma) ∧ wc.cell? ⟨p5, 1, none⟩ = some (.slice (some ⟨bx, 0, none⟩) a.length cx) ∧ wc.cell? ⟨p6, 0, none⟩ = some (.bool mb) ∧ wc.cell? ⟨p6, 1, none⟩ = some (.slice (some ⟨by_, 0, none⟩) b.length cy) ∧ Hid (Kept w3 wc ∧ Lent w3.heap.size wc bx a.length cx a ∧ Lent w3.heap.size wc by_ b.length cy b))
  case first =>
    refine wp_region_held_drew (S := fun w' => w'.cell? ⟨w.heap.size, 0, none⟩ = some (.bool ma) ∧ w'.cell? ⟨w.heap.size, 1, none⟩ = some (.slice aa a.length ca) ∧ w'.cell? ⟨w.heap.size + 1, 0, none⟩ = some (.bool mb) ∧ w'.cell? ⟨w.heap.size + 1, 1, none⟩ = some (.slice ab b.length cb)) (by kernel_rfl) ⟨hA0, hA1, hB0, hB1⟩ (fun hHeld => ?_)
    refine wpAnyH_take (i := 0) (v := ?v0) rfl (by kernel_rfl) (by kernel_rfl) (by kernel_rfl) (fun _ _ _ h => h) (Or.inl ⟨by rfl, ?y0⟩) hHeld ?r0
    case y0 =>
      intro w' hSw
      obtain ⟨hSw0, hSw1, hSw2, hSw3⟩ := hSw
      go_simp
      with_reducible rfl
    case r0 =>
    refine wpAnyH_take (i := 2) (v := ?v2) rfl (by kernel_rfl) (by kernel_rfl) (by kernel_rfl) (fun _ _ _ h => h) (Or.inl ⟨by rfl, ?y2⟩) hHeld ?r2
    case y2 =>
      intro w' hSw
      obtain ⟨hSw0, hSw1, hSw2, hSw3⟩ := hSw
      go_simp
      with_reducible rfl
    case r2 =>
    refine wpAnyH_ready (rs := [1, 4, 5]) (by kernel_rfl) (by simp) ?_
    refine AllReadyH.cons rfl (fun K hK => ?_) ?_
    · go_simp
      refine (lent_any ma aa a.length ca a _ (HA3.out.kept (Kept.refl w3).drew) hla).mono ?_
      rintro e w4 ⟨hk4, bx, cx, rfl, hX⟩
      have hs4 : w3.heap.size ≤ w4.heap.size := ((Kept.refl w3).drew.trans hk4).size
      have ht4 := hk4.size
      try simp at ht4
      have hX := hX.mono ((Kept.refl w3).drew).size
      refine hK.out _ _ ⟨cell_kept ((Kept.refl w3).drew.trans hk4) hA0, cell_kept ((Kept.refl w3).drew.trans hk4) hA1, cell_kept ((Kept.refl w3).drew.trans hk4) hB0, cell_kept ((Kept.refl w3).drew.trans hk4) hB1⟩ (fun hHeld => ?_)
      clear hK K
      refine wpAnyH_ready (rs := [3, 4, 5]) (by kernel_rfl) (by simp) ?_
      refine AllReadyH.cons rfl (fun K hK => ?_) ?_
      · go_simp
        refine (lent_any mb ab b.length cb b _ (HB3.out.kept ((Kept.refl w3).drew.trans hk4)) hlb).mono ?_
        rintro e w5 ⟨hk5, by_, cy, rfl, hY⟩
        have hs5 : w3.heap.size ≤ w5.heap.size := (((Kept.refl w3).drew.trans hk4).trans hk5).size
        have ht5 := hk5.size
        try simp at ht5
        have hY := hY.mono (((Kept.refl w3).drew.trans hk4)).size
        refine hK.out _ _ ⟨cell_kept (((Kept.refl w3).drew.trans hk4).trans hk5) hA0, cell_kept (((Kept.refl w3).drew.trans hk4).trans hk5) hA1, cell_kept (((Kept.refl w3).drew.trans hk4).trans hk5) hB0, cell_kept (((Kept.refl w3).drew.trans hk4).trans hk5) hB1⟩ (fun hHeld => ?_)
        clear hK K
        refine wpAnyH_ready (rs := [4, 5]) (by kernel_rfl) (by simp) ?_
        refine AllReadyH.cons rfl (fun K hK => ?_) ?_
        · go_simp
          refine hK.out _ _ ⟨cell_kept ((((Kept.refl w3).drew.trans hk4).trans hk5).alloc _) hA0, cell_kept ((((Kept.refl w3).drew.trans hk4).trans hk5).alloc _) hA1, cell_kept ((((Kept.refl w3).drew.trans hk4).trans hk5).alloc _) hB0, cell_kept ((((Kept.refl w3).drew.trans hk4).trans hk5).alloc _) hB1⟩ (fun hHeld => ?_)
          clear hK K
          refine wpAnyH_ready (rs := [5]) (by kernel_rfl) (by simp) ?_
          refine AllReadyH.cons rfl (fun K hK => ?_) AllReadyH.nil
          go_simp
          refine hK.out _ _ ⟨cell_kept (((((Kept.refl w3).drew.trans hk4).trans hk5).alloc _).alloc _) hA0, cell_kept (((((Kept.refl w3).drew.trans hk4).trans hk5).alloc _).alloc _) hA1, cell_kept (((((Kept.refl w3).drew.trans hk4).trans hk5).alloc _).alloc _) hB0, cell_kept (((((Kept.refl w3).drew.trans hk4).trans hk5).alloc _).alloc _) hB1⟩ (fun hHeld => ?_)
          clear hK K
          have hz80 : ((w5.alloc (Obj.cells #[.bool false, .slice none 0 0] 24)).alloc (Obj.cells #[.bool false, .slice none 0 0] 24)).cell? ⟨w5.heap.size, 0, none⟩ = some (.bool false) := cell_kept ((Kept.refl _).alloc _) (World.cell?_alloc_at _ _ _ _ (by simp))
          have hg80 : ((w5.alloc (Obj.cells #[.bool false, .slice none 0 0] 24)).alloc (Obj.cells #[.bool false, .slice none 0 0] 24)).frozen? ⟨w5.heap.size, 0, none⟩ = false := (((Kept.refl _).alloc _).frozens _ _ (by simp)).trans (World.frozen?_alloc_at _ _ _ _ (by simp))
          have hz81 : ((w5.alloc (Obj.cells #[.bool false, .slice none 0 0] 24)).alloc (Obj.cells #[.bool false, .slice none 0 0] 24)).cell? ⟨w5.heap.size, 1, none⟩ = some (.slice none 0 0) := cell_kept ((Kept.refl _).alloc _) (World.cell?_alloc_at _ _ _ _ (by simp))
          have hg81 : ((w5.alloc (Obj.cells #[.bool false, .slice none 0 0] 24)).alloc (Obj.cells #[.bool false, .slice none 0 0] 24)).frozen? ⟨w5.heap.size, 1, none⟩ = false := (((Kept.refl _).alloc _).frozens _ _ (by simp)).trans (World.frozen?_alloc_at _ _ _ _ (by simp))
          have hz90 : ((w5.alloc (Obj.cells #[.bool false, .slice none 0 0] 24)).alloc (Obj.cells #[.bool false, .slice none 0 0] 24)).cell? ⟨w5.heap.size + 1, 0, none⟩ = some (.bool false) := cell_kept (Kept.refl _) (World.cell?_alloc_at _ _ _ _ (by simp))
          have hg90 : ((w5.alloc (Obj.cells #[.bool false, .slice none 0 0] 24)).alloc (Obj.cells #[.bool false, .slice none 0 0] 24)).frozen? ⟨w5.heap.size + 1, 0, none⟩ = false := ((Kept.refl _).frozens _ _ (by simp)).trans (World.frozen?_alloc_at _ _ _ _ (by simp))
          have hz91 : ((w5.alloc (Obj.cells #[.bool false, .slice none 0 0] 24)).alloc (Obj.cells #[.bool false, .slice none 0 0] 24)).cell? ⟨w5.heap.size + 1, 1, none⟩ = some (.slice none 0 0) := cell_kept (Kept.refl _) (World.cell?_alloc_at _ _ _ _ (by simp))
          have hg91 : ((w5.alloc (Obj.cells #[.bool false, .slice none 0 0] 24)).alloc (Obj.cells #[.bool false, .slice none 0 0] 24)).frozen? ⟨w5.heap.size + 1, 1, none⟩ = false := ((Kept.refl _).frozens _ _ (by simp)).trans (World.frozen?_alloc_at _ _ _ _ (by simp))
          obtain ⟨p8, hp⟩ : ∃ p, p = w5.heap.size := ⟨_, rfl⟩
          obtain ⟨p9, hq⟩ : ∃ p, p = w5.heap.size + 1 := ⟨_, rfl⟩
          have hp8 : w3.heap.size ≤ p8 := by omega
          have hp9 : w3.heap.size ≤ p9 := by omega
          have hne : ¬ (p8 = p9) := by omega
          have hne' : ¬ (p9 = p8) := by omega
          rw [← hq] at hz90 hz91 hg90 hg91 ⊢
          rw [← hp] at hz80 hz81 hg80 hg81 ⊢
          clear hp hq
          have hKT : Kept w3 ((w5.alloc (Obj.cells #[.bool false, .slice none 0 0] 24)).alloc (Obj.cells #[.bool false, .slice none 0 0] 24)) := (((((Kept.refl w3).drew.trans hk4).trans hk5).alloc _).alloc _)
          have ghA0 := cell_kept hKT hA0
          have ghA1 := cell_kept hKT hA1
          have ghB0 := cell_kept hKT hB0
          have ghB1 := cell_kept hKT hB1
          have HN : Hid (Lent w3.heap.size ((w5.alloc (Obj.cells #[.bool false, .slice none 0 0] 24)).alloc (Obj.cells #[.bool false, .slice none 0 0] 24)) bx a.length cx a ∧ Lent w3.heap.size ((w5.alloc (Obj.cells #[.bool false, .slice none 0 0] 24)).alloc (Obj.cells #[.bool false, .slice none 0 0] 24)) by_ b.length cy b ∧ Kept w3 ((w5.alloc (Obj.cells #[.bool false, .slice none 0 0] 24)).alloc (Obj.cells #[.bool false, .slice none 0 0] 24))) := ⟨hX.kept ((((Kept.refl _).trans hk5).alloc _).alloc _), hY.kept (((Kept.refl _).alloc _).alloc _), hKT⟩
          clear hX hY hk4 hk5 hHeld hKT
          generalize ((w5.alloc (Obj.cells #[.bool false, .slice none 0 0] 24)).alloc (Obj.cells #[.bool false, .slice none 0 0] 24)) = Wx at ghA0 ghA1 ghB0 ghB1 hz80 hz81 hz90 hz91 hg80 hg81 hg90 hg91 HN ⊢
          refine wpAnyH_ready (rs := [6]) (by kernel_rfl) (by simp) ?_
          refine AllReadyH.cons rfl (fun K hK => ?_) AllReadyH.nil
          go_simp
          refine hK.out _ _ ⟨set2_far (p := p8) ghA0 (by omega), set2_far (p := p8) ghA1 (by omega), set2_far (p := p8) ghB0 (by omega), set2_far (p := p8) ghB1 (by omega)⟩ (fun hHeld => ?_)
          clear hK K
          refine wpAnyH_ready (rs := [7]) (by kernel_rfl) (by simp) ?_
          refine AllReadyH.cons rfl (fun K hK => ?_) AllReadyH.nil
          go_simp
          refine hK.out _ _ ⟨set2_far (p := p9) (set2_far (p := p8) ghA0 (by omega)) (by omega), set2_far (p := p9) (set2_far (p := p8) ghA1 (by omega)) (by omega), set2_far (p := p9) (set2_far (p := p8) ghB0 (by omega)) (by omega), set2_far (p := p9) (set2_far (p := p8) ghB1 (by omega)) (by omega)⟩ (fun hHeld => ?_)
          clear hK K
          refine wpAnyH_done (by kernel_rfl) ?_ _
          go_wp2_with fail
          go_meet
          case rel =>
            have e8 := set2_at (x := .bool ma) (y := .slice (some ⟨bx, 0, none⟩) a.length cx) hz80 hz81
            have z90 := set2_far (x := .bool ma) (y := .slice (some ⟨bx, 0, none⟩) a.length cx) hz90 hne
            have z91 := set2_far (x := .bool ma) (y := .slice (some ⟨bx, 0, none⟩) a.length cx) hz91 hne
            have e9 := set2_at (x := .bool mb) (y := .slice (some ⟨by_, 0, none⟩) b.length cy) z90 z91
            exact ⟨p8, p9, bx, by_, cx, cy, rfl, rfl, set2_far e8.1 hne', set2_far e8.2 hne', e9.1, e9.2, (((HN.out.2.2.setCell hp8 _).setCell hp8 _).setCell hp9 _).setCell hp9 _, (HN.out.1.box hz80 _ _).box z90 _ _, (HN.out.2.1.box hz80 _ _).box z90 _ _⟩
        refine AllReadyH.cons rfl (fun K hK => ?_) AllReadyH.nil
        go_simp
        refine hK.out _ _ ⟨cell_kept ((((Kept.refl w3).drew.trans hk4).trans hk5).alloc _) hA0, cell_kept ((((Kept.refl w3).drew.trans hk4).trans hk5).alloc _) hA1, cell_kept ((((Kept.refl w3).drew.trans hk4).trans hk5).alloc _) hB0, cell_kept ((((Kept.refl w3).drew.trans hk4).trans hk5).alloc _) hB1⟩ (fun hHeld => ?_)
        clear hK K
        refine wpAnyH_ready (rs := [4]) (by kernel_rfl) (by simp) ?_
        refine AllReadyH.cons rfl (fun K hK => ?_) AllReadyH.nil
        go_simp
        refine hK.out _ _ ⟨cell_kept (((((Kept.refl w3).drew.trans hk4).trans hk5).alloc _).alloc _) hA0, cell_kept (((((Kept.refl w3).drew.trans hk4).trans hk5).alloc _).alloc _) hA1, cell_kept (((((Kept.refl w3).drew.trans hk4).trans hk5).alloc _).alloc _) hB0, cell_kept (((((Kept.refl w3).drew.trans hk4).trans hk5).alloc _).alloc _) hB1⟩ (fun hHeld => ?_)
        clear hK K
        have hz80 : ((w5.alloc (Obj.cells #[.bool false, .slice none 0 0] 24)).alloc (Obj.cells #[.bool false, .slice none 0 0] 24)).cell? ⟨w5.heap.size + 1, 0, none⟩ = some (.bool false) := cell_kept (Kept.refl _) (World.cell?_alloc_at _ _ _ _ (by simp))
        have hg80 : ((w5.alloc (Obj.cells #[.bool false, .slice none 0 0] 24)).alloc (Obj.cells #[.bool false, .slice none 0 0] 24)).frozen? ⟨w5.heap.size + 1, 0, none⟩ = false := ((Kept.refl _).frozens _ _ (by simp)).trans (World.frozen?_alloc_at _ _ _ _ (by simp))
        have hz81 : ((w5.alloc (Obj.cells #[.bool false, .slice none 0 0] 24)).alloc (Obj.cells #[.bool false, .slice none 0 0] 24)).cell? ⟨w5.heap.size + 1, 1, none⟩ = some (.slice none 0 0) := cell_kept (Kept.refl _) (World.cell?_alloc_at _ _ _ _ (by simp))
        have hg81 : ((w5.alloc (Obj.cells #[.bool false, .slice none 0 0] 24)).alloc (Obj.cells #[.bool false, .slice none 0 0] 24)).frozen? ⟨w5.heap.size + 1, 1, none⟩ = false := ((Kept.refl _).frozens _ _ (by simp)).trans (World.frozen?_alloc_at _ _ _ _ (by simp))
        have hz90 : ((w5.alloc (Obj.cells #[.bool false, .slice none 0 0] 24)).alloc (Obj.cells #[.bool false, .slice none 0 0] 24)).cell? ⟨w5.heap.size, 0, none⟩ = some (.bool false) := cell_kept ((Kept.refl _).alloc _) (World.cell?_alloc_at _ _ _ _ (by simp))
        have hg90 : ((w5.alloc (Obj.cells #[.bool false, .slice none 0 0] 24)).alloc (Obj.cells #[.bool false, .slice none 0 0] 24)).frozen? ⟨w5.heap.size, 0, none⟩ = false := (((Kept.refl _).alloc _).frozens _ _ (by simp)).trans (World.frozen?_alloc_at _ _ _ _ (by simp))
        have hz91 : ((w5.alloc (Obj.cells #[.bool false, .slice none 0 0] 24)).alloc (Obj.cells #[.bool false, .slice none 0 0] 24)).cell? ⟨w5.heap.size, 1, none⟩ = some (.slice none 0 0) := cell_kept ((Kept.refl _).alloc _) (World.cell?_alloc_at _ _ _ _ (by simp))
        have hg91 : ((w5.alloc (Obj.cells #[.bool false, .slice none 0 0] 24)).alloc (Obj.cells #[.bool false, .slice none 0 0] 24)).frozen? ⟨w5.heap.size, 1, none⟩ = false := (((Kept.refl _).alloc _).frozens _ _ (by simp)).trans (World.frozen?_alloc_at _ _ _ _ (by simp))
        obtain ⟨p8, hp⟩ : ∃ p, p = w5.heap.size + 1 := ⟨_, rfl⟩
        obtain ⟨p9, hq⟩ : ∃ p, p = w5.heap.size := ⟨_, rfl⟩
        have hp8 : w3.heap.size ≤ p8 := by omega
        have hp9 : w3.heap.size ≤ p9 := by omega
        have hne : ¬ (p8 = p9) := by omega
        have hne' : ¬ (p9 = p8) := by omega
        rw [← hp] at hz80 hz81 hg80 hg81 ⊢
        rw [← hq] at hz90 hz91 hg90 hg91 ⊢
        clear hp hq
        have hKT : Kept w3 ((w5.alloc (Obj.cells #[.bool false, .slice none 0 0] 24)).alloc (Obj.cells #[.bool false, .slice none 0 0] 24)) := (((((Kept.refl w3).drew.trans hk4).trans hk5).alloc _).alloc _)
        have ghA0 := cell_kept hKT hA0
        have ghA1 := cell_kept hKT hA1
        have ghB0 := cell_kept hKT hB0
        have ghB1 := cell_kept hKT hB1
        have HN : Hid (Lent w3.heap.size ((w5.alloc (Obj.cells #[.bool false, .slice none 0 0] 24)).alloc (Obj.cells #[.bool false, .slice none 0 0] 24)) bx a.length cx a ∧ Lent w3.heap.size ((w5.alloc (Obj.cells #[.bool false, .slice none 0 0] 24)).alloc (Obj.cells #[.bool false, .slice none 0 0] 24)) by_ b.length cy b ∧ Kept w3 ((w5.alloc (Obj.cells #[.bool false, .slice none 0 0] 24)).alloc (Obj.cells #[.bool false, .slice none 0 0] 24))) := ⟨hX.kept ((((Kept.refl _).trans hk5).alloc _).alloc _), hY.kept (((Kept.refl _).alloc _).alloc _), hKT⟩
        clear hX hY hk4 hk5 hHeld hKT
        generalize ((w5.alloc (Obj.cells #[.bool false, .slice none 0 0] 24)).alloc (Obj.cells #[.bool false, .slice none 0 0] 24)) = Wx at ghA0 ghA1 ghB0 ghB1 hz80 hz81 hz90 hz91 hg80 hg81 hg90 hg91 HN ⊢
        refine wpAnyH_ready (rs := [6]) (by kernel_rfl) (by simp) ?_
        refine AllReadyH.cons rfl (fun K hK => ?_) AllReadyH.nil
        go_simp
        refine hK.out _ _ ⟨set2_far (p := p8) ghA0 (by omega), set2_far (p := p8) ghA1 (by omega), set2_far (p := p8) ghB0 (by omega), set2_far (p := p8) ghB1 (by omega)⟩ (fun hHeld => ?_)
        clear hK K
        refine wpAnyH_ready (rs := [7]) (by kernel_rfl) (by simp) ?_
        refine AllReadyH.cons rfl (fun K hK => ?_) AllReadyH.nil
        go_simp
        refine hK.out _ _ ⟨set2_far (p := p9) (set2_far (p := p8) ghA0 (by omega)) (by omega), set2_far (p := p9) (set2_far (p := p8) ghA1 (by omega)) (by omega), set2_far (p := p9) (set2_far (p := p8) ghB0 (by omega)) (by omega), set2_far (p := p9) (set2_far (p := p8) ghB1 (by omega)) (by omega)⟩ (fun hHeld => ?_)
        clear hK K
        refine wpAnyH_done (by kernel_rfl) ?_ _
        go_wp2_with fail
        go_meet
        case rel =>
          have e8 := set2_at (x := .bool ma) (y := .slice (some ⟨bx, 0, none⟩) a.length cx) hz80 hz81
          have z90 := set2_far (x := .bool ma) (y := .slice (some ⟨bx, 0, none⟩) a.length cx) hz90 hne
          have z91 := set2_far (x := .bool ma) (y := .slice (some ⟨bx, 0, none⟩) a.length cx) hz91 hne
          have e9 := set2_at (x := .bool mb) (y := .slice (some ⟨by_, 0, none⟩) b.length cy) z90 z91
          exact ⟨p8, p9, bx, by_, cx, cy, rfl, rfl, set2_far e8.1 hne', set2_far e8.2 hne', e9.1, e9.2, (((HN.out.2.2.setCell hp8 _).setCell hp8 _).setCell hp9 _).setCell hp9 _, (HN.out.1.box hz80 _ _).box z90 _ _, (HN.out.2.1.box hz80 _ _).box z90 _ _⟩
      refine AllReadyH.cons rfl (fun K hK => ?_) ?_
      · go_simp
        refine hK.out _ _ ⟨cell_kept (((Kept.refl w3).drew.trans hk4).alloc _) hA0, cell_kept (((Kept.refl w3).drew.trans hk4).alloc _) hA1, cell_kept (((Kept.refl w3).drew.trans hk4).alloc _) hB0, cell_kept (((Kept.refl w3).drew.trans hk4).alloc _) hB1⟩ (fun hHeld => ?_)
        clear hK K
        refine wpAnyH_ready (rs := [3, 5]) (by kernel_rfl) (by simp) ?_
        refine AllReadyH.cons rfl (fun K hK => ?_) ?_
        · go_simp
          refine (lent_any mb ab b.length cb b _ (HB3.out.kept (((Kept.refl w3).drew.trans hk4).alloc _)) hlb).mono ?_
          rintro e w5 ⟨hk5, by_, cy, rfl, hY⟩
          have hs5 : w3.heap.size ≤ w5.heap.size := ((((Kept.refl w3).drew.trans hk4).alloc _).trans hk5).size
          have ht5 := hk5.size
          try simp at ht5
          have hY := hY.mono ((((Kept.refl w3).drew.trans hk4).alloc _)).size
          refine hK.out _ _ ⟨cell_kept ((((Kept.refl w3).drew.trans hk4).alloc _).trans hk5) hA0, cell_kept ((((Kept.refl w3).drew.trans hk4).alloc _).trans hk5) hA1, cell_kept ((((Kept.refl w3).drew.trans hk4).alloc _).trans hk5) hB0, cell_kept ((((Kept.refl w3).drew.trans hk4).alloc _).trans hk5) hB1⟩ (fun hHeld => ?_)
          clear hK K
          refine wpAnyH_ready (rs := [5]) (by kernel_rfl) (by simp) ?_
          refine AllReadyH.cons rfl (fun K hK => ?_) AllReadyH.nil
          go_simp
          refine hK.out _ _ ⟨cell_kept (((((Kept.refl w3).drew.trans hk4).alloc _).trans hk5).alloc _) hA0, cell_kept (((((Kept.refl w3).drew.trans hk4).alloc _).trans hk5).alloc _) hA1, cell_kept (((((Kept.refl w3).drew.trans hk4).alloc _).trans hk5).alloc _) hB0, cell_kept (((((Kept.refl w3).drew.trans hk4).alloc _).trans hk5).alloc _) hB1⟩ (fun hHeld => ?_)
          clear hK K
          have hz80 : (w5.alloc (Obj.cells #[.bool false, .slice none 0 0] 24)).cell? ⟨w4.heap.size, 0, none⟩ = some (.bool false) := cell_kept (((Kept.refl _).trans hk5).alloc _) (World.cell?_alloc_at _ _ _ _ (by simp))
          have hg80 : (w5.alloc (Obj.cells #[.bool false, .slice none 0 0] 24)).frozen? ⟨w4.heap.size, 0, none⟩ = false := ((((Kept.refl _).trans hk5).alloc _).frozens _ _ (by simp)).trans (World.frozen?_alloc_at _ _ _ _ (by simp))
          have hz81 : (w5.alloc (Obj.cells #[.bool false, .slice none 0 0] 24)).cell? ⟨w4.heap.size, 1, none⟩ = some (.slice none 0 0) := cell_kept (((Kept.refl _).trans hk5).alloc _) (World.cell?_alloc_at _ _ _ _ (by simp))
          have hg81 : (w5.alloc (Obj.cells #[.bool false, .slice none 0 0] 24)).frozen? ⟨w4.heap.size, 1, none⟩ = false := ((((Kept.refl _).trans hk5).alloc _).frozens _ _ (by simp)).trans (World.frozen?_alloc_at _ _ _ _ (by simp))
          have hz90 : (w5.alloc (Obj.cells #[.bool false, .slice none 0 0] 24)).cell? ⟨w5.heap.size, 0, none⟩ = some (.bool false) := cell_kept (Kept.refl _) (World.cell?_alloc_at _ _ _ _ (by simp))
          have hg90 : (w5.alloc (Obj.cells #[.bool false, .slice none 0 0] 24)).frozen? ⟨w5.heap.size, 0, none⟩ = false := ((Kept.refl _).frozens _ _ (by simp)).trans (World.frozen?_alloc_at _ _ _ _ (by simp))
          have hz91 : (w5.alloc (Obj.cells #[.bool false, .slice none 0 0] 24)).cell? ⟨w5.heap.size, 1, none⟩ = some (.slice none 0 0) := cell_kept (Kept.refl _) (World.cell?_alloc_at _ _ _ _ (by simp))
          have hg91 : (w5.alloc (Obj.cells #[.bool false, .slice none 0 0] 24)).frozen? ⟨w5.heap.size, 1, none⟩ = false := ((Kept.refl _).frozens _ _ (by simp)).trans (World.frozen?_alloc_at _ _ _ _ (by simp))
          obtain ⟨p8, hp⟩ : ∃ p, p = w4.heap.size := ⟨_, rfl⟩
          obtain ⟨p9, hq⟩ : ∃ p, p = w5.heap.size := ⟨_, rfl⟩
          have hp8 : w3.heap.size ≤ p8 := by omega
          have hp9 : w3.heap.size ≤ p9 := by omega
          have hne : ¬ (p8 = p9) := by omega
          have hne' : ¬ (p9 = p8) := by omega
          rw [← hp] at hz80 hz81 hg80 hg81 ⊢
          rw [← hq] at hz90 hz91 hg90 hg91 ⊢
          clear hp hq
          have hKT : Kept w3 (w5.alloc (Obj.cells #[.bool false, .slice none 0 0] 24)) := (((((Kept.refl w3).drew.trans hk4).alloc _).trans hk5).alloc _)
          have ghA0 := cell_kept hKT hA0
          have ghA1 := cell_kept hKT hA1
          have ghB0 := cell_kept hKT hB0
          have ghB1 := cell_kept hKT hB1
          have HN : Hid (Lent w3.heap.size (w5.alloc (Obj.cells #[.bool false, .slice none 0 0] 24)) bx a.length cx a ∧ Lent w3.heap.size (w5.alloc (Obj.cells #[.bool false, .slice none 0 0] 24)) by_ b.length cy b ∧ Kept w3 (w5.alloc (Obj.cells #[.bool false, .slice none 0 0] 24))) := ⟨hX.kept ((((Kept.refl _).alloc _).trans hk5).alloc _), hY.kept ((Kept.refl _).alloc _), hKT⟩
          clear hX hY hk4 hk5 hHeld hKT
          generalize (w5.alloc (Obj.cells #[.bool false, .slice none 0 0] 24)) = Wx at ghA0 ghA1 ghB0 ghB1 hz80 hz81 hz90 hz91 hg80 hg81 hg90 hg91 HN ⊢
          refine wpAnyH_ready (rs := [6]) (by kernel_rfl) (by simp) ?_
          refine AllReadyH.cons rfl (fun K hK => ?_) AllReadyH.nil
          go_simp
          refine hK.out _ _ ⟨set2_far (p := p8) ghA0 (by omega), set2_far (p := p8) ghA1 (by omega), set2_far (p := p8) ghB0 (by omega), set2_far (p := p8) ghB1 (by omega)⟩ (fun hHeld => ?_)
          clear hK K
          refine wpAnyH_ready (rs := [7]) (by kernel_rfl) (by simp) ?_
          refine AllReadyH.cons rfl (fun K hK => ?_) AllReadyH.nil
          go_simp
          refine hK.out _ _ ⟨set2_far (p := p9) (set2_far (p := p8) ghA0 (by omega)) (by omega), set2_far (p := p9) (set2_far (p := p8) ghA1 (by omega)) (by omega), set2_far (p := p9) (set2_far (p := p8) ghB0 (by omega)) (by omega), set2_far (p := p9) (set2_far (p := p8) ghB1 (by omega)) (by omega)⟩ (fun hHeld => ?_)
          clear hK K
          refine wpAnyH_done (by kernel_rfl) ?_ _
          go_wp2_with fail
          go_meet
          case rel =>
            have e8 := set2_at (x := .bool ma) (y := .slice (some ⟨bx, 0, none⟩) a.length cx) hz80 hz81
            have z90 := set2_far (x := .bool ma) (y := .slice (some ⟨bx, 0, none⟩) a.length cx) hz90 hne
            have z91 := set2_far (x := .bool ma) (y := .slice (some ⟨bx, 0, none⟩) a.length cx) hz91 hne
            have e9 := set2_at (x := .bool mb) (y := .slice (some ⟨by_, 0, none⟩) b.length cy) z90 z91
            exact ⟨p8, p9, bx, by_, cx, cy, rfl, rfl, set2_far e8.1 hne', set2_far e8.2 hne', e9.1, e9.2, (((HN.out.2.2.setCell hp8 _).setCell hp8 _).setCell hp9 _).setCell hp9 _, (HN.out.1.box hz80 _ _).box z90 _ _, (HN.out.2.1.box hz80 _ _).box z90 _ _⟩
        refine AllReadyH.cons rfl (fun K hK => ?_) AllReadyH.nil
        go_simp
        refine hK.out _ _ ⟨cell_kept ((((Kept.refl w3).drew.trans hk4).alloc _).alloc _) hA0, cell_kept ((((Kept.refl w3).drew.trans hk4).alloc _).alloc _) hA1, cell_kept ((((Kept.refl w3).drew.trans hk4).alloc _).alloc _) hB0, cell_kept ((((Kept.refl w3).drew.trans hk4).alloc _).alloc _) hB1⟩ (fun hHeld => ?_)
        clear hK K
        refine wpAnyH_ready (rs := [3]) (by kernel_rfl) (by simp) ?_
        refine AllReadyH.cons rfl (fun K hK => ?_) AllReadyH.nil
        go_simp
        refine (lent_any mb ab b.length cb b _ (HB3.out.kept ((((Kept.refl w3).drew.trans hk4).alloc _).alloc _)) hlb).mono ?_
        rintro e w5 ⟨hk5, by_, cy, rfl, hY⟩
        have hs5 : w3.heap.size ≤ w5.heap.size := (((((Kept.refl w3).drew.trans hk4).alloc _).alloc _).trans hk5).size
        have ht5 := hk5.size
        try simp at ht5
        have hY := hY.mono (((((Kept.refl w3).drew.trans hk4).alloc _).alloc _)).size
        refine hK.out _ _ ⟨cell_kept (((((Kept.refl w3).drew.trans hk4).alloc _).alloc _).trans hk5) hA0, cell_kept (((((Kept.refl w3).drew.trans hk4).alloc _).alloc _).trans hk5) hA1, cell_kept (((((Kept.refl w3).drew.trans hk4).alloc _).alloc _).trans hk5) hB0, cell_kept (((((Kept.refl w3).drew.trans hk4).alloc _).alloc _).trans hk5) hB1⟩ (fun hHeld => ?_)
        clear hK K
        have hz80 : w5.cell? ⟨w4.heap.size, 0, none⟩ = some (.bool false) := cell_kept (((Kept.refl _).alloc _).trans hk5) (World.cell?_alloc_at _ _ _ _ (by simp))
        have hg80 : w5.frozen? ⟨w4.heap.size, 0, none⟩ = false := ((((Kept.refl _).alloc _).trans hk5).frozens _ _ (by simp)).trans (World.frozen?_alloc_at _ _ _ _ (by simp))
        have hz81 : w5.cell? ⟨w4.heap.size, 1, none⟩ = some (.slice none 0 0) := cell_kept (((Kept.refl _).alloc _).trans hk5) (World.cell?_alloc_at _ _ _ _ (by simp))
        have hg81 : w5.frozen? ⟨w4.heap.size, 1, none⟩ = false := ((((Kept.refl _).alloc _).trans hk5).frozens _ _ (by simp)).trans (World.frozen?_alloc_at _ _ _ _ (by simp))
        have hz90 : w5.cell? ⟨w4.heap.size + 1, 0, none⟩ = some (.bool false) := cell_kept ((Kept.refl _).trans hk5) (World.cell?_alloc_at _ _ _ _ (by simp))
        have hg90 : w5.frozen? ⟨w4.heap.size + 1, 0, none⟩ = false := (((Kept.refl _).trans hk5).frozens _ _ (by simp)).trans (World.frozen?_alloc_at _ _ _ _ (by simp))
        have hz91 : w5.cell? ⟨w4.heap.size + 1, 1, none⟩ = some (.slice none 0 0) := cell_kept ((Kept.refl _).trans hk5) (World.cell?_alloc_at _ _ _ _ (by simp))
        have hg91 : w5.frozen? ⟨w4.heap.size + 1, 1, none⟩ = false := (((Kept.refl _).trans hk5).frozens _ _ (by simp)).trans (World.frozen?_alloc_at _ _ _ _ (by simp))
        obtain ⟨p8, hp⟩ : ∃ p, p = w4.heap.size := ⟨_, rfl⟩
        obtain ⟨p9, hq⟩ : ∃ p, p = w4.heap.size + 1 := ⟨_, rfl⟩
        have hp8 : w3.heap.size ≤ p8 := by omega
        have hp9 : w3.heap.size ≤ p9 := by omega
        have hne : ¬ (p8 = p9) := by omega
        have hne' : ¬ (p9 = p8) := by omega
        rw [← hq] at hz90 hz91 hg90 hg91 ⊢
        rw [← hp] at hz80 hz81 hg80 hg81 ⊢
        clear hp hq
        have hKT : Kept w3 w5 := (((((Kept.refl w3).drew.trans hk4).alloc _).alloc _).trans hk5)
        have ghA0 := cell_kept hKT hA0
        have ghA1 := cell_kept hKT hA1
        have ghB0 := cell_kept hKT hB0
        have ghB1 := cell_kept hKT hB1
        have HN : Hid (Lent w3.heap.size w5 bx a.length cx a ∧ Lent w3.heap.size w5 by_ b.length cy b ∧ Kept w3 w5) := ⟨hX.kept ((((Kept.refl _).alloc _).alloc _).trans hk5), hY.kept (Kept.refl _), hKT⟩
        clear hX hY hk4 hk5 hHeld hKT
        generalize w5 = Wx at ghA0 ghA1 ghB0 ghB1 hz80 hz81 hz90 hz91 hg80 hg81 hg90 hg91 HN ⊢
        refine wpAnyH_ready (rs := [6]) (by kernel_rfl) (by simp) ?_
        refine AllReadyH.cons rfl (fun K hK => ?_) AllReadyH.nil
        go_simp
        refine hK.out _ _ ⟨set2_far (p := p8) ghA0 (by omega), set2_far (p := p8) ghA1 (by omega), set2_far (p := p8) ghB0 (by omega), set2_far (p := p8) ghB1 (by omega)⟩ (fun hHeld => ?_)
        clear hK K
        refine wpAnyH_ready (rs := [7]) (by kernel_rfl) (by simp) ?_
        refine AllReadyH.cons rfl (fun K hK => ?_) AllReadyH.nil
        go_simp
        refine hK.out _ _ ⟨set2_far (p := p9) (set2_far (p := p8) ghA0 (by omega)) (by omega), set2_far (p := p9) (set2_far (p := p8) ghA1 (by omega)) (by omega), set2_far (p := p9) (set2_far (p := p8) ghB0 (by omega)) (by omega), set2_far (p := p9) (set2_far (p := p8) ghB1 (by omega)) (by omega)⟩ (fun hHeld => ?_)
        clear hK K
        refine wpAnyH_done (by kernel_rfl) ?_ _
        go_wp2_with fail
        go_meet
        case rel =>
          have e8 := set2_at (x := .bool ma) (y := .slice (some ⟨bx, 0, none⟩) a.length cx) hz80 hz81
          have z90 := set2_far (x := .bool ma) (y := .slice (some ⟨bx, 0, none⟩) a.length cx) hz90 hne
          have z91 := set2_far (x := .bool ma) (y := .slice (some ⟨bx, 0, none⟩) a.length cx) hz91 hne
          have e9 := set2_at (x := .bool mb) (y := .slice (some ⟨by_, 0, none⟩) b.length cy) z90 z91
          exact ⟨p8, p9, bx, by_, cx, cy, rfl, rfl, set2_far e8.1 hne', set2_far e8.2 hne', e9.1, e9.2, (((HN.out.2.2.setCell hp8 _).setCell hp8 _).setCell hp9 _).setCell hp9 _, (HN.out.1.box hz80 _ _).box z90 _ _, (HN.out.2.1.box hz80 _ _).box z90 _ _⟩
      refine AllReadyH.cons rfl (fun K hK => ?_) AllReadyH.nil
      go_simp
      refine hK.out _ _ ⟨cell_kept (((Kept.refl w3).drew.trans hk4).alloc _) hA0, cell_kept (((Kept.refl w3).drew.trans hk4).alloc _) hA1, cell_kept (((Kept.refl w3).drew.trans hk4).alloc _) hB0, cell_kept (((Kept.refl w3).drew.trans hk4).alloc _) hB1⟩ (fun hHeld => ?_)
      clear hK K
      refine wpAnyH_ready (rs := [3, 4]) (by kernel_rfl) (by simp) ?_
      refine AllReadyH.cons rfl (fun K hK => ?_) ?_
      · go_simp
        refine (lent_any mb ab b.length cb b _ (HB3.out.kept (((Kept.refl w3).drew.trans hk4).alloc _)) hlb).mono ?_
        rintro e w5 ⟨hk5, by_, cy, rfl, hY⟩
        have hs5 : w3.heap.size ≤ w5.heap.size := ((((Kept.refl w3).drew.trans hk4).alloc _).trans hk5).size
        have ht5 := hk5.size
        try simp at ht5
        have hY := hY.mono ((((Kept.refl w3).drew.trans hk4).alloc _)).size
        refine hK.out _ _ ⟨cell_kept ((((Kept.refl w3).drew.trans hk4).alloc _).trans hk5) hA0, cell_kept ((((Kept.refl w3).drew.trans hk4).alloc _).trans hk5) hA1, cell_kept ((((Kept.refl w3).drew.trans hk4).alloc _).trans hk5) hB0, cell_kept ((((Kept.refl w3).drew.trans hk4).alloc _).trans hk5) hB1⟩ (fun hHeld => ?_)
        clear hK K
        refine wpAnyH_ready (rs := [4]) (by kernel_rfl) (by simp) ?_
        refine AllReadyH.cons rfl (fun K hK => ?_) AllReadyH.nil
        go_simp
        refine hK.out _ _ ⟨cell_kept (((((Kept.refl w3).drew.trans hk4).alloc _).trans hk5).alloc _) hA0, cell_kept (((((Kept.refl w3).drew.trans hk4).alloc _).trans hk5).alloc _) hA1, cell_kept (((((Kept.refl w3).drew.trans hk4).alloc _).trans hk5).alloc _) hB0, cell_kept (((((Kept.refl w3).drew.trans hk4).alloc _).trans hk5).alloc _) hB1⟩ (fun hHeld => ?_)
        clear hK K
        have hz80 : (w5.alloc (Obj.cells #[.bool false, .slice none 0 0] 24)).cell? ⟨w5.heap.size, 0, none⟩ = some (.bool false) := cell_kept (Kept.refl _) (World.cell?_alloc_at _ _ _ _ (by simp))
        have hg80 : (w5.alloc (Obj.cells #[.bool false, .slice none 0 0] 24)).frozen? ⟨w5.heap.size, 0, none⟩ = false := ((Kept.refl _).frozens _ _ (by simp)).trans (World.frozen?_alloc_at _ _ _ _ (by simp))
        have hz81 : (w5.alloc (Obj.cells #[.bool false, .slice none 0 0] 24)).cell? ⟨w5.heap.size, 1, none⟩ = some (.slice none 0 0) := cell_kept (Kept.refl _) (World.cell?_alloc_at _ _ _ _ (by simp))
        have hg81 : (w5.alloc (Obj.cells #[.bool false, .slice none 0 0] 24)).frozen? ⟨w5.heap.size, 1, none⟩ = false := ((Kept.refl _).frozens _ _ (by simp)).trans (World.frozen?_alloc_at _ _ _ _ (by simp))
        have hz90 : (w5.alloc (Obj.cells #[.bool false, .slice none 0 0] 24)).cell? ⟨w4.heap.size, 0, none⟩ = some (.bool false) := cell_kept (((Kept.refl _).trans hk5).alloc _) (World.cell?_alloc_at _ _ _ _ (by simp))
        have hg90 : (w5.alloc (Obj.cells #[.bool false, .slice none 0 0] 24)).frozen? ⟨w4.heap.size, 0, none⟩ = false := ((((Kept.refl _).trans hk5).alloc _).frozens _ _ (by simp)).trans (World.frozen?_alloc_at _ _ _ _ (by simp))
        have hz91 : (w5.alloc (Obj.cells #[.bool false, .slice none 0 0] 24)).cell? ⟨w4.heap.size, 1, none⟩ = some (.slice none 0 0) := cell_kept (((Kept.refl _).trans hk5).alloc _) (World.cell?_alloc_at _ _ _ _ (by simp))
        have hg91 : (w5.alloc (Obj.cells #[.bool false, .slice none 0 0] 24)).frozen? ⟨w4.heap.size, 1, none⟩ = false := ((((Kept.refl _).trans hk5).alloc _).frozens _ _ (by simp)).trans (World.frozen?_alloc_at _ _ _ _ (by simp))
        obtain ⟨p8, hp⟩ : ∃ p, p = w5.heap.size := ⟨_, rfl⟩
        obtain ⟨p9, hq⟩ : ∃ p, p = w4.heap.size := ⟨_, rfl⟩
        have hp8 : w3.heap.size ≤ p8 := by omega
        have hp9 : w3.heap.size ≤ p9 := by omega
        have hne : ¬ (p8 = p9) := by omega
        have hne' : ¬ (p9 = p8) := by omega
        rw [← hp] at hz80 hz81 hg80 hg81 ⊢
        rw [← hq] at hz90 hz91 hg90 hg91 ⊢
        clear hp hq
        have hKT : Kept w3 (w5.alloc (Obj.cells #[.bool false, .slice none 0 0] 24)) := (((((Kept.refl w3).drew.trans hk4).alloc _).trans hk5).alloc _)
        have ghA0 := cell_kept hKT hA0
        have ghA1 := cell_kept hKT hA1
        have ghB0 := cell_kept hKT hB0
        have ghB1 := cell_kept hKT hB1
        have HN : Hid (Lent w3.heap.size (w5.alloc (Obj.cells #[.bool false, .slice none 0 0] 24)) bx a.length cx a ∧ Lent w3.heap.size (w5.alloc (Obj.cells #[.bool false, .slice none 0 0] 24)) by_ b.length cy b ∧ Kept w3 (w5.alloc (Obj.cells #[.bool false, .slice none 0 0] 24))) := ⟨hX.kept ((((Kept.refl _).alloc _).trans hk5).alloc _), hY.kept ((Kept.refl _).alloc _), hKT⟩
        clear hX hY hk4 hk5 hHeld hKT
        generalize (w5.alloc (Obj.cells #[.bool false, .slice none 0 0] 24)) = Wx at ghA0 ghA1 ghB0 ghB1 hz80 hz81 hz90 hz91 hg80 hg81 hg90 hg91 HN ⊢
        refine wpAnyH_ready (rs := [6]) (by kernel_rfl) (by simp) ?_
        refine AllReadyH.cons rfl (fun K hK => ?_) AllReadyH.nil
        go_simp
        refine hK.out _ _ ⟨set2_far (p := p8) ghA0 (by omega), set2_far (p := p8) ghA1 (by omega), set2_far (p := p8) ghB0 (by omega), set2_far (p := p8) ghB1 (by omega)⟩ (fun hHeld => ?_)
        clear hK K
        refine wpAnyH_ready (rs := [7]) (by kernel_rfl) (by simp) ?_
        refine AllReadyH.cons rfl (fun K hK => ?_) AllReadyH.nil
        go_simp
        refine hK.out _ _ ⟨set2_far (p := p9) (set2_far (p := p8) ghA0 (by omega)) (by omega), set2_far (p := p9) (set2_far (p := p8) ghA1 (by omega)) (by omega), set2_far (p := p9) (set2_far (p := p8) ghB0 (by omega)) (by omega), set2_far (p := p9) (set2_far (p := p8) ghB1 (by omega)) (by omega)⟩ (fun hHeld => ?_)
        clear hK K
        refine wpAnyH_done (by kernel_rfl) ?_ _
        go_wp2_with fail
        go_meet
        case rel =>
          have e8 := set2_at (x := .bool ma) (y := .slice (some ⟨bx, 0, none⟩) a.length cx) hz80 hz81
          have z90 := set2_far (x := .bool ma) (y := .slice (some ⟨bx, 0, none⟩) a.length cx) hz90 hne
          have z91 := set2_far (x := .bool ma) (y := .slice (some ⟨bx, 0, none⟩) a.length cx) hz91 hne
          have e9 := set2_at (x := .bool mb) (y := .slice (some ⟨by_, 0, none⟩) b.length cy) z90 z91
          exact ⟨p8, p9, bx, by_, cx, cy, rfl, rfl, set2_far e8.1 hne', set2_far e8.2 hne', e9.1, e9.2, (((HN.out.2.2.setCell hp8 _).setCell hp8 _).setCell hp9 _).setCell hp9 _, (HN.out.1.box hz80 _ _).box z90 _ _, (HN.out.2.1.box hz80 _ _).box z90 _ _⟩
      refine AllReadyH.cons rfl (fun K hK => ?_) AllReadyH.nil
      go_simp
      refine hK.out _ _ ⟨cell_kept ((((Kept.refl w3).drew.trans hk4).alloc _).alloc _) hA0, cell_kept ((((Kept.refl w3).drew.trans hk4).alloc _).alloc _) hA1, cell_kept ((((Kept.refl w3).drew.trans hk4).alloc _).alloc _) hB0, cell_kept ((((Kept.refl w3).drew.trans hk4).alloc _).alloc _) hB1⟩ (fun hHeld => ?_)
      clear hK K
      refine wpAnyH_ready (rs := [3]) (by kernel_rfl) (by simp) ?_
      refine AllReadyH.cons rfl (fun K hK => ?_) AllReadyH.nil
      go_simp
      refine (lent_any mb ab b.length cb b _ (HB3.out.kept ((((Kept.refl w3).drew.trans hk4).alloc _).alloc _)) hlb).mono ?_
      rintro e w5 ⟨hk5, by_, cy, rfl, hY⟩
      have hs5 : w3.heap.size ≤ w5.heap.size := (((((Kept.refl w3).drew.trans hk4).alloc _).alloc _).trans hk5).size
      have ht5 := hk5.size
      try simp at ht5
      have hY := hY.mono (((((Kept.refl w3).drew.trans hk4).alloc _).alloc _)).size
      refine hK.out _ _ ⟨cell_kept (((((Kept.refl w3).drew.trans hk4).alloc _).alloc _).trans hk5) hA0, cell_kept (((((Kept.refl w3).drew.trans hk4).alloc _).alloc _).trans hk5) hA1, cell_kept (((((Kept.refl w3).drew.trans hk4).alloc _).alloc _).trans hk5) hB0, cell_kept (((((Kept.refl w3).drew.trans hk4).alloc _).alloc _).trans hk5) hB1⟩ (fun hHeld => ?_)
      clear hK K
      have hz80 : w5.cell? ⟨w4.heap.size + 1, 0, none⟩ = some (.bool false) := cell_kept ((Kept.refl _).trans hk5) (World.cell?_alloc_at _ _ _ _ (by simp))
      have hg80 : w5.frozen? ⟨w4.heap.size + 1, 0, none⟩ = false := (((Kept.refl _).trans hk5).frozens _ _ (by simp)).trans (World.frozen?_alloc_at _ _ _ _ (by simp))
      have hz81 : w5.cell? ⟨w4.heap.size + 1, 1, none⟩ = some (.slice none 0 0) := cell_kept ((Kept.refl _).trans hk5) (World.cell?_alloc_at _ _ _ _ (by simp))
      have hg81 : w5.frozen? ⟨w4.heap.size + 1, 1, none⟩ = false := (((Kept.refl _).trans hk5).frozens _ _ (by simp)).trans (World.frozen?_alloc_at _ _ _ _ (by simp))
      have hz90 : w5.cell? ⟨w4.heap.size, 0, none⟩ = some (.bool false) := cell_kept (((Kept.refl _).alloc _).trans hk5) (World.cell?_alloc_at _ _ _ _ (by simp))
      have hg90 : w5.frozen? ⟨w4.heap.size, 0, none⟩ = false := ((((Kept.refl _).alloc _).trans hk5).frozens _ _ (by simp)).trans (World.frozen?_alloc_at _ _ _ _ (by simp))
      have hz91 : w5.cell? ⟨w4.heap.size, 1, none⟩ = some (.slice none 0 0) := cell_kept (((Kept.refl _).alloc _).trans hk5) (World.cell?_alloc_at _ _ _ _ (by simp))
      have hg91 : w5.frozen? ⟨w4.heap.size, 1, none⟩ = false := ((((Kept.refl _).alloc _).trans hk5).frozens _ _ (by simp)).trans (World.frozen?_alloc_at _ _ _ _ (by simp))
      obtain ⟨p8, hp⟩ : ∃ p, p = w4.heap.size + 1 := ⟨_, rfl⟩
      obtain ⟨p9, hq⟩ : ∃ p, p = w4.heap.size := ⟨_, rfl⟩
      have hp8 : w3.heap.size ≤ p8 := by omega
      have hp9 : w3.heap.size ≤ p9 := by omega
      have hne : ¬ (p8 = p9) := by omega
      have hne' : ¬ (p9 = p8) := by omega
      rw [← hp] at hz80 hz81 hg80 hg81 ⊢
      rw [← hq] at hz90 hz91 hg90 hg91 ⊢
      clear hp hq
      have hKT : Kept w3 w5 := (((((Kept.refl w3).drew.trans hk4).alloc _).alloc _).trans hk5)
      have ghA0 := cell_kept hKT hA0
      have ghA1 := cell_kept hKT hA1
      have ghB0 := cell_kept hKT hB0
      have ghB1 := cell_kept hKT hB1
      have HN : Hid (Lent w3.heap.size w5 bx a.length cx a ∧ Lent w3.heap.size w5 by_ b.length cy b ∧ Kept w3 w5) := ⟨hX.kept ((((Kept.refl _).alloc _).alloc _).trans hk5), hY.kept (Kept.refl _), hKT⟩
      clear hX hY hk4 hk5 hHeld hKT
      generalize w5 = Wx at ghA0 ghA1 ghB0 ghB1 hz80 hz81 hz90 hz91 hg80 hg81 hg90 hg91 HN ⊢
      refine wpAnyH_ready (rs := [6]) (by kernel_rfl) (by simp) ?_
      refine AllReadyH.cons rfl (fun K hK => ?_) AllReadyH.nil
      go_simp
      refine hK.out _ _ ⟨set2_far (p := p8) ghA0 (by omega), set2_far (p := p8) ghA1 (by omega), set2_far (p := p8) ghB0 (by omega), set2_far (p := p8) ghB1 (by omega)⟩ (fun hHeld => ?_)
      clear hK K
      refine wpAnyH_ready (rs := [7]) (by kernel_rfl) (by simp) ?_
      refine AllReadyH.cons rfl (fun K hK => ?_) AllReadyH.nil
      go_simp
      refine hK.out _ _ ⟨set2_far (p := p9) (set2_far (p := p8) ghA0 (by omega)) (by omega), set2_far (p := p9) (set2_far (p := p8) ghA1 (by omega)) (by omega), set2_far (p := p9) (set2_far (p := p8) ghB0 (by omega)) (by omega), set2_far (p := p9) (set2_far (p := p8) ghB1 (by omega)) (by omega)⟩ (fun hHeld => ?_)
      clear hK K
      refine wpAnyH_done (by kernel_rfl) ?_ _
      go_wp2_with fail
      go_meet
      case rel =>
        have e8 := set2_at (x := .bool ma) (y := .slice (some ⟨bx, 0, none⟩) a.length cx) hz80 hz81
        have z90 := set2_far (x := .bool ma) (y := .slice (some ⟨bx, 0, none⟩) a.length cx) hz90 hne
        have z91 := set2_far (x := .bool ma) (y := .slice (some ⟨bx, 0, none⟩) a.length cx) hz91 hne
        have e9 := set2_at (x := .bool mb) (y := .slice (some ⟨by_, 0, none⟩) b.length cy) z90 z91
        exact ⟨p8, p9, bx, by_, cx, cy, rfl, rfl, set2_far e8.1 hne', set2_far e8.2 hne', e9.1, e9.2, (((HN.out.2.2.setCell hp8 _).setCell hp8 _).setCell hp9 _).setCell hp9 _, (HN.out.1.box hz80 _ _).box z90 _ _, (HN.out.2.1.box hz80 _ _).box z90 _ _⟩
    refine AllReadyH.cons rfl (fun K hK => ?_) ?_
    · go_simp
      refine hK.out _ _ ⟨cell_kept ((Kept.refl w3).drew.alloc _) hA0, cell_kept ((Kept.refl w3).drew.alloc _) hA1, cell_kept ((Kept.refl w3).drew.alloc _) hB0, cell_kept ((Kept.refl w3).drew.alloc _) hB1⟩ (fun hHeld => ?_)
      clear hK K
      refine wpAnyH_ready (rs := [1, 5]) (by kernel_rfl) (by simp) ?_
      refine AllReadyH.cons rfl (fun K hK => ?_) ?_
      · go_simp
        refine (lent_any ma aa a.length ca a _ (HA3.out.kept ((Kept.refl w3).drew.alloc _)) hla).mono ?_
        rintro e w4 ⟨hk4, bx, cx, rfl, hX⟩
        have hs4 : w3.heap.size ≤ w4.heap.size := (((Kept.refl w3).drew.alloc _).trans hk4).size
        have ht4 := hk4.size
        try simp at ht4
        have hX := hX.mono (((Kept.refl w3).drew.alloc _)).size
        refine hK.out _ _ ⟨cell_kept (((Kept.refl w3).drew.alloc _).trans hk4) hA0, cell_kept (((Kept.refl w3).drew.alloc _).trans hk4) hA1, cell_kept (((Kept.refl w3).drew.alloc _).trans hk4) hB0, cell_kept (((Kept.refl w3).drew.alloc _).trans hk4) hB1⟩ (fun hHeld => ?_)
        clear hK K
        refine wpAnyH_ready (rs := [3, 5]) (by kernel_rfl) (by simp) ?_
        refine AllReadyH.cons rfl (fun K hK => ?_) ?_
        · go_simp
          refine (lent_any mb ab b.length cb b _ (HB3.out.kept (((Kept.refl w3).drew.alloc _).trans hk4)) hlb).mono ?_
          rintro e w5 ⟨hk5, by_, cy, rfl, hY⟩
          have hs5 : w3.heap.size ≤ w5.heap.size := ((((Kept.refl w3).drew.alloc _).trans hk4).trans hk5).size
          have ht5 := hk5.size
          try simp at ht5
          have hY := hY.mono ((((Kept.refl w3).drew.alloc _).trans hk4)).size
          refine hK.out _ _ ⟨cell_kept ((((Kept.refl w3).drew.alloc _).trans hk4).trans hk5) hA0, cell_kept ((((Kept.refl w3).drew.alloc _).trans hk4).trans hk5) hA1, cell_kept ((((Kept.refl w3).drew.alloc _).trans hk4).trans hk5) hB0, cell_kept ((((Kept.refl w3).drew.alloc _).trans hk4).trans hk5) hB1⟩ (fun hHeld => ?_)
          clear hK K
          refine wpAnyH_ready (rs := [5]) (by kernel_rfl) (by simp) ?_
          refine AllReadyH.cons rfl (fun K hK => ?_) AllReadyH.nil
          go_simp
          refine hK.out _ _ ⟨cell_kept (((((Kept.refl w3).drew.alloc _).trans hk4).trans hk5).alloc _) hA0, cell_kept (((((Kept.refl w3).drew.alloc _).trans hk4).trans hk5).alloc _) hA1, cell_kept (((((Kept.refl w3).drew.alloc _).trans hk4).trans hk5).alloc _) hB0, cell_kept (((((Kept.refl w3).drew.alloc _).trans hk4).trans hk5).alloc _) hB1⟩ (fun hHeld => ?_)
          clear hK K
          have hz80 : (w5.alloc (Obj.cells #[.bool false, .slice none 0 0] 24)).cell? ⟨w3.heap.size, 0, none⟩ = some (.bool false) := cell_kept ((((Kept.refl _).trans hk4).trans hk5).alloc _) (World.cell?_alloc_at _ _ _ _ (by simp))
          have hg80 : (w5.alloc (Obj.cells #[.bool false, .slice none 0 0] 24)).frozen? ⟨w3.heap.size, 0, none⟩ = false := (((((Kept.refl _).trans hk4).trans hk5).alloc _).frozens _ _ (by simp)).trans (World.frozen?_alloc_at _ _ _ _ (by simp))
          have hz81 : (w5.alloc (Obj.cells #[.bool false, .slice none 0 0] 24)).cell? ⟨w3.heap.size, 1, none⟩ = some (.slice none 0 0) := cell_kept ((((Kept.refl _).trans hk4).trans hk5).alloc _) (World.cell?_alloc_at _ _ _ _ (by simp))
          have hg81 : (w5.alloc (Obj.cells #[.bool false, .slice none 0 0] 24)).frozen? ⟨w3.heap.size, 1, none⟩ = false := (((((Kept.refl _).trans hk4).trans hk5).alloc _).frozens _ _ (by simp)).trans (World.frozen?_alloc_at _ _ _ _ (by simp))
          have hz90 : (w5.alloc (Obj.cells #[.bool false, .slice none 0 0] 24)).cell? ⟨w5.heap.size, 0, none⟩ = some (.bool false) := cell_kept (Kept.refl _) (World.cell?_alloc_at _ _ _ _ (by simp))
          have hg90 : (w5.alloc (Obj.cells #[.bool false, .slice none 0 0] 24)).frozen? ⟨w5.heap.size, 0, none⟩ = false := ((Kept.refl _).frozens _ _ (by simp)).trans (World.frozen?_alloc_at _ _ _ _ (by simp))
          have hz91 : (w5.alloc (Obj.cells #[.bool false, .slice none 0 0] 24)).cell? ⟨w5.heap.size, 1, none⟩ = some (.slice none 0 0) := cell_kept (Kept.refl _) (World.cell?_alloc_at _ _ _ _ (by simp))
          have hg91 : (w5.alloc (Obj.cells #[.bool false, .slice none 0 0] 24)).frozen? ⟨w5.heap.size, 1, none⟩ = false := ((Kept.refl _).frozens _ _ (by simp)).trans (World.frozen?_alloc_at _ _ _ _ (by simp))
          obtain ⟨p8, hp⟩ : ∃ p, p = w3.heap.size := ⟨_, rfl⟩
          obtain ⟨p9, hq⟩ : ∃ p, p = w5.heap.size := ⟨_, rfl⟩
          have hp8 : w3.heap.size ≤ p8 := by omega
          have hp9 : w3.heap.size ≤ p9 := by omega
          have hne : ¬ (p8 = p9) := by omega
          have hne' : ¬ (p9 = p8) := by omega
          rw [← hp] at hz80 hz81 hg80 hg81 ⊢
          rw [← hq] at hz90 hz91 hg90 hg91 ⊢
          clear hp hq
          have hKT : Kept w3 (w5.alloc (Obj.cells #[.bool false, .slice none 0 0] 24)) := (((((Kept.refl w3).drew.alloc _).trans hk4).trans hk5).alloc _)
          have ghA0 := cell_kept hKT hA0
          have ghA1 := cell_kept hKT hA1
          have ghB0 := cell_kept hKT hB0
          have ghB1 := cell_kept hKT hB1
          have HN : Hid (Lent w3.heap.size (w5.alloc (Obj.cells #[.bool false, .slice none 0 0] 24)) bx a.length cx a ∧ Lent w3.heap.size (w5.alloc (Obj.cells #[.bool false, .slice none 0 0] 24)) by_ b.length cy b ∧ Kept w3 (w5.alloc (Obj.cells #[.bool false, .slice none 0 0] 24))) := ⟨hX.kept (((Kept.refl _).trans hk5).alloc _), hY.kept ((Kept.refl _).alloc _), hKT⟩
          clear hX hY hk4 hk5 hHeld hKT
          generalize (w5.alloc (Obj.cells #[.bool false, .slice none 0 0] 24)) = Wx at ghA0 ghA1 ghB0 ghB1 hz80 hz81 hz90 hz91 hg80 hg81 hg90 hg91 HN ⊢
          refine wpAnyH_ready (rs := [6]) (by kernel_rfl) (by simp) ?_
          refine AllReadyH.cons rfl (fun K hK => ?_) AllReadyH.nil
          go_simp
          refine hK.out _ _ ⟨set2_far (p := p8) ghA0 (by omega), set2_far (p := p8) ghA1 (by omega), set2_far (p := p8) ghB0 (by omega), set2_far (p := p8) ghB1 (by omega)⟩ (fun hHeld => ?_)
          clear hK K
          refine wpAnyH_ready (rs := [7]) (by kernel_rfl) (by simp) ?_
          refine AllReadyH.cons rfl (fun K hK => ?_) AllReadyH.nil
          go_simp
          refine hK.out _ _ ⟨set2_far (p := p9) (set2_far (p := p8) ghA0 (by omega)) (by omega), set2_far (p := p9) (set2_far (p := p8) ghA1 (by omega)) (by omega), set2_far (p := p9) (set2_far (p := p8) ghB0 (by omega)) (by omega), set2_far (p := p9) (set2_far (p := p8) ghB1 (by omega)) (by omega)⟩ (fun hHeld => ?_)
          clear hK K
          refine wpAnyH_done (by kernel_rfl) ?_ _
          go_wp2_with fail
          go_meet
          case rel =>
            have e8 := set2_at (x := .bool ma) (y := .slice (some ⟨bx, 0, none⟩) a.length cx) hz80 hz81
            have z90 := set2_far (x := .bool ma) (y := .slice (some ⟨bx, 0, none⟩) a.length cx) hz90 hne
            have z91 := set2_far (x := .bool ma) (y := .slice (some ⟨bx, 0, none⟩) a.length cx) hz91 hne
            have e9 := set2_at (x := .bool mb) (y := .slice (some ⟨by_, 0, none⟩) b.length cy) z90 z91
            exact ⟨p8, p9, bx, by_, cx, cy, rfl, rfl, set2_far e8.1 hne', set2_far e8.2 hne', e9.1, e9.2, (((HN.out.2.2.setCell hp8 _).setCell hp8 _).setCell hp9 _).setCell hp9 _, (HN.out.1.box hz80 _ _).box z90 _ _, (HN.out.2.1.box hz80 _ _).box z90 _ _⟩
        refine AllReadyH.cons rfl (fun K hK => ?_) AllReadyH.nil
        go_simp
        refine hK.out _ _ ⟨cell_kept ((((Kept.refl w3).drew.alloc _).trans hk4).alloc _) hA0, cell_kept ((((Kept.refl w3).drew.alloc _).trans hk4).alloc _) hA1, cell_kept ((((Kept.refl w3).drew.alloc _).trans hk4).alloc _) hB0, cell_kept ((((Kept.refl w3).drew.alloc _).trans hk4).alloc _) hB1⟩ (fun hHeld => ?_)
        clear hK K
        refine wpAnyH_ready (rs := [3]) (by kernel_rfl) (by simp) ?_
        refine AllReadyH.cons rfl (fun K hK => ?_) AllReadyH.nil
        go_simp
        refine (lent_any mb ab b.length cb b _ (HB3.out.kept ((((Kept.refl w3).drew.alloc _).trans hk4).alloc _)) hlb).mono ?_
        rintro e w5 ⟨hk5, by_, cy, rfl, hY⟩
        have hs5 : w3.heap.size ≤ w5.heap.size := (((((Kept.refl w3).drew.alloc _).trans hk4).alloc _).trans hk5).size
        have ht5 := hk5.size
        try simp at ht5
        have hY := hY.mono (((((Kept.refl w3).drew.alloc _).trans hk4).alloc _)).size
        refine hK.out _ _ ⟨cell_kept (((((Kept.refl w3).drew.alloc _).trans hk4).alloc _).trans hk5) hA0, cell_kept (((((Kept.refl w3).drew.alloc _).trans hk4).alloc _).trans hk5) hA1, cell_kept (((((Kept.refl w3).drew.alloc _).trans hk4).alloc _).trans hk5) hB0, cell_kept (((((Kept.refl w3).drew.alloc _).trans hk4).alloc _).trans hk5) hB1⟩ (fun hHeld => ?_)
        clear hK K
        have hz80 : w5.cell? ⟨w3.heap.size, 0, none⟩ = some (.bool false) := cell_kept ((((Kept.refl _).trans hk4).alloc _).trans hk5) (World.cell?_alloc_at _ _ _ _ (by simp))
        have hg80 : w5.frozen? ⟨w3.heap.size, 0, none⟩ = false := (((((Kept.refl _).trans hk4).alloc _).trans hk5).frozens _ _ (by simp)).trans (World.frozen?_alloc_at _ _ _ _ (by simp))
        have hz81 : w5.cell? ⟨w3.heap.size, 1, none⟩ = some (.slice none 0 0) := cell_kept ((((Kept.refl _).trans hk4).alloc _).trans hk5) (World.cell?_alloc_at _ _ _ _ (by simp))
        have hg81 : w5.frozen? ⟨w3.heap.size, 1, none⟩ = false := (((((Kept.refl _).trans hk4).alloc _).trans hk5).frozens _ _ (by simp)).trans (World.frozen?_alloc_at _ _ _ _ (by simp))
        have hz90 : w5.cell? ⟨w4.heap.size, 0, none⟩ = some (.bool false) := cell_kept ((Kept.refl _).trans hk5) (World.cell?_alloc_at _ _ _ _ (by simp))
        have hg90 : w5.frozen? ⟨w4.heap.size, 0, none⟩ = false := (((Kept.refl _).trans hk5).frozens _ _ (by simp)).trans (World.frozen?_alloc_at _ _ _ _ (by simp))
        have hz91 : w5.cell? ⟨w4.heap.size, 1, none⟩ = some (.slice none 0 0) := cell_kept ((Kept.refl _).trans hk5) (World.cell?_alloc_at _ _ _ _ (by simp))
        have hg91 : w5.frozen? ⟨w4.heap.size, 1, none⟩ = false := (((Kept.refl _).trans hk5).frozens _ _ (by simp)).trans (World.frozen?_alloc_at _ _ _ _ (by simp))
        obtain ⟨p8, hp⟩ : ∃ p, p = w3.heap.size := ⟨_, rfl⟩
        obtain ⟨p9, hq⟩ : ∃ p, p = w4.heap.size := ⟨_, rfl⟩
        have hp8 : w3.heap.size ≤ p8 := by omega
        have hp9 : w3.heap.size ≤ p9 := by omega
        have hne : ¬ (p8 = p9) := by omega
        have hne' : ¬ (p9 = p8) := by omega
        rw [← hp] at hz80 hz81 hg80 hg81 ⊢
        rw [← hq] at hz90 hz91 hg90 hg91 ⊢
        clear hp hq
        have hKT : Kept w3 w5 := (((((Kept.refl w3).drew.alloc _).trans hk4).alloc _).trans hk5)
        have ghA0 := cell_kept hKT hA0
        have ghA1 := cell_kept hKT hA1
        have ghB0 := cell_kept hKT hB0
        have ghB1 := cell_kept hKT hB1
        have HN : Hid (Lent w3.heap.size w5 bx a.length cx a ∧ Lent w3.heap.size w5 by_ b.length cy b ∧ Kept w3 w5) := ⟨hX.kept (((Kept.refl _).alloc _).trans hk5), hY.kept (Kept.refl _), hKT⟩
        clear hX hY hk4 hk5 hHeld hKT
        generalize w5 = Wx at ghA0 ghA1 ghB0 ghB1 hz80 hz81 hz90 hz91 hg80 hg81 hg90 hg91 HN ⊢
        refine wpAnyH_ready (rs := [6]) (by kernel_rfl) (by simp) ?_
        refine AllReadyH.cons rfl (fun K hK => ?_) AllReadyH.nil
        go_simp
        refine hK.out _ _ ⟨set2_far (p := p8) ghA0 (by omega), set2_far (p := p8) ghA1 (by omega), set2_far (p := p8) ghB0 (by omega), set2_far (p := p8) ghB1 (by omega)⟩ (fun hHeld => ?_)
        clear hK K
        refine wpAnyH_ready (rs := [7]) (by kernel_rfl) (by simp) ?_
        refine AllReadyH.cons rfl (fun K hK => ?_) AllReadyH.nil
        go_simp
        refine hK.out _ _ ⟨set2_far (p := p9) (set2_far (p := p8) ghA0 (by omega)) (by omega), set2_far (p := p9) (set2_far (p := p8) ghA1 (by omega)) (by omega), set2_far (p := p9) (set2_far (p := p8) ghB0 (by omega)) (by omega), set2_far (p := p9) (set2_far (p := p8) ghB1 (by omega)) (by omega)⟩ (fun hHeld => ?_)
        clear hK K
        refine wpAnyH_done (by kernel_rfl) ?_ _
        go_wp2_with fail
        go_meet
        case rel =>
          have e8 := set2_at (x := .bool ma) (y := .slice (some ⟨bx, 0, none⟩) a.length cx) hz80 hz81
          have z90 := set2_far (x := .bool ma) (y := .slice (some ⟨bx, 0, none⟩) a.length cx) hz90 hne
          have z91 := set2_far (x := .bool ma) (y := .slice (some ⟨bx, 0, none⟩) a.length cx) hz91 hne
          have e9 := set2_at (x := .bool mb) (y := .slice (some ⟨by_, 0, none⟩) b.length cy) z90 z91
          exact ⟨p8, p9, bx, by_, cx, cy, rfl, rfl, set2_far e8.1 hne', set2_far e8.2 hne', e9.1, e9.2, (((HN.out.2.2.setCell hp8 _).setCell hp8 _).setCell hp9 _).setCell hp9 _, (HN.out.1.box hz80 _ _).box z90 _ _, (HN.out.2.1.box hz80 _ _).box z90 _ _⟩
      refine AllReadyH.cons rfl (fun K hK => ?_) AllReadyH.nil
      go_simp
      refine hK.out _ _ ⟨cell_kept (((Kept.refl w3).drew.alloc _).alloc _) hA0, cell_kept (((Kept.refl w3).drew.alloc _).alloc _) hA1, cell_kept (((Kept.refl w3).drew.alloc _).alloc _) hB0, cell_kept (((Kept.refl w3).drew.alloc _).alloc _) hB1⟩ (fun hHeld => ?_)
      clear hK K
      refine wpAnyH_ready (rs := [1]) (by kernel_rfl) (by simp) ?_
      refine AllReadyH.cons rfl (fun K hK => ?_) AllReadyH.nil
      go_simp
      refine (lent_any ma aa a.length ca a _ (HA3.out.kept (((Kept.refl w3).drew.alloc _).alloc _)) hla).mono ?_
      rintro e w4 ⟨hk4, bx, cx, rfl, hX⟩
      have hs4 : w3.heap.size ≤ w4.heap.size := ((((Kept.refl w3).drew.alloc _).alloc _).trans hk4).size
      have ht4 := hk4.size
      try simp at ht4
      have hX := hX.mono ((((Kept.refl w3).drew.alloc _).alloc _)).size
      refine hK.out _ _ ⟨cell_kept ((((Kept.refl w3).drew.alloc _).alloc _).trans hk4) hA0, cell_kept ((((Kept.refl w3).drew.alloc _).alloc _).trans hk4) hA1, cell_kept ((((Kept.refl w3).drew.alloc _).alloc _).trans hk4) hB0, cell_kept ((((Kept.refl w3).drew.alloc _).alloc _).trans hk4) hB1⟩ (fun hHeld => ?_)
      clear hK K
      refine wpAnyH_ready (rs := [3]) (by kernel_rfl) (by simp) ?_
      refine AllReadyH.cons rfl (fun K hK => ?_) AllReadyH.nil
      go_simp
      refine (lent_any mb ab b.length cb b _ (HB3.out.kept ((((Kept.refl w3).drew.alloc _).alloc _).trans hk4)) hlb).mono ?_
      rintro e w5 ⟨hk5, by_, cy, rfl, hY⟩
      have hs5 : w3.heap.size ≤ w5.heap.size := (((((Kept.refl w3).drew.alloc _).alloc _).trans hk4).trans hk5).size
      have ht5 := hk5.size
      try simp at ht5
      have hY := hY.mono (((((Kept.refl w3).drew.alloc _).alloc _).trans hk4)).size
      refine hK.out _ _ ⟨cell_kept (((((Kept.refl w3).drew.alloc _).alloc _).trans hk4).trans hk5) hA0, cell_kept (((((Kept.refl w3).drew.alloc _).alloc _).trans hk4).trans hk5) hA1, cell_kept (((((Kept.refl w3).drew.alloc _).alloc _).trans hk4).trans hk5) hB0, cell_kept (((((Kept.refl w3).drew.alloc _).alloc _).trans hk4).trans hk5) hB1⟩ (fun hHeld => ?_)
      clear hK K
      have hz80 : w5.cell? ⟨w3.heap.size, 0, none⟩ = some (.bool false) := cell_kept ((((Kept.refl _).alloc _).trans hk4).trans hk5) (World.cell?_alloc_at _ _ _ _ (by simp))
      have hg80 : w5.frozen? ⟨w3.heap.size, 0, none⟩ = false := (((((Kept.refl _).alloc _).trans hk4).trans hk5).frozens _ _ (by simp)).trans (World.frozen?_alloc_at _ _ _ _ (by simp))
      have hz81 : w5.cell? ⟨w3.heap.size, 1, none⟩ = some (.slice none 0 0) := cell_kept ((((Kept.refl _).alloc _).trans hk4).trans hk5) (World.cell?_alloc_at _ _ _ _ (by simp))
      have hg81 : w5.frozen? ⟨w3.heap.size, 1, none⟩ = false := (((((Kept.refl _).alloc _).trans hk4).trans hk5).frozens _ _ (by simp)).trans (World.frozen?_alloc_at _ _ _ _ (by simp))
      have hz90 : w5.cell? ⟨w3.heap.size + 1, 0, none⟩ = some (.bool false) := cell_kept (((Kept.refl _).trans hk4).trans hk5) (World.cell?_alloc_at _ _ _ _ (by simp))
      have hg90 : w5.frozen? ⟨w3.heap.size + 1, 0, none⟩ = false := ((((Kept.refl _).trans hk4).trans hk5).frozens _ _ (by simp)).trans (World.frozen?_alloc_at _ _ _ _ (by simp))
      have hz91 : w5.cell? ⟨w3.heap.size + 1, 1, none⟩ = some (.slice none 0 0) := cell_kept (((Kept.refl _).trans hk4).trans hk5) (World.cell?_alloc_at _ _ _ _ (by simp))
      have hg91 : w5.frozen? ⟨w3.heap.size + 1, 1, none⟩ = false := ((((Kept.refl _).trans hk4).trans hk5).frozens _ _ (by simp)).trans (World.frozen?_alloc_at _ _ _ _ (by simp))
      obtain ⟨p8, hp⟩ : ∃ p, p = w3.heap.size := ⟨_, rfl⟩
      obtain ⟨p9, hq⟩ : ∃ p, p = w3.heap.size + 1 := ⟨_, rfl⟩
      have hp8 : w3.heap.size ≤ p8 := by omega
      have hp9 : w3.heap.size ≤ p9 := by omega
      have hne : ¬ (p8 = p9) := by omega
      have hne' : ¬ (p9 = p8) := by omega
      rw [← hq] at hz90 hz91 hg90 hg91 ⊢
      rw [← hp] at hz80 hz81 hg80 hg81 ⊢
      clear hp hq
      have hKT : Kept w3 w5 := (((((Kept.refl w3).drew.alloc _).alloc _).trans hk4).trans hk5)
      have ghA0 := cell_kept hKT hA0
      have ghA1 := cell_kept hKT hA1
      have ghB0 := cell_kept hKT hB0
      have ghB1 := cell_kept hKT hB1
      have HN : Hid (Lent w3.heap.size w5 bx a.length cx a ∧ Lent w3.heap.size w5 by_ b.length cy b ∧ Kept w3 w5) := ⟨hX.kept ((Kept.refl _).trans hk5), hY.kept (Kept.refl _), hKT⟩
      clear hX hY hk4 hk5 hHeld hKT
      generalize w5 = Wx at ghA0 ghA1 ghB0 ghB1 hz80 hz81 hz90 hz91 hg80 hg81 hg90 hg91 HN ⊢
      refine wpAnyH_ready (rs := [6]) (by kernel_rfl) (by simp) ?_
      refine AllReadyH.cons rfl (fun K hK => ?_) AllReadyH.nil
      go_simp
      refine hK.out _ _ ⟨set2_far (p := p8) ghA0 (by omega), set2_far (p := p8) ghA1 (by omega), set2_far (p := p8) ghB0 (by omega), set2_far (p := p8) ghB1 (by omega)⟩ (fun hHeld => ?_)
      clear hK K
      refine wpAnyH_ready (rs := [7]) (by kernel_rfl) (by simp) ?_
      refine AllReadyH.cons rfl (fun K hK => ?_) AllReadyH.nil
      go_simp
      refine hK.out _ _ ⟨set2_far (p := p9) (set2_far (p := p8) ghA0 (by omega)) (by omega), set2_far (p := p9) (set2_far (p := p8) ghA1 (by omega)) (by omega), set2_far (p := p9) (set2_far (p := p8) ghB0 (by omega)) (by omega), set2_far (p := p9) (set2_far (p := p8) ghB1 (by omega)) (by omega)⟩ (fun hHeld => ?_)
      clear hK K
      refine wpAnyH_done (by kernel_rfl) ?_ _
      go_wp2_with fail
      go_meet
      case rel =>
        have e8 := set2_at (x := .bool ma) (y := .slice (some ⟨bx, 0, none⟩) a.length cx) hz80 hz81
        have z90 := set2_far (x := .bool ma) (y := .slice (some ⟨bx, 0, none⟩) a.length cx) hz90 hne
        have z91 := set2_far (x := .bool ma) (y := .slice (some ⟨bx, 0, none⟩) a.length cx) hz91 hne
        have e9 := set2_at (x := .bool mb) (y := .slice (some ⟨by_, 0, none⟩) b.length cy) z90 z91
        exact ⟨p8, p9, bx, by_, cx, cy, rfl, rfl, set2_far e8.1 hne', set2_far e8.2 hne', e9.1, e9.2, (((HN.out.2.2.setCell hp8 _).setCell hp8 _).setCell hp9 _).setCell hp9 _, (HN.out.1.box hz80 _ _).box z90 _ _, (HN.out.2.1.box hz80 _ _).box z90 _ _⟩
    refine AllReadyH.cons rfl (fun K hK => ?_) AllReadyH.nil
    go_simp
    refine hK.out _ _ ⟨cell_kept ((Kept.refl w3).drew.alloc _) hA0, cell_kept ((Kept.refl w3).drew.alloc _) hA1, cell_kept ((Kept.refl w3).drew.alloc _) hB0, cell_kept ((Kept.refl w3).drew.alloc _) hB1⟩ (fun hHeld => ?_)
    clear hK K
    refine wpAnyH_ready (rs := [1, 4]) (by kernel_rfl) (by simp) ?_
    refine AllReadyH.cons rfl (fun K hK => ?_) ?_
    · go_simp
      refine (lent_any ma aa a.length ca a _ (HA3.out.kept ((Kept.refl w3).drew.alloc _)) hla).mono ?_
      rintro e w4 ⟨hk4, bx, cx, rfl, hX⟩
      have hs4 : w3.heap.size ≤ w4.heap.size := (((Kept.refl w3).drew.alloc _).trans hk4).size
      have ht4 := hk4.size
      try simp at ht4
      have hX := hX.mono (((Kept.refl w3).drew.alloc _)).size
      refine hK.out _ _ ⟨cell_kept (((Kept.refl w3).drew.alloc _).trans hk4) hA0, cell_kept (((Kept.refl w3).drew.alloc _).trans hk4) hA1, cell_kept (((Kept.refl w3).drew.alloc _).trans hk4) hB0, cell_kept (((Kept.refl w3).drew.alloc _).trans hk4) hB1⟩ (fun hHeld => ?_)
      clear hK K
      refine wpAnyH_ready (rs := [3, 4]) (by kernel_rfl) (by simp) ?_
      refine AllReadyH.cons rfl (fun K hK => ?_) ?_
      · go_simp
        refine (lent_any mb ab b.length cb b _ (HB3.out.kept (((Kept.refl w3).drew.alloc _).trans hk4)) hlb).mono ?_
        rintro e w5 ⟨hk5, by_, cy, rfl, hY⟩
        have hs5 : w3.heap.size ≤ w5.heap.size := ((((Kept.refl w3).drew.alloc _).trans hk4).trans hk5).size
        have ht5 := hk5.size
        try simp at ht5
        have hY := hY.mono ((((Kept.refl w3).drew.alloc _).trans hk4)).size
        refine hK.out _ _ ⟨cell_kept ((((Kept.refl w3).drew.alloc _).trans hk4).trans hk5) hA0, cell_kept ((((Kept.refl w3).drew.alloc _).trans hk4).trans hk5) hA1, cell_kept ((((Kept.refl w3).drew.alloc _).trans hk4).trans hk5) hB0, cell_kept ((((Kept.refl w3).drew.alloc _).trans hk4).trans hk5) hB1⟩ (fun hHeld => ?_)
        clear hK K
        refine wpAnyH_ready (rs := [4]) (by kernel_rfl) (by simp) ?_
        refine AllReadyH.cons rfl (fun K hK => ?_) AllReadyH.nil
        go_simp
        refine hK.out _ _ ⟨cell_kept (((((Kept.refl w3).drew.alloc _).trans hk4).trans hk5).alloc _) hA0, cell_kept (((((Kept.refl w3).drew.alloc _).trans hk4).trans hk5).alloc _) hA1, cell_kept (((((Kept.refl w3).drew.alloc _).trans hk4).trans hk5).alloc _) hB0, cell_kept (((((Kept.refl w3).drew.alloc _).trans hk4).trans hk5).alloc _) hB1⟩ (fun hHeld => ?_)
        clear hK K
        have hz80 : (w5.alloc (Obj.cells #[.bool false, .slice none 0 0] 24)).cell? ⟨w5.heap.size, 0, none⟩ = some (.bool false) := cell_kept (Kept.refl _) (World.cell?_alloc_at _ _ _ _ (by simp))
        have hg80 : (w5.alloc (Obj.cells #[.bool false, .slice none 0 0] 24)).frozen? ⟨w5.heap.size, 0, none⟩ = false := ((Kept.refl _).frozens _ _ (by simp)).trans (World.frozen?_alloc_at _ _ _ _ (by simp))
        have hz81 : (w5.alloc (Obj.cells #[.bool false, .slice none 0 0] 24)).cell? ⟨w5.heap.size, 1, none⟩ = some (.slice none 0 0) := cell_kept (Kept.refl _) (World.cell?_alloc_at _ _ _ _ (by simp))
        have hg81 : (w5.alloc (Obj.cells #[.bool false, .slice none 0 0] 24)).frozen? ⟨w5.heap.size, 1, none⟩ = false := ((Kept.refl _).frozens _ _ (by simp)).trans (World.frozen?_alloc_at _ _ _ _ (by simp))
        have hz90 : (w5.alloc (Obj.cells #[.bool false, .slice none 0 0] 24)).cell? ⟨w3.heap.size, 0, none⟩ = some (.bool false) := cell_kept ((((Kept.refl _).trans hk4).trans hk5).alloc _) (World.cell?_alloc_at _ _ _ _ (by simp))
        have hg90 : (w5.alloc (Obj.cells #[.bool false, .slice none 0 0] 24)).frozen? ⟨w3.heap.size, 0, none⟩ = false := (((((Kept.refl _).trans hk4).trans hk5).alloc _).frozens _ _ (by simp)).trans (World.frozen?_alloc_at _ _ _ _ (by simp))
        have hz91 : (w5.alloc (Obj.cells #[.bool false, .slice none 0 0] 24)).cell? ⟨w3.heap.size, 1, none⟩ = some (.slice none 0 0) := cell_kept ((((Kept.refl _).trans hk4).trans hk5).alloc _) (World.cell?_alloc_at _ _ _ _ (by simp))
        have hg91 : (w5.alloc (Obj.cells #[.bool false, .slice none 0 0] 24)).frozen? ⟨w3.heap.size, 1, none⟩ = false := (((((Kept.refl _).trans hk4).trans hk5).alloc _).frozens _ _ (by simp)).trans (World.frozen?_alloc_at _ _ _ _ (by simp))
        obtain ⟨p8, hp⟩ : ∃ p, p = w5.heap.size := ⟨_, rfl⟩
        obtain ⟨p9, hq⟩ : ∃ p, p = w3.heap.size := ⟨_, rfl⟩
        have hp8 : w3.heap.size ≤ p8 := by omega
        have hp9 : w3.heap.size ≤ p9 := by omega
        have hne : ¬ (p8 = p9) := by omega
        have hne' : ¬ (p9 = p8) := by omega
        rw [← hp] at hz80 hz81 hg80 hg81 ⊢
        rw [← hq] at hz90 hz91 hg90 hg91 ⊢
        clear hp hq
        have hKT : Kept w3 (w5.alloc (Obj.cells #[.bool false, .slice none 0 0] 24)) := (((((Kept.refl w3).drew.alloc _).trans hk4).trans hk5).alloc _)
        have ghA0 := cell_kept hKT hA0
        have ghA1 := cell_kept hKT hA1
        have ghB0 := cell_kept hKT hB0
        have ghB1 := cell_kept hKT hB1
        have HN : Hid (Lent w3.heap.size (w5.alloc (Obj.cells #[.bool false, .slice none 0 0] 24)) bx a.length cx a ∧ Lent w3.heap.size (w5.alloc (Obj.cells #[.bool false, .slice none 0 0] 24)) by_ b.length cy b ∧ Kept w3 (w5.alloc (Obj.cells #[.bool false, .slice none 0 0] 24))) := ⟨hX.kept (((Kept.refl _).trans hk5).alloc _), hY.kept ((Kept.refl _).alloc _), hKT⟩
        clear hX hY hk4 hk5 hHeld hKT
        generalize (w5.alloc (Obj.cells #[.bool false, .slice none 0 0] 24)) = Wx at ghA0 ghA1 ghB0 ghB1 hz80 hz81 hz90 hz91 hg80 hg81 hg90 hg91 HN ⊢
        refine wpAnyH_ready (rs := [6]) (by kernel_rfl) (by simp) ?_
        refine AllReadyH.cons rfl (fun K hK => ?_) AllReadyH.nil
        go_simp
        refine hK.out _ _ ⟨set2_far (p := p8) ghA0 (by omega), set2_far (p := p8) ghA1 (by omega), set2_far (p := p8) ghB0 (by omega), set2_far (p := p8) ghB1 (by omega)⟩ (fun hHeld => ?_)
        clear hK K
        refine wpAnyH_ready (rs := [7]) (by kernel_rfl) (by simp) ?_
        refine AllReadyH.cons rfl (fun K hK => ?_) AllReadyH.nil
        go_simp
        refine hK.out _ _ ⟨set2_far (p := p9) (set2_far (p := p8) ghA0 (by omega)) (by omega), set2_far (p := p9) (set2_far (p := p8) ghA1 (by omega)) (by omega), set2_far (p := p9) (set2_far (p := p8) ghB0 (by omega)) (by omega), set2_far (p := p9) (set2_far (p := p8) ghB1 (by omega)) (by omega)⟩ (fun hHeld => ?_)
        clear hK K
        refine wpAnyH_done (by kernel_rfl) ?_ _
        go_wp2_with fail
        go_meet
        case rel =>
          have e8 := set2_at (x := .bool ma) (y := .slice (some ⟨bx, 0, none⟩) a.length cx) hz80 hz81
          have z90 := set2_far (x := .bool ma) (y := .slice (some ⟨bx, 0, none⟩) a.length cx) hz90 hne
          have z91 := set2_far (x := .bool ma) (y := .slice (some ⟨bx, 0, none⟩) a.length cx) hz91 hne
          have e9 := set2_at (x := .bool mb) (y := .slice (some ⟨by_, 0, none⟩) b.length cy) z90 z91
          exact ⟨p8, p9, bx, by_, cx, cy, rfl, rfl, set2_far e8.1 hne', set2_far e8.2 hne', e9.1, e9.2, (((HN.out.2.2.setCell hp8 _).setCell hp8 _).setCell hp9 _).setCell hp9 _, (HN.out.1.box hz80 _ _).box z90 _ _, (HN.out.2.1.box hz80 _ _).box z90 _ _⟩
      refine AllReadyH.cons rfl (fun K hK => ?_) AllReadyH.nil
      go_simp
      refine hK.out _ _ ⟨cell_kept ((((Kept.refl w3).drew.alloc _).trans hk4).alloc _) hA0, cell_kept ((((Kept.refl w3).drew.alloc _).trans hk4).alloc _) hA1, cell_kept ((((Kept.refl w3).drew.alloc _).trans hk4).alloc _) hB0, cell_kept ((((Kept.refl w3).drew.alloc _).trans hk4).alloc _) hB1⟩ (fun hHeld => ?_)
      clear hK K
      refine wpAnyH_ready (rs := [3]) (by kernel_rfl) (by simp) ?_
      refine AllReadyH.cons rfl (fun K hK => ?_) AllReadyH.nil
      go_simp
      refine (lent_any mb ab b.length cb b _ (HB3.out.kept ((((Kept.refl w3).drew.alloc _).trans hk4).alloc _)) hlb).mono ?_
      rintro e w5 ⟨hk5, by_, cy, rfl, hY⟩
      have hs5 : w3.heap.size ≤ w5.heap.size := (((((Kept.refl w3).drew.alloc _).trans hk4).alloc _).trans hk5).size
      have ht5 := hk5.size
      try simp at ht5
      have hY := hY.mono (((((Kept.refl w3).drew.alloc _).trans hk4).alloc _)).size
      refine hK.out _ _ ⟨cell_kept (((((Kept.refl w3).drew.alloc _).trans hk4).alloc _).trans hk5) hA0, cell_kept (((((Kept.refl w3).drew.alloc _).trans hk4).alloc _).trans hk5) hA1, cell_kept (((((Kept.refl w3).drew.alloc _).trans hk4).alloc _).trans hk5) hB0, cell_kept (((((Kept.refl w3).drew.alloc _).trans hk4).alloc _).trans hk5) hB1⟩ (fun hHeld => ?_)
      clear hK K
      have hz80 : w5.cell? ⟨w4.heap.size, 0, none⟩ = some (.bool false) := cell_kept ((Kept.refl _).trans hk5) (World.cell?_alloc_at _ _ _ _ (by simp))
      have hg80 : w5.frozen? ⟨w4.heap.size, 0, none⟩ = false := (((Kept.refl _).trans hk5).frozens _ _ (by simp)).trans (World.frozen?_alloc_at _ _ _ _ (by simp))
      have hz81 : w5.cell? ⟨w4.heap.size, 1, none⟩ = some (.slice none 0 0) := cell_kept ((Kept.refl _).trans hk5) (World.cell?_alloc_at _ _ _ _ (by simp))
      have hg81 : w5.frozen? ⟨w4.heap.size, 1, none⟩ = false := (((Kept.refl _).trans hk5).frozens _ _ (by simp)).trans (World.frozen?_alloc_at _ _ _ _ (by simp))
      have hz90 : w5.cell? ⟨w3.heap.size, 0, none⟩ = some (.bool false) := cell_kept ((((Kept.refl _).trans hk4).alloc _).trans hk5) (World.cell?_alloc_at _ _ _ _ (by simp))
      have hg90 : w5.frozen? ⟨w3.heap.size, 0, none⟩ = false := (((((Kept.refl _).trans hk4).alloc _).trans hk5).frozens _ _ (by simp)).trans (World.frozen?_alloc_at _ _ _ _ (by simp))
      have hz91 : w5.cell? ⟨w3.heap.size, 1, none⟩ = some (.slice none 0 0) := cell_kept ((((Kept.refl _).trans hk4).alloc _).trans hk5) (World.cell?_alloc_at _ _ _ _ (by simp))
      have hg91 : w5.frozen? ⟨w3.heap.size, 1, none⟩ = false := (((((Kept.refl _).trans hk4).alloc _).trans hk5).frozens _ _ (by simp)).trans (World.frozen?_alloc_at _ _ _ _ (by simp))
      obtain ⟨p8, hp⟩ : ∃ p, p = w4.heap.size := ⟨_, rfl⟩
      obtain ⟨p9, hq⟩ : ∃ p, p = w3.heap.size := ⟨_, rfl⟩
      have hp8 : w3.heap.size ≤ p8 := by omega
      have hp9 : w3.heap.size ≤ p9 := by omega
      have hne : ¬ (p8 = p9) := by omega
      have hne' : ¬ (p9 = p8) := by omega
      rw [← hp] at hz80 hz81 hg80 hg81 ⊢
      rw [← hq] at hz90 hz91 hg90 hg91 ⊢
      clear hp hq
      have hKT : Kept w3 w5 := (((((Kept.refl w3).drew.alloc _).trans hk4).alloc _).trans hk5)
      have ghA0 := cell_kept hKT hA0
      have ghA1 := cell_kept hKT hA1
      have ghB0 := cell_kept hKT hB0
      have ghB1 := cell_kept hKT hB1
      have HN : Hid (Lent w3.heap.size w5 bx a.length cx a ∧ Lent w3.heap.size w5 by_ b.length cy b ∧ Kept w3 w5) := ⟨hX.kept (((Kept.refl _).alloc _).trans hk5), hY.kept (Kept.refl _), hKT⟩
      clear hX hY hk4 hk5 hHeld hKT
      generalize w5 = Wx at ghA0 ghA1 ghB0 ghB1 hz80 hz81 hz90 hz91 hg80 hg81 hg90 hg91 HN ⊢
      refine wpAnyH_ready (rs := [6]) (by kernel_rfl) (by simp) ?_
      refine AllReadyH.cons rfl (fun K hK => ?_) AllReadyH.nil
      go_simp
      refine hK.out _ _ ⟨set2_far (p := p8) ghA0 (by omega), set2_far (p := p8) ghA1 (by omega), set2_far (p := p8) ghB0 (by omega), set2_far (p := p8) ghB1 (by omega)⟩ (fun hHeld => ?_)
      clear hK K
      refine wpAnyH_ready (rs := [7]) (by kernel_rfl) (by simp) ?_
      refine AllReadyH.cons rfl (fun K hK => ?_) AllReadyH.nil
      go_simp
      refine hK.out _ _ ⟨set2_far (p := p9) (set2_far (p := p8) ghA0 (by omega)) (by omega), set2_far (p := p9) (set2_far (p := p8) ghA1 (by omega)) (by omega), set2_far (p := p9) (set2_far (p := p8) ghB0 (by omega)) (by omega), set2_far (p := p9) (set2_far (p := p8) ghB1 (by omega)) (by omega)⟩ (fun hHeld => ?_)
      clear hK K
      refine wpAnyH_done (by kernel_rfl) ?_ _
      go_wp2_with fail
      go_meet
      case rel =>
        have e8 := set2_at (x := .bool ma) (y := .slice (some ⟨bx, 0, none⟩) a.length cx) hz80 hz81
        have z90 := set2_far (x := .bool ma) (y := .slice (some ⟨bx, 0, none⟩) a.length cx) hz90 hne
        have z91 := set2_far (x := .bool ma) (y := .slice (some ⟨bx, 0, none⟩) a.length cx) hz91 hne
        have e9 := set2_at (x := .bool mb) (y := .slice (some ⟨by_, 0, none⟩) b.length cy) z90 z91
        exact ⟨p8, p9, bx, by_, cx, cy, rfl, rfl, set2_far e8.1 hne', set2_far e8.2 hne', e9.1, e9.2, (((HN.out.2.2.setCell hp8 _).setCell hp8 _).setCell hp9 _).setCell hp9 _, (HN.out.1.box hz80 _ _).box z90 _ _, (HN.out.2.1.box hz80 _ _).box z90 _ _⟩
    refine AllReadyH.cons rfl (fun K hK => ?_) AllReadyH.nil
    go_simp
    refine hK.out _ _ ⟨cell_kept (((Kept.refl w3).drew.alloc _).alloc _) hA0, cell_kept (((Kept.refl w3).drew.alloc _).alloc _) hA1, cell_kept (((Kept.refl w3).drew.alloc _).alloc _) hB0, cell_kept (((Kept.refl w3).drew.alloc _).alloc _) hB1⟩ (fun hHeld => ?_)
    clear hK K
    refine wpAnyH_ready (rs := [1]) (by kernel_rfl) (by simp) ?_
    refine AllReadyH.cons rfl (fun K hK => ?_) AllReadyH.nil
    go_simp
    refine (lent_any ma aa a.length ca a _ (HA3.out.kept (((Kept.refl w3).drew.alloc _).alloc _)) hla).mono ?_
    rintro e w4 ⟨hk4, bx, cx, rfl, hX⟩
    have hs4 : w3.heap.size ≤ w4.heap.size := ((((Kept.refl w3).drew.alloc _).alloc _).trans hk4).size
    have ht4 := hk4.size
    try simp at ht4
    have hX := hX.mono ((((Kept.refl w3).drew.alloc _).alloc _)).size
    refine hK.out _ _ ⟨cell_kept ((((Kept.refl w3).drew.alloc _).alloc _).trans hk4) hA0, cell_kept ((((Kept.refl w3).drew.alloc _).alloc _).trans hk4) hA1, cell_kept ((((Kept.refl w3).drew.alloc _).alloc _).trans hk4) hB0, cell_kept ((((Kept.refl w3).drew.alloc _).alloc _).trans hk4) hB1⟩ (fun hHeld => ?_)
    clear hK K
    refine wpAnyH_ready (rs := [3]) (by kernel_rfl) (by simp) ?_
    refine AllReadyH.cons rfl (fun K hK => ?_) AllReadyH.nil
    go_simp
    refine (lent_any mb ab b.length cb b _ (HB3.out.kept ((((Kept.refl w3).drew.alloc _).alloc _).trans hk4)) hlb).mono ?_
    rintro e w5 ⟨hk5, by_, cy, rfl, hY⟩
    have hs5 : w3.heap.size ≤ w5.heap.size := (((((Kept.refl w3).drew.alloc _).alloc _).trans hk4).trans hk5).size
    have ht5 := hk5.size
    try simp at ht5
    have hY := hY.mono (((((Kept.refl w3).drew.alloc _).alloc _).trans hk4)).size
    refine hK.out _ _ ⟨cell_kept (((((Kept.refl w3).drew.alloc _).alloc _).trans hk4).trans hk5) hA0, cell_kept (((((Kept.refl w3).drew.alloc _).alloc _).trans hk4).trans hk5) hA1, cell_kept (((((Kept.refl w3).drew.alloc _).alloc _).trans hk4).trans hk5) hB0, cell_kept (((((Kept.refl w3).drew.alloc _).alloc _).trans hk4).trans hk5) hB1⟩ (fun hHeld => ?_)
    clear hK K
    have hz80 : w5.cell? ⟨w3.heap.size + 1, 0, none⟩ = some (.bool false) := cell_kept (((Kept.refl _).trans hk4).trans hk5) (World.cell?_alloc_at _ _ _ _ (by simp))
    have hg80 : w5.frozen? ⟨w3.heap.size + 1, 0, none⟩ = false := ((((Kept.refl _).trans hk4).trans hk5).frozens _ _ (by simp)).trans (World.frozen?_alloc_at _ _ _ _ (by simp))
    have hz81 : w5.cell? ⟨w3.heap.size + 1, 1, none⟩ = some (.slice none 0 0) := cell_kept (((Kept.refl _).trans hk4).trans hk5) (World.cell?_alloc_at _ _ _ _ (by simp))
    have hg81 : w5.frozen? ⟨w3.heap.size + 1, 1, none⟩ = false := ((((Kept.refl _).trans hk4).trans hk5).frozens _ _ (by simp)).trans (World.frozen?_alloc_at _ _ _ _ (by simp))
    have hz90 : w5.cell? ⟨w3.heap.size, 0, none⟩ = some (.bool false) := cell_kept ((((Kept.refl _).alloc _).trans hk4).trans hk5) (World.cell?_alloc_at _ _ _ _ (by simp))
    have hg90 : w5.frozen? ⟨w3.heap.size, 0, none⟩ = false := (((((Kept.refl _).alloc _).trans hk4).trans hk5).frozens _ _ (by simp)).trans (World.frozen?_alloc_at _ _ _ _ (by simp))
    have hz91 : w5.cell? ⟨w3.heap.size, 1, none⟩ = some (.slice none 0 0) := cell_kept ((((Kept.refl _).alloc _).trans hk4).trans hk5) (World.cell?_alloc_at _ _ _ _ (by simp))
    have hg91 : w5.frozen? ⟨w3.heap.size, 1, none⟩ = false := (((((Kept.refl _).alloc _).trans hk4).trans hk5).frozens _ _ (by simp)).trans (World.frozen?_alloc_at _ _ _ _ (by simp))
    obtain ⟨p8, hp⟩ : ∃ p, p = w3.heap.size + 1 := ⟨_, rfl⟩
    obtain ⟨p9, hq⟩ : ∃ p, p = w3.heap.size := ⟨_, rfl⟩
    have hp8 : w3.heap.size ≤ p8 := by omega
    have hp9 : w3.heap.size ≤ p9 := by omega
    have hne : ¬ (p8 = p9) := by omega
    have hne' : ¬ (p9 = p8) := by omega
    rw [← hp] at hz80 hz81 hg80 hg81 ⊢
    rw [← hq] at hz90 hz91 hg90 hg91 ⊢
    clear hp hq
    have hKT : Kept w3 w5 := (((((Kept.refl w3).drew.alloc _).alloc _).trans hk4).trans hk5)
    have ghA0 := cell_kept hKT hA0
    have ghA1 := cell_kept hKT hA1
    have ghB0 := cell_kept hKT hB0
    have ghB1 := cell_kept hKT hB1
    have HN : Hid (Lent w3.heap.size w5 bx a.length cx a ∧ Lent w3.heap.size w5 by_ b.length cy b ∧ Kept w3 w5) := ⟨hX.kept ((Kept.refl _).trans hk5), hY.kept (Kept.refl _), hKT⟩
    clear hX hY hk4 hk5 hHeld hKT
    generalize w5 = Wx at ghA0 ghA1 ghB0 ghB1 hz80 hz81 hz90 hz91 hg80 hg81 hg90 hg91 HN ⊢
    refine wpAnyH_ready (rs := [6]) (by kernel_rfl) (by simp) ?_
    refine AllReadyH.cons rfl (fun K hK => ?_) AllReadyH.nil
    go_simp
    refine hK.out _ _ ⟨set2_far (p := p8) ghA0 (by omega), set2_far (p := p8) ghA1 (by omega), set2_far (p := p8) ghB0 (by omega), set2_far (p := p8) ghB1 (by omega)⟩ (fun hHeld => ?_)
    clear hK K
    refine wpAnyH_ready (rs := [7]) (by kernel_rfl) (by simp) ?_
    refine AllReadyH.cons rfl (fun K hK => ?_) AllReadyH.nil
    go_simp
    refine hK.out _ _ ⟨set2_far (p := p9) (set2_far (p := p8) ghA0 (by omega)) (by omega), set2_far (p := p9) (set2_far (p := p8) ghA1 (by omega)) (by omega), set2_far (p := p9) (set2_far (p := p8) ghB0 (by omega)) (by omega), set2_far (p := p9) (set2_far (p := p8) ghB1 (by omega)) (by omega)⟩ (fun hHeld => ?_)
    clear hK K
    refine wpAnyH_done (by kernel_rfl) ?_ _
    go_wp2_with fail
    go_meet
    case rel =>
      have e8 := set2_at (x := .bool ma) (y := .slice (some ⟨bx, 0, none⟩) a.length cx) hz80 hz81
      have z90 := set2_far (x := .bool ma) (y := .slice (some ⟨bx, 0, none⟩) a.length cx) hz90 hne
      have z91 := set2_far (x := .bool ma) (y := .slice (some ⟨bx, 0, none⟩) a.length cx) hz91 hne
      have e9 := set2_at (x := .bool mb) (y := .slice (some ⟨by_, 0, none⟩) b.length cy) z90 z91
      exact ⟨p8, p9, bx, by_, cx, cy, rfl, rfl, set2_far e8.1 hne', set2_far e8.2 hne', e9.1, e9.2, (((HN.out.2.2.setCell hp8 _).setCell hp8 _).setCell hp9 _).setCell hp9 _, (HN.out.1.box hz80 _ _).box z90 _ _, (HN.out.2.1.box hz80 _ _).box z90 _ _⟩
  case rest =>
    obtain ⟨p5, p6, bx, by_, cx, cy, rfl, rfl, hX0, hX1, hY0, hY1, hcc⟩ := hcut
    obtain ⟨w5, hw5⟩ : ∃ w5, w5 = wc := ⟨_, rfl⟩
    subst hw5
    have HX : Hid (Lent w3.heap.size w5 bx a.length cx a) := hcc.out.2.1
    have HY : Hid (Lent w3.heap.size w5 by_ b.length cy b) := hcc.out.2.2
    have HK : Hid (Kept w w5) := HK3.out.trans hcc.out.1
    replace hA0 := cell_kept hcc.out.1 hA0
    replace hA1 := cell_kept hcc.out.1 hA1
    replace hB0 := cell_kept hcc.out.1 hB0
    replace hB1 := cell_kept hcc.out.1 hB1
    clear hcc HA3 HB3 HK3
    go_wp2_with fail
    refine (H1 _ _ _ _ _ _ _ (HX.out.sl.kept (Kept.refl w5)) (HY.out.sl.kept (Kept.refl w5))).mono ?_
    rintro e w6 ⟨hk, aQ, nQ, cQ, aR, nR, cR, rfl, hn1, hn2⟩
    have HNQ : Hid (∃ B, New B w6 (.slice aQ nQ cQ) lq) := ⟨_, hn1⟩
    have HNR : Hid (∃ B, New B w6 (.slice aR nR cR) lr) := ⟨_, hn2⟩
    have hA0 := cell_kept hk hA0
    have hA1 := cell_kept hk hA1
    have hB0 := cell_kept hk hB0
    have hB1 := cell_kept hk hB1
    have hX0 := cell_kept hk hX0
    have hX1 := cell_kept hk hX1
    have hY0 := cell_kept hk hY0
    have hY1 := cell_kept hk hY1
    have HK : Hid (Kept w w6) := HK.out.trans hk
    have HX : Hid (Lent w3.heap.size w6 bx a.length cx a) := HX.out.kept hk
    have HY : Hid (Lent w3.heap.size w6 by_ b.length cy b) := HY.out.kept hk
    clear hk hn1 hn2
    have gA0 := fun x0 x1 => cell_kept (((Kept.refl w6).alloc x0).alloc x1) hA0
    have gA1 := fun x0 x1 => cell_kept (((Kept.refl w6).alloc x0).alloc x1) hA1
    have gB0 := fun x0 x1 => cell_kept (((Kept.refl w6).alloc x0).alloc x1) hB0
    have gB1 := fun x0 x1 => cell_kept (((Kept.refl w6).alloc x0).alloc x1) hB1
    have gX0 := fun x0 x1 => cell_kept (((Kept.refl w6).alloc x0).alloc x1) hX0
    have gX1 := fun x0 x1 => cell_kept (((Kept.refl w6).alloc x0).alloc x1) hX1
    have gY0 := fun x0 x1 => cell_kept (((Kept.refl w6).alloc x0).alloc x1) hY0
    have gY1 := fun x0 x1 => cell_kept (((Kept.refl w6).alloc x0).alloc x1) hY1
    clear hA0 hA1 hB0 hB1 hX0 hX1 hY0 hY1
    go_wp2_with fail
    refine (T1 _ _ _ _ _ _ _ (HA0.out.1.kept (HK.out.trans (((Kept.refl w6).alloc _).alloc _))) (HA0.out.2.kept (HK.out.trans (((Kept.refl w6).alloc _).alloc _)))).mono ?_
    rintro e w7 ⟨hk, aQq, nQq, cQq, aRr, nRr, cRr, rfl, hn1, hn2⟩
    have HNQq : Hid (∃ B, New B w7 (.slice aQq nQq cQq) lq) := ⟨_, hn1⟩
    have HNRr : Hid (∃ B, New B w7 (.slice aRr nRr cRr) lr) := ⟨_, hn2⟩
    have hA0 := cell_kept hk (gA0 _ _)
    have hA1 := cell_kept hk (gA1 _ _)
    have hB0 := cell_kept hk (gB0 _ _)
    have hB1 := cell_kept hk (gB1 _ _)
    have hX0 := cell_kept hk (gX0 _ _)
    have hX1 := cell_kept hk (gX1 _ _)
    have hY0 := cell_kept hk (gY0 _ _)
    have hY1 := cell_kept hk (gY1 _ _)
    clear gA0 gA1 gB0 gB1 gX0 gX1 gY0 gY1
    obtain ⟨hQ0, hQ1, hR0, hR1⟩ := box_kept2 hk
    have HK : Hid (Kept w w7) := HK.out.trans ((((Kept.refl w6).alloc _).alloc _).trans hk)
    have HX : Hid (Lent w3.heap.size w7 bx a.length cx a) := HX.out.kept ((((Kept.refl w6).alloc _).alloc _).trans hk)
    have HY : Hid (Lent w3.heap.size w7 by_ b.length cy b) := HY.out.kept ((((Kept.refl w6).alloc _).alloc _).trans hk)
    have HNQ : Hid (∃ B, New B w7 (.slice aQ nQ cQ) lq) := ⟨_, HNQ.out.choose_spec.kept ((((Kept.refl w6).alloc _).alloc _).trans hk)⟩
    have HNR : Hid (∃ B, New B w7 (.slice aR nR cR) lr) := ⟨_, HNR.out.choose_spec.kept ((((Kept.refl w6).alloc _).alloc _).trans hk)⟩
    clear hk hn1 hn2
    have gA0 := fun x0 x1 => cell_kept (((Kept.refl w7).alloc x0).alloc x1) hA0
    have gA1 := fun x0 x1 => cell_kept (((Kept.refl w7).alloc x0).alloc x1) hA1
    have gB0 := fun x0 x1 => cell_kept (((Kept.refl w7).alloc x0).alloc x1) hB0
    have gB1 := fun x0 x1 => cell_kept (((Kept.refl w7).alloc x0).alloc x1) hB1
    have gX0 := fun x0 x1 => cell_kept (((Kept.refl w7).alloc x0).alloc x1) hX0
    have gX1 := fun x0 x1 => cell_kept (((Kept.refl w7).alloc x0).alloc x1) hX1
    have gY0 := fun x0 x1 => cell_kept (((Kept.refl w7).alloc x0).alloc x1) hY0
    have gY1 := fun x0 x1 => cell_kept (((Kept.refl w7).alloc x0).alloc x1) hY1
    have gQ0 := fun x0 x1 => cell_kept (((Kept.refl w7).alloc x0).alloc x1) hQ0
    have gQ1 := fun x0 x1 => cell_kept (((Kept.refl w7).alloc x0).alloc x1) hQ1
    have gR0 := fun x0 x1 => cell_kept (((Kept.refl w7).alloc x0).alloc x1) hR0
    have gR1 := fun x0 x1 => cell_kept (((Kept.refl w7).alloc x0).alloc x1) hR1
    clear hA0 hA1 hB0 hB1 hX0 hX1 hY0 hY1 hQ0 hQ1 hR0 hR1
    go_wp2_with fail
    refine (H2 _ _ _ _ _ _ _ (HX.out.sl.kept (((Kept.refl w7).alloc _).alloc _)) (HY.out.sl.kept (((Kept.refl w7).alloc _).alloc _))).mono ?_
    rintro e w8 ⟨hk, aE, nE, cE, rfl, hn1⟩
    have HNE : Hid (∃ B, New B w8 (.slice aE nE cE) le) := ⟨_, hn1⟩
    have hA0 := cell_kept hk (gA0 _ _)
    have hA1 := cell_kept hk (gA1 _ _)
    have hB0 := cell_kept hk (gB0 _ _)
    have hB1 := cell_kept hk (gB1 _ _)
    have hX0 := cell_kept hk (gX0 _ _)
    have hX1 := cell_kept hk (gX1 _ _)
    have hY0 := cell_kept hk (gY0 _ _)
    have hY1 := cell_kept hk (gY1 _ _)
    have hQ0 := cell_kept hk (gQ0 _ _)
    have hQ1 := cell_kept hk (gQ1 _ _)
    have hR0 := cell_kept hk (gR0 _ _)
    have hR1 := cell_kept hk (gR1 _ _)
    clear gA0 gA1 gB0 gB1 gX0 gX1 gY0 gY1 gQ0 gQ1 gR0 gR1
    obtain ⟨hQq0, hQq1, hRr0, hRr1⟩ := box_kept2 hk
    have HK : Hid (Kept w w8) := HK.out.trans ((((Kept.refl w7).alloc _).alloc _).trans hk)
    have HX : Hid (Lent w3.heap.size w8 bx a.length cx a) := HX.out.kept ((((Kept.refl w7).alloc _).alloc _).trans hk)
    have HY : Hid (Lent w3.heap.size w8 by_ b.length cy b) := HY.out.kept ((((Kept.refl w7).alloc _).alloc _).trans hk)
    have HNQ : Hid (∃ B, New B w8 (.slice aQ nQ cQ) lq) := ⟨_, HNQ.out.choose_spec.kept ((((Kept.refl w7).alloc _).alloc _).trans hk)⟩
    have HNR : Hid (∃ B, New B w8 (.slice aR nR cR) lr) := ⟨_, HNR.out.choose_spec.kept ((((Kept.refl w7).alloc _).alloc _).trans hk)⟩
    have HNQq : Hid (∃ B, New B w8 (.slice aQq nQq cQq) lq) := ⟨_, HNQq.out.choose_spec.kept ((((Kept.refl w7).alloc _).alloc _).trans hk)⟩
    have HNRr : Hid (∃ B, New B w8 (.slice aRr nRr cRr) lr) := ⟨_, HNRr.out.choose_spec.kept ((((Kept.refl w7).alloc _).alloc _).trans hk)⟩
    clear hk hn1
    have gA0 := fun x0 => cell_kept ((Kept.refl w8).alloc x0) hA0
    have gA1 := fun x0 => cell_kept ((Kept.refl w8).alloc x0) hA1
    have gB0 := fun x0 => cell_kept ((Kept.refl w8).alloc x0) hB0
    have gB1 := fun x0 => cell_kept ((Kept.refl w8).alloc x0) hB1
    have gX0 := fun x0 => cell_kept ((Kept.refl w8).alloc x0) hX0
    have gX1 := fun x0 => cell_kept ((Kept.refl w8).alloc x0) hX1
    have gY0 := fun x0 => cell_kept ((Kept.refl w8).alloc x0) hY0
    have gY1 := fun x0 => cell_kept ((Kept.refl w8).alloc x0) hY1
    have gQ0 := fun x0 => cell_kept ((Kept.refl w8).alloc x0) hQ0
    have gQ1 := fun x0 => cell_kept ((Kept.refl w8).alloc x0) hQ1
    have gR0 := fun x0 => cell_kept ((Kept.refl w8).alloc x0) hR0
    have gR1 := fun x0 => cell_kept ((Kept.refl w8).alloc x0) hR1
    have gQq0 := fun x0 => cell_kept ((Kept.refl w8).alloc x0) hQq0
    have gQq1 := fun x0 => cell_kept ((Kept.refl w8).alloc x0) hQq1
    have gRr0 := fun x0 => cell_kept ((Kept.refl w8).alloc x0) hRr0
    have gRr1 := fun x0 => cell_kept ((Kept.refl w8).alloc x0) hRr1
    clear hA0 hA1 hB0 hB1 hX0 hX1 hY0 hY1 hQ0 hQ1 hR0 hR1 hQq0 hQq1 hRr0 hRr1
    go_wp2_with fail
    refine (T2 _ _ _ _ _ _ _ (HA0.out.1.kept (HK.out.trans ((Kept.refl w8).alloc _))) (HA0.out.2.kept (HK.out.trans ((Kept.refl w8).alloc _)))).mono ?_
    rintro e w9 ⟨hk, aEe, nEe, cEe, rfl, hn1⟩
    have HNEe : Hid (∃ B, New B w9 (.slice aEe nEe cEe) le) := ⟨_, hn1⟩
    have hA0 := cell_kept hk (gA0 _)
    have hA1 := cell_kept hk (gA1 _)
    have hB0 := cell_kept hk (gB0 _)
    have hB1 := cell_kept hk (gB1 _)
    have hX0 := cell_kept hk (gX0 _)
    have hX1 := cell_kept hk (gX1 _)
    have hY0 := cell_kept hk (gY0 _)
    have hY1 := cell_kept hk (gY1 _)
    have hQ0 := cell_kept hk (gQ0 _)
    have hQ1 := cell_kept hk (gQ1 _)
    have hR0 := cell_kept hk (gR0 _)
    have hR1 := cell_kept hk (gR1 _)
    have hQq0 := cell_kept hk (gQq0 _)
    have hQq1 := cell_kept hk (gQq1 _)
    have hRr0 := cell_kept hk (gRr0 _)
    have hRr1 := cell_kept hk (gRr1 _)
    clear gA0 gA1 gB0 gB1 gX0 gX1 gY0 gY1 gQ0 gQ1 gR0 gR1 gQq0 gQq1 gRr0 gRr1
    obtain ⟨hE0, hE1⟩ := box_kept hk
    have HK : Hid (Kept w w9) := HK.out.trans (((Kept.refl w8).alloc _).trans hk)
    have HX : Hid (Lent w3.heap.size w9 bx a.length cx a) := HX.out.kept (((Kept.refl w8).alloc _).trans hk)
    have HY : Hid (Lent w3.heap.size w9 by_ b.length cy b) := HY.out.kept (((Kept.refl w8).alloc _).trans hk)
    have HNQ : Hid (∃ B, New B w9 (.slice aQ nQ cQ) lq) := ⟨_, HNQ.out.choose_spec.kept (((Kept.refl w8).alloc _).trans hk)⟩
    have HNR : Hid (∃ B, New B w9 (.slice aR nR cR) lr) := ⟨_, HNR.out.choose_spec.kept (((Kept.refl w8).alloc _).trans hk)⟩
    have HNQq : Hid (∃ B, New B w9 (.slice aQq nQq cQq) lq) := ⟨_, HNQq.out.choose_spec.kept (((Kept.refl w8).alloc _).trans hk)⟩
    have HNRr : Hid (∃ B, New B w9 (.slice aRr nRr cRr) lr) := ⟨_, HNRr.out.choose_spec.kept (((Kept.refl w8).alloc _).trans hk)⟩
    have HNE : Hid (∃ B, New B w9 (.slice aE nE cE) le) := ⟨_, HNE.out.choose_spec.kept (((Kept.refl w8).alloc _).trans hk)⟩
    clear hk hn1
    have gA0 := fun x0 => cell_kept ((Kept.refl w9).alloc x0) hA0
    have gA1 := fun x0 => cell_kept ((Kept.refl w9).alloc x0) hA1
    have gB0 := fun x0 => cell_kept ((Kept.refl w9).alloc x0) hB0
    have gB1 := fun x0 => cell_kept ((Kept.refl w9).alloc x0) hB1
    have gX0 := fun x0 => cell_kept ((Kept.refl w9).alloc x0) hX0
    have gX1 := fun x0 => cell_kept ((Kept.refl w9).alloc x0) hX1
    have gY0 := fun x0 => cell_kept ((Kept.refl w9).alloc x0) hY0
    have gY1 := fun x0 => cell_kept ((Kept.refl w9).alloc x0) hY1
    have gQ0 := fun x0 => cell_kept ((Kept.refl w9).alloc x0) hQ0
    have gQ1 := fun x0 => cell_kept ((Kept.refl w9).alloc x0) hQ1
    have gR0 := fun x0 => cell_kept ((Kept.refl w9).alloc x0) hR0
    have gR1 := fun x0 => cell_kept ((Kept.refl w9).alloc x0) hR1
    have gQq0 := fun x0 => cell_kept ((Kept.refl w9).alloc x0) hQq0
    have gQq1 := fun x0 => cell_kept ((Kept.refl w9).alloc x0) hQq1
    have gRr0 := fun x0 => cell_kept ((Kept.refl w9).alloc x0) hRr0
    have gRr1 := fun x0 => cell_kept ((Kept.refl w9).alloc x0) hRr1
    have gE0 := fun x0 => cell_kept ((Kept.refl w9).alloc x0) hE0
    have gE1 := fun x0 => cell_kept ((Kept.refl w9).alloc x0) hE1
    clear hA0 hA1 hB0 hB1 hX0 hX1 hY0 hY1 hQ0 hQ1 hR0 hR1 hQq0 hQq1 hRr0 hRr1 hE0 hE1
    go_wp2_with fail
    refine (H3 _ _ _ _ _ _ _ (HX.out.sl.kept ((Kept.refl w9).alloc _)) (HY.out.sl.kept ((Kept.refl w9).alloc _))).mono ?_
    rintro e w10 ⟨hk, aG, nG, cG, rfl, hn1⟩
    have HNG : Hid (∃ B, New B w10 (.slice aG nG cG) lg) := ⟨_, hn1⟩
    have hA0 := cell_kept hk (gA0 _)
    have hA1 := cell_kept hk (gA1 _)
    have hB0 := cell_kept hk (gB0 _)
    have hB1 := cell_kept hk (gB1 _)
    have hX0 := cell_kept hk (gX0 _)
    have hX1 := cell_kept hk (gX1 _)
    have hY0 := cell_kept hk (gY0 _)
    have hY1 := cell_kept hk (gY1 _)
    have hQ0 := cell_kept hk (gQ0 _)
    have hQ1 := cell_kept hk (gQ1 _)
    have hR0 := cell_kept hk (gR0 _)
    have hR1 := cell_kept hk (gR1 _)
    have hQq0 := cell_kept hk (gQq0 _)
    have hQq1 := cell_kept hk (gQq1 _)
    have hRr0 := cell_kept hk (gRr0 _)
    have hRr1 := cell_kept hk (gRr1 _)
    have hE0 := cell_kept hk (gE0 _)
    have hE1 := cell_kept hk (gE1 _)
    clear gA0 gA1 gB0 gB1 gX0 gX1 gY0 gY1 gQ0 gQ1 gR0 gR1 gQq0 gQq1 gRr0 gRr1 gE0 gE1
    obtain ⟨hEe0, hEe1⟩ := box_kept hk
    have HK : Hid (Kept w w10) := HK.out.trans (((Kept.refl w9).alloc _).trans hk)
    have HX : Hid (Lent w3.heap.size w10 bx a.length cx a) := HX.out.kept (((Kept.refl w9).alloc _).trans hk)
    have HY : Hid (Lent w3.heap.size w10 by_ b.length cy b) := HY.out.kept (((Kept.refl w9).alloc _).trans hk)
    have HNQ : Hid (∃ B, New B w10 (.slice aQ nQ cQ) lq) := ⟨_, HNQ.out.choose_spec.kept (((Kept.refl w9).alloc _).trans hk)⟩
    have HNR : Hid (∃ B, New B w10 (.slice aR nR cR) lr) := ⟨_, HNR.out.choose_spec.kept (((Kept.refl w9).alloc _).trans hk)⟩
    have HNQq : Hid (∃ B, New B w10 (.slice aQq nQq cQq) lq) := ⟨_, HNQq.out.choose_spec.kept (((Kept.refl w9).alloc _).trans hk)⟩
    have HNRr : Hid (∃ B, New B w10 (.slice aRr nRr cRr) lr) := ⟨_, HNRr.out.choose_spec.kept (((Kept.refl w9).alloc _).trans hk)⟩
    have HNE : Hid (∃ B, New B w10 (.slice aE nE cE) le) := ⟨_, HNE.out.choose_spec.kept (((Kept.refl w9).alloc _).trans hk)⟩
    have HNEe : Hid (∃ B, New B w10 (.slice aEe nEe cEe) le) := ⟨_, HNEe.out.choose_spec.kept (((Kept.refl w9).alloc _).trans hk)⟩
    clear hk hn1
    have gA0 := fun x0 => cell_kept ((Kept.refl w10).alloc x0) hA0
    have gA1 := fun x0 => cell_kept ((Kept.refl w10).alloc x0) hA1
    have gB0 := fun x0 => cell_kept ((Kept.refl w10).alloc x0) hB0
    have gB1 := fun x0 => cell_kept ((Kept.refl w10).alloc x0) hB1
    have gX0 := fun x0 => cell_kept ((Kept.refl w10).alloc x0) hX0
    have gX1 := fun x0 => cell_kept ((Kept.refl w10).alloc x0) hX1
    have gY0 := fun x0 => cell_kept ((Kept.refl w10).alloc x0) hY0
    have gY1 := fun x0 => cell_kept ((Kept.refl w10).alloc x0) hY1
    have gQ0 := fun x0 => cell_kept ((Kept.refl w10).alloc x0) hQ0
    have gQ1 := fun x0 => cell_kept ((Kept.refl w10).alloc x0) hQ1
    have gR0 := fun x0 => cell_kept ((Kept.refl w10).alloc x0) hR0
    have gR1 := fun x0 => cell_kept ((Kept.refl w10).alloc x0) hR1
    have gQq0 := fun x0 => cell_kept ((Kept.refl w10).alloc x0) hQq0
    have gQq1 := fun x0 => cell_kept ((Kept.refl w10).alloc x0) hQq1
    have gRr0 := fun x0 => cell_kept ((Kept.refl w10).alloc x0) hRr0
    have gRr1 := fun x0 => cell_kept ((Kept.refl w10).alloc x0) hRr1
    have gE0 := fun x0 => cell_kept ((Kept.refl w10).alloc x0) hE0
    have gE1 := fun x0 => cell_kept ((Kept.refl w10).alloc x0) hE1
    have gEe0 := fun x0 => cell_kept ((Kept.refl w10).alloc x0) hEe0
    have gEe1 := fun x0 => cell_kept ((Kept.refl w10).alloc x0) hEe1
    clear hA0 hA1 hB0 hB1 hX0 hX1 hY0 hY1 hQ0 hQ1 hR0 hR1 hQq0 hQq1 hRr0 hRr1 hE0 hE1 hEe0 hEe1
    go_wp2_with fail
    refine (T3 _ _ _ _ _ _ _ (HA0.out.1.kept (HK.out.trans ((Kept.refl w10).alloc _))) (HA0.out.2.kept (HK.out.trans ((Kept.refl w10).alloc _)))).mono ?_
    rintro e w11 ⟨hk, aGg, nGg, cGg, rfl, hn1⟩
    have HNGg : Hid (∃ B, New B w11 (.slice aGg nGg cGg) lg) := ⟨_, hn1⟩
    have hA0 := cell_kept hk (gA0 _)
    have hA1 := cell_kept hk (gA1 _)
    have hB0 := cell_kept hk (gB0 _)
    have hB1 := cell_kept hk (gB1 _)
    have hX0 := cell_kept hk (gX0 _)
    have hX1 := cell_kept hk (gX1 _)
    have hY0 := cell_kept hk (gY0 _)
    have hY1 := cell_kept hk (gY1 _)
    have hQ0 := cell_kept hk (gQ0 _)
    have hQ1 := cell_kept hk (gQ1 _)
    have hR0 := cell_kept hk (gR0 _)
    have hR1 := cell_kept hk (gR1 _)
    have hQq0 := cell_kept hk (gQq0 _)
    have hQq1 := cell_kept hk (gQq1 _)
    have hRr0 := cell_kept hk (gRr0 _)
    have hRr1 := cell_kept hk (gRr1 _)
    have hE0 := cell_kept hk (gE0 _)
    have hE1 := cell_kept hk (gE1 _)
    have hEe0 := cell_kept hk (gEe0 _)
    have hEe1 := cell_kept hk (gEe1 _)
    clear gA0 gA1 gB0 gB1 gX0 gX1 gY0 gY1 gQ0 gQ1 gR0 gR1 gQq0 gQq1 gRr0 gRr1 gE0 gE1 gEe0 gEe1
    obtain ⟨hG0, hG1⟩ := box_kept hk
    have HK : Hid (Kept w w11) := HK.out.trans (((Kept.refl w10).alloc _).trans hk)
    have HX : Hid (Lent w3.heap.size w11 bx a.length cx a) := HX.out.kept (((Kept.refl w10).alloc _).trans hk)
    have HY : Hid (Lent w3.heap.size w11 by_ b.length cy b) := HY.out.kept (((Kept.refl w10).alloc _).trans hk)
    have HNQ : Hid (∃ B, New B w11 (.slice aQ nQ cQ) lq) := ⟨_, HNQ.out.choose_spec.kept (((Kept.refl w10).alloc _).trans hk)⟩
    have HNR : Hid (∃ B, New B w11 (.slice aR nR cR) lr) := ⟨_, HNR.out.choose_spec.kept (((Kept.refl w10).alloc _).trans hk)⟩
    have HNQq : Hid (∃ B, New B w11 (.slice aQq nQq cQq) lq) := ⟨_, HNQq.out.choose_spec.kept (((Kept.refl w10).alloc _).trans hk)⟩
    have HNRr : Hid (∃ B, New B w11 (.slice aRr nRr cRr) lr) := ⟨_, HNRr.out.choose_spec.kept (((Kept.refl w10).alloc _).trans hk)⟩
    have HNE : Hid (∃ B, New B w11 (.slice aE nE cE) le) := ⟨_, HNE.out.choose_spec.kept (((Kept.refl w10).alloc _).trans hk)⟩
    have HNEe : Hid (∃ B, New B w11 (.slice aEe nEe cEe) le) := ⟨_, HNEe.out.choose_spec.kept (((Kept.refl w10).alloc _).trans hk)⟩
    have HNG : Hid (∃ B, New B w11 (.slice aG nG cG) lg) := ⟨_, HNG.out.choose_spec.kept (((Kept.refl w10).alloc _).trans hk)⟩
    clear hk hn1
    have gA0 := fun x0 => cell_kept ((Kept.refl w11).alloc x0) hA0
    have gA1 := fun x0 => cell_kept ((Kept.refl w11).alloc x0) hA1
    have gB0 := fun x0 => cell_kept ((Kept.refl w11).alloc x0) hB0
    have gB1 := fun x0 => cell_kept ((Kept.refl w11).alloc x0) hB1
    have gX0 := fun x0 => cell_kept ((Kept.refl w11).alloc x0) hX0
    have gX1 := fun x0 => cell_kept ((Kept.refl w11).alloc x0) hX1
    have gY0 := fun x0 => cell_kept ((Kept.refl w11).alloc x0) hY0
    have gY1 := fun x0 => cell_kept ((Kept.refl w11).alloc x0) hY1
    have gQ0 := fun x0 => cell_kept ((Kept.refl w11).alloc x0) hQ0
    have gQ1 := fun x0 => cell_kept ((Kept.refl w11).alloc x0) hQ1
    have gR0 := fun x0 => cell_kept ((Kept.refl w11).alloc x0) hR0
    have gR1 := fun x0 => cell_kept ((Kept.refl w11).alloc x0) hR1
    have gQq0 := fun x0 => cell_kept ((Kept.refl w11).alloc x0) hQq0
    have gQq1 := fun x0 => cell_kept ((Kept.refl w11).alloc x0) hQq1
    have gRr0 := fun x0 => cell_kept ((Kept.refl w11).alloc x0) hRr0
    have gRr1 := fun x0 => cell_kept ((Kept.refl w11).alloc x0) hRr1
    have gE0 := fun x0 => cell_kept ((Kept.refl w11).alloc x0) hE0
    have gE1 := fun x0 => cell_kept ((Kept.refl w11).alloc x0) hE1
    have gEe0 := fun x0 => cell_kept ((Kept.refl w11).alloc x0) hEe0
    have gEe1 := fun x0 => cell_kept ((Kept.refl w11).alloc x0) hEe1
    have gG0 := fun x0 => cell_kept ((Kept.refl w11).alloc x0) hG0
    have gG1 := fun x0 => cell_kept ((Kept.refl w11).alloc x0) hG1
    clear hA0 hA1 hB0 hB1 hX0 hX1 hY0 hY1 hQ0 hQ1 hR0 hR1 hQq0 hQq1 hRr0 hRr1 hE0 hE1 hEe0 hEe1 hG0 hG1
    clear H1 T1 H2 T2 H3 T3
    go_wp2_with fail
    refine (lsame_any true sq sq _ _ lq lq _ (HNQ.out.choose_spec.sl.kept ((Kept.refl w11).alloc _)) (HNQq.out.choose_spec.sl.kept ((Kept.refl w11).alloc _)) (by omega) (by omega) (by simp)).mono ?_
    rintro e w12 ⟨rfl, hk⟩
    have hA0 := cell_kept hk (gA0 _)
    have hA1 := cell_kept hk (gA1 _)
    have hB0 := cell_kept hk (gB0 _)
    have hB1 := cell_kept hk (gB1 _)
    have hX0 := cell_kept hk (gX0 _)
    have hX1 := cell_kept hk (gX1 _)
    have hY0 := cell_kept hk (gY0 _)
    have hY1 := cell_kept hk (gY1 _)
    have hQ0 := cell_kept hk (gQ0 _)
    have hQ1 := cell_kept hk (gQ1 _)
    have hR0 := cell_kept hk (gR0 _)
    have hR1 := cell_kept hk (gR1 _)
    have hQq0 := cell_kept hk (gQq0 _)
    have hQq1 := cell_kept hk (gQq1 _)
    have hRr0 := cell_kept hk (gRr0 _)
    have hRr1 := cell_kept hk (gRr1 _)
    have hE0 := cell_kept hk (gE0 _)
    have hE1 := cell_kept hk (gE1 _)
    have hEe0 := cell_kept hk (gEe0 _)
    have hEe1 := cell_kept hk (gEe1 _)
    have hG0 := cell_kept hk (gG0 _)
    have hG1 := cell_kept hk (gG1 _)
    clear gA0 gA1 gB0 gB1 gX0 gX1 gY0 gY1 gQ0 gQ1 gR0 gR1 gQq0 gQq1 gRr0 gRr1 gE0 gE1 gEe0 gEe1 gG0 gG1
    obtain ⟨hGg0, hGg1⟩ := box_kept hk
    have HK : Hid (Kept w w12) := HK.out.trans (((Kept.refl w11).alloc _).trans hk)
    have HX : Hid (Lent w3.heap.size w12 bx a.length cx a) := HX.out.kept (((Kept.refl w11).alloc _).trans hk)
    have HY : Hid (Lent w3.heap.size w12 by_ b.length cy b) := HY.out.kept (((Kept.refl w11).alloc _).trans hk)
    have HNQ : Hid (∃ B, New B w12 (.slice aQ nQ cQ) lq) := ⟨_, HNQ.out.choose_spec.kept (((Kept.refl w11).alloc _).trans hk)⟩
    have HNR : Hid (∃ B, New B w12 (.slice aR nR cR) lr) := ⟨_, HNR.out.choose_spec.kept (((Kept.refl w11).alloc _).trans hk)⟩
    have HNQq : Hid (∃ B, New B w12 (.slice aQq nQq cQq) lq) := ⟨_, HNQq.out.choose_spec.kept (((Kept.refl w11).alloc _).trans hk)⟩
    have HNRr : Hid (∃ B, New B w12 (.slice aRr nRr cRr) lr) := ⟨_, HNRr.out.choose_spec.kept (((Kept.refl w11).alloc _).trans hk)⟩
    have HNE : Hid (∃ B, New B w12 (.slice aE nE cE) le) := ⟨_, HNE.out.choose_spec.kept (((Kept.refl w11).alloc _).trans hk)⟩
    have HNEe : Hid (∃ B, New B w12 (.slice aEe nEe cEe) le) := ⟨_, HNEe.out.choose_spec.kept (((Kept.refl w11).alloc _).trans hk)⟩
    have HNG : Hid (∃ B, New B w12 (.slice aG nG cG) lg) := ⟨_, HNG.out.choose_spec.kept (((Kept.refl w11).alloc _).trans hk)⟩
    have HNGg : Hid (∃ B, New B w12 (.slice aGg nGg cGg) lg) := ⟨_, HNGg.out.choose_spec.kept (((Kept.refl w11).alloc _).trans hk)⟩
    clear hk
    clear hQ0 hQ1
    clear hQq0 hQq1
    clear HNQ
    clear HNQq
    go_wp2_with fail
    refine (lsame_any true sr sr _ _ lr lr _ (HNR.out.choose_spec.sl.kept (Kept.refl w12)) (HNRr.out.choose_spec.sl.kept (Kept.refl w12)) (by omega) (by omega) (by simp)).mono ?_
    rintro e w13 ⟨rfl, hk⟩
    have hA0 := cell_kept hk hA0
    have hA1 := cell_kept hk hA1
    have hB0 := cell_kept hk hB0
    have hB1 := cell_kept hk hB1
    have hX0 := cell_kept hk hX0
    have hX1 := cell_kept hk hX1
    have hY0 := cell_kept hk hY0
    have hY1 := cell_kept hk hY1
    have hR0 := cell_kept hk hR0
    have hR1 := cell_kept hk hR1
    have hRr0 := cell_kept hk hRr0
    have hRr1 := cell_kept hk hRr1
    have hE0 := cell_kept hk hE0
    have hE1 := cell_kept hk hE1
    have hEe0 := cell_kept hk hEe0
    have hEe1 := cell_kept hk hEe1
    have hG0 := cell_kept hk hG0
    have hG1 := cell_kept hk hG1
    have hGg0 := cell_kept hk hGg0
    have hGg1 := cell_kept hk hGg1
    have HK : Hid (Kept w w13) := HK.out.trans hk
    have HX : Hid (Lent w3.heap.size w13 bx a.length cx a) := HX.out.kept hk
    have HY : Hid (Lent w3.heap.size w13 by_ b.length cy b) := HY.out.kept hk
    have HNR : Hid (∃ B, New B w13 (.slice aR nR cR) lr) := ⟨_, HNR.out.choose_spec.kept hk⟩
    have HNRr : Hid (∃ B, New B w13 (.slice aRr nRr cRr) lr) := ⟨_, HNRr.out.choose_spec.kept hk⟩
    have HNE : Hid (∃ B, New B w13 (.slice aE nE cE) le) := ⟨_, HNE.out.choose_spec.kept hk⟩
    have HNEe : Hid (∃ B, New B w13 (.slice aEe nEe cEe) le) := ⟨_, HNEe.out.choose_spec.kept hk⟩
    have HNG : Hid (∃ B, New B w13 (.slice aG nG cG) lg) := ⟨_, HNG.out.choose_spec.kept hk⟩
    have HNGg : Hid (∃ B, New B w13 (.slice aGg nGg cGg) lg) := ⟨_, HNGg.out.choose_spec.kept hk⟩
    clear hk
    clear hR0 hR1
    clear hRr0 hRr1
    clear HNR
    clear HNRr
    go_wp2_with fail
    refine (lsame_any true se se _ _ le le _ (HNE.out.choose_spec.sl.kept (Kept.refl w13)) (HNEe.out.choose_spec.sl.kept (Kept.refl w13)) (by omega) (by omega) (by simp)).mono ?_
    rintro e w14 ⟨rfl, hk⟩
    have hA0 := cell_kept hk hA0
    have hA1 := cell_kept hk hA1
    have hB0 := cell_kept hk hB0
    have hB1 := cell_kept hk hB1
    have hX0 := cell_kept hk hX0
    have hX1 := cell_kept hk hX1
    have hY0 := cell_kept hk hY0
    have hY1 := cell_kept hk hY1
    have hE0 := cell_kept hk hE0
    have hE1 := cell_kept hk hE1
    have hEe0 := cell_kept hk hEe0
    have hEe1 := cell_kept hk hEe1
    have hG0 := cell_kept hk hG0
    have hG1 := cell_kept hk hG1
    have hGg0 := cell_kept hk hGg0
    have hGg1 := cell_kept hk hGg1
    have HK : Hid (Kept w w14) := HK.out.trans hk
    have HX : Hid (Lent w3.heap.size w14 bx a.length cx a) := HX.out.kept hk
    have HY : Hid (Lent w3.heap.size w14 by_ b.length cy b) := HY.out.kept hk
    have HNE : Hid (∃ B, New B w14 (.slice aE nE cE) le) := ⟨_, HNE.out.choose_spec.kept hk⟩
    have HNEe : Hid (∃ B, New B w14 (.slice aEe nEe cEe) le) := ⟨_, HNEe.out.choose_spec.kept hk⟩
    have HNG : Hid (∃ B, New B w14 (.slice aG nG cG) lg) := ⟨_, HNG.out.choose_spec.kept hk⟩
    have HNGg : Hid (∃ B, New B w14 (.slice aGg nGg cGg) lg) := ⟨_, HNGg.out.choose_spec.kept hk⟩
    clear hk
    clear hE0 hE1
    clear hEe0 hEe1
    clear HNE
    clear HNEe
    go_wp2_with fail
    refine (lsame_any true sg sg _ _ lg lg _ (HNG.out.choose_spec.sl.kept (Kept.refl w14)) (HNGg.out.choose_spec.sl.kept (Kept.refl w14)) (by omega) (by omega) (by simp)).mono ?_
    rintro e w15 ⟨rfl, hk⟩
    have hA0 := cell_kept hk hA0
    have hA1 := cell_kept hk hA1
    have hB0 := cell_kept hk hB0
    have hB1 := cell_kept hk hB1
    have hX0 := cell_kept hk hX0
    have hX1 := cell_kept hk hX1
    have hY0 := cell_kept hk hY0
    have hY1 := cell_kept hk hY1
    have hG0 := cell_kept hk hG0
    have hG1 := cell_kept hk hG1
    have hGg0 := cell_kept hk hGg0
    have hGg1 := cell_kept hk hGg1
    have HK : Hid (Kept w w15) := HK.out.trans hk
    have HX : Hid (Lent w3.heap.size w15 bx a.length cx a) := HX.out.kept hk
    have HY : Hid (Lent w3.heap.size w15 by_ b.length cy b) := HY.out.kept hk
    have HNG : Hid (∃ B, New B w15 (.slice aG nG cG) lg) := ⟨_, HNG.out.choose_spec.kept hk⟩
    have HNGg : Hid (∃ B, New B w15 (.slice aGg nGg cGg) lg) := ⟨_, HNGg.out.choose_spec.kept hk⟩
    clear hk
    clear hG0 hG1
    clear hGg0 hGg1
    clear HNG
    clear HNGg
    go_wp2_with fail
    refine (whole_yes _ ma bx a.length cx aa ca a _ (HX.out.kept (Kept.refl w15)) (HA0.out.1.kept (HK.out.trans (Kept.refl w15))) hla).mono ?_
    rintro e w16 ⟨rfl, hk⟩
    have hA0 := cell_kept hk hA0
    have hA1 := cell_kept hk hA1
    have hB0 := cell_kept hk hB0
    have hB1 := cell_kept hk hB1
    have hX0 := cell_kept hk hX0
    have hX1 := cell_kept hk hX1
    have hY0 := cell_kept hk hY0
    have hY1 := cell_kept hk hY1
    have HK : Hid (Kept w w16) := HK.out.trans hk
    have HX : Hid (Lent w3.heap.size w16 bx a.length cx a) := HX.out.kept hk
    have HY : Hid (Lent w3.heap.size w16 by_ b.length cy b) := HY.out.kept hk
    clear hk
    clear hX0 hX1
    clear hA0 hA1
    go_wp2_with fail
    refine (whole_yes _ mb by_ b.length cy ab cb b _ (HY.out.kept (Kept.refl w16)) (HA0.out.2.kept (HK.out.trans (Kept.refl w16))) hlb).mono ?_
    rintro e w17 ⟨rfl, hk⟩
    have hB0 := cell_kept hk hB0
    have hB1 := cell_kept hk hB1
    have hY0 := cell_kept hk hY0
    have hY1 := cell_kept hk hY1
    have HK : Hid (Kept w w17) := HK.out.trans hk
    have HX : Hid (Lent w3.heap.size w17 bx a.length cx a) := HX.out.kept hk
    have HY : Hid (Lent w3.heap.size w17 by_ b.length cy b) := HY.out.kept hk
    clear hk
    go_wp2
    go_ret
    exact ⟨rfl, HK.out⟩

end Go.Proofs.YthijnnififodjaaDoor
