/- LimbSums: the walk of the statement itself: numbers of up to 80 limbs. -/
import Derived.Test.YtiadnlpbbibkgaaDoorBoth
import Derived.Test.YtiadnlpbbibkgaaDoorWhole
import Derived.Deep.DeepCutAuto
namespace Go.Proofs.YtiadnlpbbibkgaaDoor
open Go.RowKit
open D (set2_far set2_at)

def SumC (f : Nat) (m n : Bool) (a b : List Nat) (s : Bool) (l : List Nat) (c : Int) : Prop := ∀ w aoa ka capa aob kb capb, Sl w (.slice aoa ka capa) a → Sl w (.slice aob kb capb) b → Calls Tryd.prog f #[.agg #[.bool m, .slice aoa ka capa], .agg #[.bool n, .slice aob kb capb]] w fun e w' => Kept w w' ∧ ∃ ao k cap, e = .returned (.tuple #[.agg #[.bool s, .slice ao k cap], .int .i64 c]) ∧ New w.heap.size w' (.slice ao k cap) l
def TwoC (op : Int) (m n : Bool) (a b : List Nat) (s : Bool) (l : List Nat) (c : Int) : Prop := ∀ w aoa ka capa aob kb capb, Sl w (.slice aoa ka capa) a → Sl w (.slice aob kb capb) b → Calls Tryd.prog 16 #[.int .u8 op, .agg #[.bool m, .slice aoa ka capa], .agg #[.bool n, .slice aob kb capb]] w fun e w' => Kept w w' ∧ ∃ ao k cap, e = .returned (.tuple #[.agg #[.bool s, .slice ao k cap], .int .i64 c]) ∧ New w.heap.size w' (.slice ao k cap) l
def CmpC (f : Nat) (m n : Bool) (a b : List Nat) (c x : Int) : Prop := ∀ w aoa ka capa aob kb capb, Sl w (.slice aoa ka capa) a → Sl w (.slice aob kb capb) b → Calls Tryd.prog f #[.agg #[.bool m, .slice aoa ka capa], .agg #[.bool n, .slice aob kb capb]] w fun r w' => r = .returned (.tuple #[.int .i64 c, .int .i64 x]) ∧ Kept w w'

theorem Lent.box {B : Nat} {w : World} {b n cap : Nat} {l : List Nat} {p : Nat} {q : Bool} (h : Lent B w b n cap l) (h0 : w.cell? ⟨p, 0, none⟩ = some (.bool q)) (x y : Value) : Lent B ((w.setCell ⟨p, 0, none⟩ x).setCell ⟨p, 1, none⟩ y) b n cap l := by
  have hne : b ≠ p := by
    rintro rfl
    obtain ⟨_, _, _, h1, h2⟩ := h.at
    by_cases hn : n = 0
    · subst hn; rw [h0] at h2; cases h2
    · have := h1 0 (by omega); rw [h0] at this; cases this
  refine ⟨h.1, h.2.at_block ?_⟩
  rw [Below.heap_setCell _ _ _ _ hne, Below.heap_setCell _ _ _ _ hne]

theorem Lent.mono {B B' : Nat} {w : World} {b n cap : Nat} {l : List Nat} (h : Lent B w b n cap l) (hB : B' ≤ B) : Lent B' w b n cap l := ⟨h.1, h.2.mono hB⟩

theorem cell_grown {w w' : World} {b c o : Nat} {v : Value} (hg : w.grownBy w' (some b)) (h : w.cell? ⟨c, o, none⟩ = some v) (hne : c ≠ b) : w'.cell? ⟨c, o, none⟩ = some v :=
  (hg.cell_far ⟨c, o, none⟩ (World.block_lt_of_cell? _ _ h) (fun e => hne (Option.some.inj e))).trans h

theorem New.old {B : Nat} {w w' : World} {v : Value} {l : List Nat} {b : Nat} (h : New B w v l) (hg : w.grownBy w' (some b)) (hb : b < B) : New B w' v l := by
  obtain ⟨hbd, ⟨rfl, rfl⟩ | ⟨c, N, f, rfl, hB, hN, hr, hf⟩⟩ := h
  · exact New.nil _ _
  · exact ⟨hbd, .inr ⟨c, N, f, rfl, hB, hN, hr.of_block (hg.block c hr.lt (fun e => by have := Option.some.inj e; omega)), hf⟩⟩

theorem Lent.grown {B : Nat} {w w' : World} {c n cap : Nat} {l : List Nat} {b : Nat} (h : Lent B w c n cap l) (hg : w.grownBy w' (some b)) (hb : c ≠ b) : Lent B w' c n cap l :=
  ⟨h.1, h.2.at_block (hg.block c h.at.2.1 (fun e => hb (Option.some.inj e)))⟩

theorem New.blk {B : Nat} {w : World} {ao : Option Addr} {n cap : Nat} {l : List Nat} (h : New B w (.slice ao n cap) l) : ∀ b, ao = some ⟨b, 0, none⟩ → b < w.heap.size := by
  rintro b rfl
  exact (New.lt h).1


set_option maxRecDepth 100000 in
set_option maxHeartbeats 4000000 in
theorem lsums_main (ma mb : Bool) (aa ab : Option Addr) (ca cb : Nat) (a b : List Nat) (w : World) (ha : Sl w (.slice aa a.length ca) a) (hb : Sl w (.slice ab b.length cb) b) (hla : a.length ≤ 80) (hlb : b.length ≤ 80) :
    Calls Tryd.prog 3 #[.agg #[.bool ma, .slice aa a.length ca], .agg #[.bool mb, .slice ab b.length cb]] w fun e w' => e = .returned (.bool true) ∧ Kept w w' := by
  obtain ⟨ss, ls, cs, hls, q1, q2⟩ := add_both ma mb a b hla hlb
  obtain ⟨sd, ld, cd, hld, q3, q4⟩ := sub_both ma mb a b hla hlb
  obtain ⟨sp, lp, cp, hlp, q5, q6⟩ := mul_both ma mb a b hla hlb
  obtain ⟨cc, ec, q7, q8⟩ := cmp_both ma mb a b hla hlb
  have H1 : SumC 12 ma mb a b ss ls cs := q1
  have H2 : SumC 13 ma mb a b sd ld cd := q3
  have H3 : SumC 14 ma mb a b sp lp cp := q5
  have H4 : CmpC 15 ma mb a b cc ec := q7
  have T1 : TwoC 43 ma mb a b ss ls cs := q2
  have T2 : TwoC 45 ma mb a b sd ld cd := q4
  have T3 : TwoC 42 ma mb a b sp lp cp := q6
  have T4 : CmpC 17 ma mb a b cc ec := q8
  clear q1 q2 q3 q4 q5 q6 q7 q8
  have HA0 : Hid (Sl w (.slice aa a.length ca) a ∧ Sl w (.slice ab b.length cb) b) := ⟨ha, hb⟩
  clear ha hb
  go_enter Tryd.func3, Tryd.ntmps3
  go_wp2_with fail
  refine (awake_yes _).mono ?_
  rintro e w1 ⟨rfl, hk1⟩
  obtain ⟨hA0, hA1, hB0, hB1⟩ := box_kept2 hk1
  have HK1 : Hid (Kept w w1) := (((Kept.refl w).alloc _).alloc _).trans hk1
  have hz1 : w.heap.size + 1 + 1 ≤ w1.heap.size := by have := hk1.size; simpa using this
  clear hk1
  go_wp2_with fail
  refine (long_any ma aa a.length ca _ (by omega)).mono ?_
  rintro e w2 ⟨rfl, hk2⟩
  rw [decide_eq_false (by omega)]
  replace hA0 := cell_kept hk2 hA0
  replace hA1 := cell_kept hk2 hA1
  replace hB0 := cell_kept hk2 hB0
  replace hB1 := cell_kept hk2 hB1
  have HK2 : Hid (Kept w w2) := HK1.out.trans hk2
  have hz2 : w.heap.size + 1 + 1 ≤ w2.heap.size := Nat.le_trans hz1 hk2.size
  clear hk2
  go_wp2_with fail
  refine (long_any mb ab b.length cb _ (by omega)).mono ?_
  rintro e w3 ⟨rfl, hk3⟩
  rw [decide_eq_false (by omega)]
  replace hA0 := cell_kept hk3 hA0
  replace hA1 := cell_kept hk3 hA1
  replace hB0 := cell_kept hk3 hB0
  replace hB1 := cell_kept hk3 hB1
  have HK3 : Hid (Kept w w3) := HK2.out.trans hk3
  have hz3 : w.heap.size + 1 + 1 ≤ w3.heap.size := Nat.le_trans hz2 hk3.size
  have HA3 : Hid (Sl w3 (.slice aa a.length ca) a) := HA0.out.1.kept HK3.out
  have HB3 : Hid (Sl w3 (.slice ab b.length cb) b) := HA0.out.2.kept HK3.out
  clear hk3
  go_upto_region 5 with fail
  go_cut [5, 6] (fun s5 s6 wc => ∃ (p5 p6 bx by_ cx cy : Nat), s5 = .pointer (some ⟨p5, 0, none⟩) ∧ s6 = .pointer (some ⟨p6, 0, none⟩) ∧ wc.cell? ⟨p5, 0, none⟩ = some (.bool ma) ∧ wc.cell? ⟨p5, 1, none⟩ = some (.slice (some ⟨bx, 0, none⟩) a.length cx) ∧ wc.cell? ⟨p6, 0, none⟩ = some (.bool mb) ∧ wc.cell? ⟨p6, 1, none⟩ = some (.slice (some ⟨by_, 0, none⟩) b.length cy) ∧ Hid (Kept w3 wc ∧ Lent w3.heap.size wc bx a.length cx a ∧ Lent w3.heap.size wc by_ b.length cy b))
  case first =>
    refine wp_region_held_drew (S := fun w' => w'.cell? ⟨w.heap.size, 0, none⟩ = some (.bool ma) ∧ w'.cell? ⟨w.heap.size, 1, none⟩ = some (.slice aa a.length ca) ∧ w'.cell? ⟨w.heap.size + 1, 0, none⟩ = some (.bool mb) ∧ w'.cell? ⟨w.heap.size + 1, 1, none⟩ = some (.slice ab b.length cb)) (by kernel_rfl) ⟨hA0, hA1, hB0, hB1⟩ (fun hHeld => ?_)
    refine wpAnyH_take (i := 0) (v := ?v0) rfl (by kernel_rfl) (by kernel_rfl) (by kernel_rfl) (fun _ _ _ h => h) (Or.inl ⟨by rfl, ?y0⟩) hHeld ?r0
    case y0 =>
      intro w' hSw
      obtain ⟨hSw0, hSw1, hSw2, hSw3⟩ := hSw
      go_simp
      with_reducible rfl
    case r0 =>
    refine wpAnyH_take (i := 2) (v := ?v2) rfl (by kernel_rfl) (by kernel_rfl) (by kernel_rfl) (fun _ _ _ h => h) (Or.inl ⟨by rfl, ?y2⟩) hHeld ?r2
    case y2 =>
      intro w' hSw
      obtain ⟨hSw0, hSw1, hSw2, hSw3⟩ := hSw
      go_simp
      with_reducible rfl
    case r2 =>
    refine wpAnyH_ready (rs := [1, 4, 5]) (by kernel_rfl) (by simp) ?_
    refine AllReadyH.cons rfl (fun K hK => ?_) ?_
    · go_simp
      refine (lent_any ma aa a.length ca a _ (HA3.out.kept (Kept.refl w3).drew) hla).mono ?_
      rintro e w4 ⟨hk4, bx, cx, rfl, hX⟩
      have hs4 : w3.heap.size ≤ w4.heap.size := ((Kept.refl w3).drew.trans hk4).size
      have ht4 := hk4.size
      try simp at ht4
      have hX := hX.mono ((Kept.refl w3).drew).size
      refine hK.out _ _ ⟨cell_kept ((Kept.refl w3).drew.trans hk4) hA0, cell_kept ((Kept.refl w3).drew.trans hk4) hA1, cell_kept ((Kept.refl w3).drew.trans hk4) hB0, cell_kept ((Kept.refl w3).drew.trans hk4) hB1⟩ (fun hHeld => ?_)
      clear hK K
      refine wpAnyH_ready (rs := [3, 4, 5]) (by kernel_rfl) (by simp) ?_
      refine AllReadyH.cons rfl (fun K hK => ?_) ?_
      · go_simp
        refine (lent_any mb ab b.length cb b _ (HB3.out.kept ((Kept.refl w3).drew.trans hk4)) hlb).mono ?_
        rintro e w5 ⟨hk5, by_, cy, rfl, hY⟩
        have hs5 : w3.heap.size ≤ w5.heap.size := (((Kept.refl w3).drew.trans hk4).trans hk5).size
        have ht5 := hk5.size
        try simp at ht5
        have hY := hY.mono (((Kept.refl w3).drew.trans hk4)).size
        refine hK.out _ _ ⟨cell_kept (((Kept.refl w3).drew.trans hk4).trans hk5) hA0, cell_kept (((Kept.refl w3).drew.trans hk4).trans hk5) hA1, cell_kept (((Kept.refl w3).drew.trans hk4).trans hk5) hB0, cell_kept (((Kept.refl w3).drew.trans hk4).trans hk5) hB1⟩ (fun hHeld => ?_)
        clear hK K
        refine wpAnyH_ready (rs := [4, 5]) (by kernel_rfl) (by simp) ?_
        refine AllReadyH.cons rfl (fun K hK => ?_) ?_
        · go_simp
          refine hK.out _ _ ⟨cell_kept ((((Kept.refl w3).drew.trans hk4).trans hk5).alloc _) hA0, cell_kept ((((Kept.refl w3).drew.trans hk4).trans hk5).alloc _) hA1, cell_kept ((((Kept.refl w3).drew.trans hk4).trans hk5).alloc _) hB0, cell_kept ((((Kept.refl w3).drew.trans hk4).trans hk5).alloc _) hB1⟩ (fun hHeld => ?_)
          clear hK K
          refine wpAnyH_ready (rs := [5]) (by kernel_rfl) (by simp) ?_
          refine AllReadyH.cons rfl (fun K hK => ?_) AllReadyH.nil
          go_simp
          refine hK.out _ _ ⟨cell_kept (((((Kept.refl w3).drew.trans hk4).trans hk5).alloc _).alloc _) hA0, cell_kept (((((Kept.refl w3).drew.trans hk4).trans hk5).alloc _).alloc _) hA1, cell_kept (((((Kept.refl w3).drew.trans hk4).trans hk5).alloc _).alloc _) hB0, cell_kept (((((Kept.refl w3).drew.trans hk4).trans hk5).alloc _).alloc _) hB1⟩ (fun hHeld => ?_)
          clear hK K
          have hz80 : ((w5.alloc (Obj.cells #[.bool false, .slice none 0 0] 24)).alloc (Obj.cells #[.bool false, .slice none 0 0] 24)).cell? ⟨w5.heap.size, 0, none⟩ = some (.bool false) := cell_kept ((Kept.refl _).alloc _) (World.cell?_alloc_at _ _ _ _ (by simp))
          have hg80 : ((w5.alloc (Obj.cells #[.bool false, .slice none 0 0] 24)).alloc (Obj.cells #[.bool false, .slice none 0 0] 24)).frozen? ⟨w5.heap.size, 0, none⟩ = false := (((Kept.refl _).alloc _).frozens _ _ (by simp)).trans (World.frozen?_alloc_at _ _ _ _ (by simp))
          have hz81 : ((w5.alloc (Obj.cells #[.bool false, .slice none 0 0] 24)).alloc (Obj.cells #[.bool false, .slice none 0 0] 24)).cell? ⟨w5.heap.size, 1, none⟩ = some (.slice none 0 0) := cell_kept ((Kept.refl _).alloc _) (World.cell?_alloc_at _ _ _ _ (by simp))
          have hg81 : ((w5.alloc (Obj.cells #[.bool false, .slice none 0 0] 24)).alloc (Obj.cells #[.bool false, .slice none 0 0] 24)).frozen? ⟨w5.heap.size, 1, none⟩ = false := (((Kept.refl _).alloc _).frozens _ _ (by simp)).trans (World.frozen?_alloc_at _ _ _ _ (by simp))
          have hz90 : ((w5.alloc (Obj.cells #[.bool false, .slice none 0 0] 24)).alloc (Obj.cells #[.bool false, .slice none 0 0] 24)).cell? ⟨w5.heap.size + 1, 0, none⟩ = some (.bool false) := cell_kept (Kept.refl _) (World.cell?_alloc_at _ _ _ _ (by simp))
          have hg90 : ((w5.alloc (Obj.cells #[.bool false, .slice none 0 0] 24)).alloc (Obj.cells #[.bool false, .slice none 0 0] 24)).frozen? ⟨w5.heap.size + 1, 0, none⟩ = false := ((Kept.refl _).frozens _ _ (by simp)).trans (World.frozen?_alloc_at _ _ _ _ (by simp))
          have hz91 : ((w5.alloc (Obj.cells #[.bool false, .slice none 0 0] 24)).alloc (Obj.cells #[.bool false, .slice none 0 0] 24)).cell? ⟨w5.heap.size + 1, 1, none⟩ = some (.slice none 0 0) := cell_kept (Kept.refl _) (World.cell?_alloc_at _ _ _ _ (by simp))
          have hg91 : ((w5.alloc (Obj.cells #[.bool false, .slice none 0 0] 24)).alloc (Obj.cells #[.bool false, .slice none 0 0] 24)).frozen? ⟨w5.heap.size + 1, 1, none⟩ = false := ((Kept.refl _).frozens _ _ (by simp)).trans (World.frozen?_alloc_at _ _ _ _ (by simp))
          obtain ⟨p8, hp⟩ : ∃ p, p = w5.heap.size := ⟨_, rfl⟩
          obtain ⟨p9, hq⟩ : ∃ p, p = w5.heap.size + 1 := ⟨_, rfl⟩
          have hp8 : w3.heap.size ≤ p8 := by omega
          have hp9 : w3.heap.size ≤ p9 := by omega
          have hne : ¬ (p8 = p9) := by omega
          have hne' : ¬ (p9 = p8) := by omega
          rw [← hq] at hz90 hz91 hg90 hg91 ⊢
          rw [← hp] at hz80 hz81 hg80 hg81 ⊢
          clear hp hq
          have hKT : Kept w3 ((w5.alloc (Obj.cells #[.bool false, .slice none 0 0] 24)).alloc (Obj.cells #[.bool false, .slice none 0 0] 24)) := (((((Kept.refl w3).drew.trans hk4).trans hk5).alloc _).alloc _)
          have ghA0 := cell_kept hKT hA0
          have ghA1 := cell_kept hKT hA1
          have ghB0 := cell_kept hKT hB0
          have ghB1 := cell_kept hKT hB1
          have HN : Hid (Lent w3.heap.size ((w5.alloc (Obj.cells #[.bool false, .slice none 0 0] 24)).alloc (Obj.cells #[.bool false, .slice none 0 0] 24)) bx a.length cx a ∧ Lent w3.heap.size ((w5.alloc (Obj.cells #[.bool false, .slice none 0 0] 24)).alloc (Obj.cells #[.bool false, .slice none 0 0] 24)) by_ b.length cy b ∧ Kept w3 ((w5.alloc (Obj.cells #[.bool false, .slice none 0 0] 24)).alloc (Obj.cells #[.bool false, .slice none 0 0] 24))) := ⟨hX.kept ((((Kept.refl _).trans hk5).alloc _).alloc _), hY.kept (((Kept.refl _).alloc _).alloc _), hKT⟩
          clear hX hY hk4 hk5 hHeld hKT
          generalize ((w5.alloc (Obj.cells #[.bool false, .slice none 0 0] 24)).alloc (Obj.cells #[.bool false, .slice none 0 0] 24)) = Wx at ghA0 ghA1 ghB0 ghB1 hz80 hz81 hz90 hz91 hg80 hg81 hg90 hg91 HN ⊢
          refine wpAnyH_ready (rs := [6]) (by kernel_rfl) (by simp) ?_
          refine AllReadyH.cons rfl (fun K hK => ?_) AllReadyH.nil
          go_simp
          refine hK.out _ _ ⟨set2_far (p := p8) ghA0 (by omega), set2_far (p := p8) ghA1 (by omega), set2_far (p := p8) ghB0 (by omega), set2_far (p := p8) ghB1 (by omega)⟩ (fun hHeld => ?_)
          clear hK K
          refine wpAnyH_ready (rs := [7]) (by kernel_rfl) (by simp) ?_
          refine AllReadyH.cons rfl (fun K hK => ?_) AllReadyH.nil
          go_simp
          refine hK.out _ _ ⟨set2_far (p := p9) (set2_far (p := p8) ghA0 (by omega)) (by omega), set2_far (p := p9) (set2_far (p := p8) ghA1 (by omega)) (by omega), set2_far (p := p9) (set2_far (p := p8) ghB0 (by omega)) (by omega), set2_far (p := p9) (set2_far (p := p8) ghB1 (by omega)) (by omega)⟩ (fun hHeld => ?_)
          clear hK K
          refine wpAnyH_done (by kernel_rfl) ?_ _
          go_wp2_with fail
          go_meet
          case rel =>
            have e8 := set2_at (x := .bool ma) (y := .slice (some ⟨bx, 0, none⟩) a.length cx) hz80 hz81
            have z90 := set2_far (x := .bool ma) (y := .slice (some ⟨bx, 0, none⟩) a.length cx) hz90 hne
            have z91 := set2_far (x := .bool ma) (y := .slice (some ⟨bx, 0, none⟩) a.length cx) hz91 hne
            have e9 := set2_at (x := .bool mb) (y := .slice (some ⟨by_, 0, none⟩) b.length cy) z90 z91
            exact ⟨p8, p9, bx, by_, cx, cy, rfl, rfl, set2_far e8.1 hne', set2_far e8.2 hne', e9.1, e9.2, (((HN.out.2.2.setCell hp8 _).setCell hp8 _).setCell hp9 _).setCell hp9 _, (HN.out.1.box hz80 _ _).box z90 _ _, (HN.out.2.1.box hz80 _ _).box z90 _ _⟩
        refine AllReadyH.cons rfl (fun K hK => ?_) AllReadyH.nil
        go_simp
        refine hK.out _ _ ⟨cell_kept ((((Kept.refl w3).drew.trans hk4).trans hk5).alloc _) hA0, cell_kept ((((Kept.refl w3).drew.trans hk4).trans hk5).alloc _) hA1, cell_kept ((((Kept.refl w3).drew.trans hk4).trans hk5).alloc _) hB0, cell_kept ((((Kept.refl w3).drew.trans hk4).trans hk5).alloc _) hB1⟩ (fun hHeld => ?_)
        clear hK K
        refine wpAnyH_ready (rs := [4]) (by kernel_rfl) (by simp) ?_
        refine AllReadyH.cons rfl (fun K hK => ?_) AllReadyH.nil
        go_simp
        refine hK.out _ _ ⟨cell_kept (((((Kept.refl w3).drew.trans hk4).trans hk5).alloc _).alloc _) hA0, cell_kept (((((Kept.refl w3).drew.trans hk4).trans hk5).alloc _).alloc _) hA1, cell_kept (((((Kept.refl w3).drew.trans hk4).trans hk5).alloc _).alloc _) hB0, cell_kept (((((Kept.refl w3).drew.trans hk4).trans hk5).alloc _).alloc _) hB1⟩ (fun hHeld => ?_)
        clear hK K
        have hz80 : ((w5.alloc (Obj.cells #[.bool false, .slice none 0 0] 24)).alloc (Obj.cells #[.bool false, .slice none 0 0] 24)).cell? ⟨w5.heap.size + 1, 0, none⟩ = some (.bool false) := cell_kept (Kept.refl _) (World.cell?_alloc_at _ _ _ _ (by simp))
        have hg80 : ((w5.alloc (Obj.cells #[.bool false, .slice none 0 0] 24)).alloc (Obj.cells #[.bool false, .slice none 0 0] 24)).frozen? ⟨w5.heap.size + 1, 0, none⟩ = false := ((Kept.refl _).frozens _ _ (by simp)).trans (World.frozen?_alloc_at _ _ _ _ (by simp))
        have hz81 : ((w5.alloc (Obj.cells #[.bool false, .slice none 0 0] 24)).alloc (Obj.cells #[.bool false, .slice none 0 0] 24)).cell? ⟨w5.heap.size + 1, 1, none⟩ = some (.slice none 0 0) := cell_kept (Kept.refl _) (World.cell?_alloc_at _ _ _ _ (by simp))
        have hg81 : ((w5.alloc (Obj.cells #[.bool false, .slice none 0 0] 24)).alloc (Obj.cells #[.bool false, .slice none 0 0] 24)).frozen? ⟨w5.heap.size + 1, 1, none⟩ = false := ((Kept.refl _).frozens _ _ (by simp)).trans (World.frozen?_alloc_at _ _ _ _ (by simp))
        have hz90 : ((w5.alloc (Obj.cells #[.bool false, .slice none 0 0] 24)).alloc (Obj.cells #[.bool false, .slice none 0 0] 24)).cell? ⟨w5.heap.size, 0, none⟩ = some (.bool false) := cell_kept ((Kept.refl _).alloc _) (World.cell?_alloc_at _ _ _ _ (by simp))
        have hg90 : ((w5.alloc (Obj.cells #[.bool false, .slice none 0 0] 24)).alloc (Obj.cells #[.bool false, .slice none 0 0] 24)).frozen? ⟨w5.heap.size, 0, none⟩ = false := (((Kept.refl _).alloc _).frozens _ _ (by simp)).trans (World.frozen?_alloc_at _ _ _ _ (by simp))
        have hz91 : ((w5.alloc (Obj.cells #[.bool false, .slice none 0 0] 24)).alloc (Obj.cells #[.bool false, .slice none 0 0] 24)).cell? ⟨w5.heap.size, 1, none⟩ = some (.slice none 0 0) := cell_kept ((Kept.refl _).alloc _) (World.cell?_alloc_at _ _ _ _ (by simp))
        have hg91 : ((w5.alloc (Obj.cells #[.bool false, .slice none 0 0] 24)).alloc (Obj.cells #[.bool false, .slice none 0 0] 24)).frozen? ⟨w5.heap.size, 1, none⟩ = false := (((Kept.refl _).alloc _).frozens _ _ (by simp)).trans (World.frozen?_alloc_at _ _ _ _ (by simp))
        obtain ⟨p8, hp⟩ : ∃ p, p = w5.heap.size + 1 := ⟨_, rfl⟩
        obtain ⟨p9, hq⟩ : ∃ p, p = w5.heap.size := ⟨_, rfl⟩
        have hp8 : w3.heap.size ≤ p8 := by omega
        have hp9 : w3.heap.size ≤ p9 := by omega
        have hne : ¬ (p8 = p9) := by omega
        have hne' : ¬ (p9 = p8) := by omega
        rw [← hp] at hz80 hz81 hg80 hg81 ⊢
        rw [← hq] at hz90 hz91 hg90 hg91 ⊢
        clear hp hq
        have hKT : Kept w3 ((w5.alloc (Obj.cells #[.bool false, .slice none 0 0] 24)).alloc (Obj.cells #[.bool false, .slice none 0 0] 24)) := (((((Kept.refl w3).drew.trans hk4).trans hk5).alloc _).alloc _)
        have ghA0 := cell_kept hKT hA0
        have ghA1 := cell_kept hKT hA1
        have ghB0 := cell_kept hKT hB0
        have ghB1 := cell_kept hKT hB1
        have HN : Hid (Lent w3.heap.size ((w5.alloc (Obj.cells #[.bool false, .slice none 0 0] 24)).alloc (Obj.cells #[.bool false, .slice none 0 0] 24)) bx a.length cx a ∧ Lent w3.heap.size ((w5.alloc (Obj.cells #[.bool false, .slice none 0 0] 24)).alloc (Obj.cells #[.bool false, .slice none 0 0] 24)) by_ b.length cy b ∧ Kept w3 ((w5.alloc (Obj.cells #[.bool false, .slice none 0 0] 24)).alloc (Obj.cells #[.bool false, .slice none 0 0] 24))) := ⟨hX.kept ((((Kept.refl _).trans hk5).alloc _).alloc _), hY.kept (((Kept.refl _).alloc _).alloc _), hKT⟩
        clear hX hY hk4 hk5 hHeld hKT
        generalize ((w5.alloc (Obj.cells #[.bool false, .slice none 0 0] 24)).alloc (Obj.cells #[.bool false, .slice none 0 0] 24)) = Wx at ghA0 ghA1 ghB0 ghB1 hz80 hz81 hz90 hz91 hg80 hg81 hg90 hg91 HN ⊢
        refine wpAnyH_ready (rs := [6]) (by kernel_rfl) (by simp) ?_
        refine AllReadyH.cons rfl (fun K hK => ?_) AllReadyH.nil
        go_simp
        refine hK.out _ _ ⟨set2_far (p := p8) ghA0 (by omega), set2_far (p := p8) ghA1 (by omega), set2_far (p := p8) ghB0 (by omega), set2_far (p := p8) ghB1 (by omega)⟩ (fun hHeld => ?_)
        clear hK K
        refine wpAnyH_ready (rs := [7]) (by kernel_rfl) (by simp) ?_
        refine AllReadyH.cons rfl (fun K hK => ?_) AllReadyH.nil
        go_simp
        refine hK.out _ _ ⟨set2_far (p := p9) (set2_far (p := p8) ghA0 (by omega)) (by omega), set2_far (p := p9) (set2_far (p := p8) ghA1 (by omega)) (by omega), set2_far (p := p9) (set2_far (p := p8) ghB0 (by omega)) (by omega), set2_far (p := p9) (set2_far (p := p8) ghB1 (by omega)) (by omega)⟩ (fun hHeld => ?_)
        clear hK K
        refine wpAnyH_done (by kernel_rfl) ?_ _
        go_wp2_with fail
        go_meet
        case rel =>
          have e8 := set2_at (x := .bool ma) (y := .slice (some ⟨bx, 0, none⟩) a.length cx) hz80 hz81
          have z90 := set2_far (x := .bool ma) (y := .slice (some ⟨bx, 0, none⟩) a.length cx) hz90 hne
          have z91 := set2_far (x := .bool ma) (y := .slice (some ⟨bx, 0, none⟩) a.length cx) hz91 hne
          have e9 := set2_at (x := .bool mb) (y := .slice (some ⟨by_, 0, none⟩) b.length cy) z90 z91
          exact ⟨p8, p9, bx, by_, cx, cy, rfl, rfl, set2_far e8.1 hne', set2_far e8.2 hne', e9.1, e9.2, (((HN.out.2.2.setCell hp8 _).setCell hp8 _).setCell hp9 _).setCell hp9 _, (HN.out.1.box hz80 _ _).box z90 _ _, (HN.out.2.1.box hz80 _ _).box z90 _ _⟩
      refine AllReadyH.cons rfl (fun K hK => ?_) ?_
      · go_simp
        refine hK.out _ _ ⟨cell_kept (((Kept.refl w3).drew.trans hk4).alloc _) hA0, cell_kept (((Kept.refl w3).drew.trans hk4).alloc _) hA1, cell_kept (((Kept.refl w3).drew.trans hk4).alloc _) hB0, cell_kept (((Kept.refl w3).drew.trans hk4).alloc _) hB1⟩ (fun hHeld => ?_)
        clear hK K
        refine wpAnyH_ready (rs := [3, 5]) (by kernel_rfl) (by simp) ?_
        refine AllReadyH.cons rfl (fun K hK => ?_) ?_
        · go_simp
          refine (lent_any mb ab b.length cb b _ (HB3.out.kept (((Kept.refl w3).drew.trans hk4).alloc _)) hlb).mono ?_
          rintro e w5 ⟨hk5, by_, cy, rfl, hY⟩
          have hs5 : w3.heap.size ≤ w5.heap.size := ((((Kept.refl w3).drew.trans hk4).alloc _).trans hk5).size
          have ht5 := hk5.size
          try simp at ht5
          have hY := hY.mono ((((Kept.refl w3).drew.trans hk4).alloc _)).size
          refine hK.out _ _ ⟨cell_kept ((((Kept.refl w3).drew.trans hk4).alloc _).trans hk5) hA0, cell_kept ((((Kept.refl w3).drew.trans hk4).alloc _).trans hk5) hA1, cell_kept ((((Kept.refl w3).drew.trans hk4).alloc _).trans hk5) hB0, cell_kept ((((Kept.refl w3).drew.trans hk4).alloc _).trans hk5) hB1⟩ (fun hHeld => ?_)
          clear hK K
          refine wpAnyH_ready (rs := [5]) (by kernel_rfl) (by simp) ?_
          refine AllReadyH.cons rfl (fun K hK => ?_) AllReadyH.nil
          go_simp
          refine hK.out _ _ ⟨cell_kept (((((Kept.refl w3).drew.trans hk4).alloc _).trans hk5).alloc _) hA0, cell_kept (((((Kept.refl w3).drew.trans hk4).alloc _).trans hk5).alloc _) hA1, cell_kept (((((Kept.refl w3).drew.trans hk4).alloc _).trans hk5).alloc _) hB0, cell_kept (((((Kept.refl w3).drew.trans hk4).alloc _).trans hk5).alloc _) hB1⟩ (fun hHeld => ?_)
          clear hK K
          have hz80 : (w5.alloc (Obj.cells #[.bool false, .slice none 0 0] 24)).cell? ⟨w4.heap.size, 0, none⟩ = some (.bool false) := cell_kept (((Kept.refl _).trans hk5).alloc _) (World.cell?_alloc_at _ _ _ _ (by simp))
          have hg80 : (w5.alloc (Obj.cells #[.bool false, .slice none 0 0] 24)).frozen? ⟨w4.heap.size, 0, none⟩ = false := ((((Kept.refl _).trans hk5).alloc _).frozens _ _ (by simp)).trans (World.frozen?_alloc_at _ _ _ _ (by simp))
          have hz81 : (w5.alloc (Obj.cells #[.bool false, .slice none 0 0] 24)).cell? ⟨w4.heap.size, 1, none⟩ = some (.slice none 0 0) := cell_kept (((Kept.refl _).trans hk5).alloc _) (World.cell?_alloc_at _ _ _ _ (by simp))
          have hg81 : (w5.alloc (Obj.cells #[.bool false, .slice none 0 0] 24)).frozen? ⟨w4.heap.size, 1, none⟩ = false := ((((Kept.refl _).trans hk5).alloc _).frozens _ _ (by simp)).trans (World.frozen?_alloc_at _ _ _ _ (by simp))
          have hz90 : (w5.alloc (Obj.cells #[.bool false, .slice none 0 0] 24)).cell? ⟨w5.heap.size, 0, none⟩ = some (.bool false) := cell_kept (Kept.refl _) (World.cell?_alloc_at _ _ _ _ (by simp))
          have hg90 : (w5.alloc (Obj.cells #[.bool false, .slice none 0 0] 24)).frozen? ⟨w5.heap.size, 0, none⟩ = false := ((Kept.refl _).frozens _ _ (by simp)).trans (World.frozen?_alloc_at _ _ _ _ (by simp))
          have hz91 : (w5.alloc (Obj.cells #[.bool false, .slice none 0 0] 24)).cell? ⟨w5.heap.size, 1, none⟩ = some (.slice none 0 0) := cell_kept (Kept.refl _) (World.cell?_alloc_at _ _ _ _ (by simp))
          have hg91 : (w5.alloc (Obj.cells #[.bool false, .slice none 0 0] 24)).frozen? ⟨w5.heap.size, 1, none⟩ = false := ((Kept.refl _).frozens _ _ (by simp)).trans (World.frozen?_alloc_at _ _ _ _ (by simp))
          obtain ⟨p8, hp⟩ : ∃ p, p = w4.heap.size := ⟨_, rfl⟩
          obtain ⟨p9, hq⟩ : ∃ p, p = w5.heap.size := ⟨_, rfl⟩
          have hp8 : w3.heap.size ≤ p8 := by omega
          have hp9 : w3.heap.size ≤ p9 := by omega
          have hne : ¬ (p8 = p9) := by omega
          have hne' : ¬ (p9 = p8) := by omega
          rw [← hp] at hz80 hz81 hg80 hg81 ⊢
          rw [← hq] at hz90 hz91 hg90 hg91 ⊢
          clear hp hq
          have hKT : Kept w3 (w5.alloc (Obj.cells #[.bool false, .slice none 0 0] 24)) := (((((Kept.refl w3).drew.trans hk4).alloc _).trans hk5).alloc _)
          have ghA0 := cell_kept hKT hA0
          have ghA1 := cell_kept hKT hA1
          have ghB0 := cell_kept hKT hB0
          have ghB1 := cell_kept hKT hB1
          have HN : Hid (Lent w3.heap.size (w5.alloc (Obj.cells #[.bool false, .slice none 0 0] 24)) bx a.length cx a ∧ Lent w3.heap.size (w5.alloc (Obj.cells #[.bool false, .slice none 0 0] 24)) by_ b.length cy b ∧ Kept w3 (w5.alloc (Obj.cells #[.bool false, .slice none 0 0] 24))) := ⟨hX.kept ((((Kept.refl _).alloc _).trans hk5).alloc _), hY.kept ((Kept.refl _).alloc _), hKT⟩
          clear hX hY hk4 hk5 hHeld hKT
          generalize (w5.alloc (Obj.cells #[.bool false, .slice none 0 0] 24)) = Wx at ghA0 ghA1 ghB0 ghB1 hz80 hz81 hz90 hz91 hg80 hg81 hg90 hg91 HN ⊢
          refine wpAnyH_ready (rs := [6]) (by kernel_rfl) (by simp) ?_
          refine AllReadyH.cons rfl (fun K hK => ?_) AllReadyH.nil
          go_simp
          refine hK.out _ _ ⟨set2_far (p := p8) ghA0 (by omega), set2_far (p := p8) ghA1 (by omega), set2_far (p := p8) ghB0 (by omega), set2_far (p := p8) ghB1 (by omega)⟩ (fun hHeld => ?_)
          clear hK K
          refine wpAnyH_ready (rs := [7]) (by kernel_rfl) (by simp) ?_
          refine AllReadyH.cons rfl (fun K hK => ?_) AllReadyH.nil
          go_simp
          refine hK.out _ _ ⟨set2_far (p := p9) (set2_far (p := p8) ghA0 (by omega)) (by omega), set2_far (p := p9) (set2_far (p := p8) ghA1 (by omega)) (by omega), set2_far (p := p9) (set2_far (p := p8) ghB0 (by omega)) (by omega), set2_far (p := p9) (set2_far (p := p8) ghB1 (by omega)) (by omega)⟩ (fun hHeld => ?_)
          clear hK K
          refine wpAnyH_done (by kernel_rfl) ?_ _
          go_wp2_with fail
          go_meet
          case rel =>
            have e8 := set2_at (x := .bool ma) (y := .slice (some ⟨bx, 0, none⟩) a.length cx) hz80 hz81
            have z90 := set2_far (x := .bool ma) (y := .slice (some ⟨bx, 0, none⟩) a.length cx) hz90 hne
            have z91 := set2_far (x := .bool ma) (y := .slice (some ⟨bx, 0, none⟩) a.length cx) hz91 hne
            have e9 := set2_at (x := .bool mb) (y := .slice (some ⟨by_, 0, none⟩) b.length cy) z90 z91
            exact ⟨p8, p9, bx, by_, cx, cy, rfl, rfl, set2_far e8.1 hne', set2_far e8.2 hne', e9.1, e9.2, (((HN.out.2.2.setCell hp8 _).setCell hp8 _).setCell hp9 _).setCell hp9 _, (HN.out.1.box hz80 _ _).box z90 _ _, (HN.out.2.1.box hz80 _ _).box z90 _ _⟩
        refine AllReadyH.cons rfl (fun K hK => ?_) AllReadyH.nil
        go_simp
        refine hK.out _ _ ⟨cell_kept ((((Kept.refl w3).drew.trans hk4).alloc _).alloc _) hA0, cell_kept ((((Kept.refl w3).drew.trans hk4).alloc _).alloc _) hA1, cell_kept ((((Kept.refl w3).drew.trans hk4).alloc _).alloc _) hB0, cell_kept ((((Kept.refl w3).drew.trans hk4).alloc _).alloc _) hB1⟩ (fun hHeld => ?_)
        clear hK K
        refine wpAnyH_ready (rs := [3]) (by kernel_rfl) (by simp) ?_
        refine AllReadyH.cons rfl (fun K hK => ?_) AllReadyH.nil
        go_simp
        refine (lent_any mb ab b.length cb b _ (HB3.out.kept ((((Kept.refl w3).drew.trans hk4).alloc _).alloc _)) hlb).mono ?_
        rintro e w5 ⟨hk5, by_, cy, rfl, hY⟩
        have hs5 : w3.heap.size ≤ w5.heap.size := (((((Kept.refl w3).drew.trans hk4).alloc _).alloc _).trans hk5).size
        have ht5 := hk5.size
        try simp at ht5
        have hY := hY.mono (((((Kept.refl w3).drew.trans hk4).alloc _).alloc _)).size
        refine hK.out _ _ ⟨cell_kept (((((Kept.refl w3).drew.trans hk4).alloc _).alloc _).trans hk5) hA0, cell_kept (((((Kept.refl w3).drew.trans hk4).alloc _).alloc _).trans hk5) hA1, cell_kept (((((Kept.refl w3).drew.trans hk4).alloc _).alloc _).trans hk5) hB0, cell_kept (((((Kept.refl w3).drew.trans hk4).alloc _).alloc _).trans hk5) hB1⟩ (fun hHeld => ?_)
        clear hK K
        have hz80 : w5.cell? ⟨w4.heap.size, 0, none⟩ = some (.bool false) := cell_kept (((Kept.refl _).alloc _).trans hk5) (World.cell?_alloc_at _ _ _ _ (by simp))
        have hg80 : w5.frozen? ⟨w4.heap.size, 0, none⟩ = false := ((((Kept.refl _).alloc _).trans hk5).frozens _ _ (by simp)).trans (World.frozen?_alloc_at _ _ _ _ (by simp))
        have hz81 : w5.cell? ⟨w4.heap.size, 1, none⟩ = some (.slice none 0 0) := cell_kept (((Kept.refl _).alloc _).trans hk5) (World.cell?_alloc_at _ _ _ _ (by simp))
        have hg81 : w5.frozen? ⟨w4.heap.size, 1, none⟩ = false := ((((Kept.refl _).alloc _).trans hk5).frozens _ _ (by simp)).trans (World.frozen?_alloc_at _ _ _ _ (by simp))
        have hz90 : w5.cell? ⟨w4.heap.size + 1, 0, none⟩ = some (.bool false) := cell_kept ((Kept.refl _).trans hk5) (World.cell?_alloc_at _ _ _ _ (by simp))
        have hg90 : w5.frozen? ⟨w4.heap.size + 1, 0, none⟩ = false := (((Kept.refl _).trans hk5).frozens _ _ (by simp)).trans (World.frozen?_alloc_at _ _ _ _ (by simp))
        have hz91 : w5.cell? ⟨w4.heap.size + 1, 1, none⟩ = some (.slice none 0 0) := cell_kept ((Kept.refl _).trans hk5) (World.cell?_alloc_at _ _ _ _ (by simp))
        have hg91 : w5.frozen? ⟨w4.heap.size + 1, 1, none⟩ = false := (((Kept.refl _).trans hk5).frozens _ _ (by simp)).trans (World.frozen?_alloc_at _ _ _ _ (by simp))
        obtain ⟨p8, hp⟩ : ∃ p, p = w4.heap.size := ⟨_, rfl⟩
        obtain ⟨p9, hq⟩ : ∃ p, p = w4.heap.size + 1 := ⟨_, rfl⟩
        have hp8 : w3.heap.size ≤ p8 := by omega
        have hp9 : w3.heap.size ≤ p9 := by omega
        have hne : ¬ (p8 = p9) := by omega
        have hne' : ¬ (p9 = p8) := by omega
        rw [← hq] at hz90 hz91 hg90 hg91 ⊢
        rw [← hp] at hz80 hz81 hg80 hg81 ⊢
        clear hp hq
        have hKT : Kept w3 w5 := (((((Kept.refl w3).drew.trans hk4).alloc _).alloc _).trans hk5)
        have ghA0 := cell_kept hKT hA0
        have ghA1 := cell_kept hKT hA1
        have ghB0 := cell_kept hKT hB0
        have ghB1 := cell_kept hKT hB1
        have HN : Hid (Lent w3.heap.size w5 bx a.length cx a ∧ Lent w3.heap.size w5 by_ b.length cy b ∧ Kept w3 w5) := ⟨hX.kept ((((Kept.refl _).alloc _).alloc _).trans hk5), hY.kept (Kept.refl _), hKT⟩
        clear hX hY hk4 hk5 hHeld hKT
        generalize w5 = Wx at ghA0 ghA1 ghB0 ghB1 hz80 hz81 hz90 hz91 hg80 hg81 hg90 hg91 HN ⊢
        refine wpAnyH_ready (rs := [6]) (by kernel_rfl) (by simp) ?_
        refine AllReadyH.cons rfl (fun K hK => ?_) AllReadyH.nil
        go_simp
        refine hK.out _ _ ⟨set2_far (p := p8) ghA0 (by omega), set2_far (p := p8) ghA1 (by omega), set2_far (p := p8) ghB0 (by omega), set2_far (p := p8) ghB1 (by omega)⟩ (fun hHeld => ?_)
        clear hK K
        refine wpAnyH_ready (rs := [7]) (by kernel_rfl) (by simp) ?_
        refine AllReadyH.cons rfl (fun K hK => ?_) AllReadyH.nil
        go_simp
        refine hK.out _ _ ⟨set2_far (p := p9) (set2_far (p := p8) ghA0 (by omega)) (by omega), set2_far (p := p9) (set2_far (p := p8) ghA1 (by omega)) (by omega), set2_far (p := p9) (set2_far (p := p8) ghB0 (by omega)) (by omega), set2_far (p := p9) (set2_far (p := p8) ghB1 (by omega)) (by omega)⟩ (fun hHeld => ?_)
        clear hK K
        refine wpAnyH_done (by kernel_rfl) ?_ _
        go_wp2_with fail
        go_meet
        case rel =>
          have e8 := set2_at (x := .bool ma) (y := .slice (some ⟨bx, 0, none⟩) a.length cx) hz80 hz81
          have z90 := set2_far (x := .bool ma) (y := .slice (some ⟨bx, 0, none⟩) a.length cx) hz90 hne
          have z91 := set2_far (x := .bool ma) (y := .slice (some ⟨bx, 0, none⟩) a.length cx) hz91 hne
          have e9 := set2_at (x := .bool mb) (y := .slice (some ⟨by_, 0, none⟩) b.length cy) z90 z91
          exact ⟨p8, p9, bx, by_, cx, cy, rfl, rfl, set2_far e8.1 hne', set2_far e8.2 hne', e9.1, e9.2, (((HN.out.2.2.setCell hp8 _).setCell hp8 _).setCell hp9 _).setCell hp9 _, (HN.out.1.box hz80 _ _).box z90 _ _, (HN.out.2.1.box hz80 _ _).box z90 _ _⟩
      refine AllReadyH.cons rfl (fun K hK => ?_) AllReadyH.nil
      go_simp
      refine hK.out _ _ ⟨cell_kept (((Kept.refl w3).drew.trans hk4).alloc _) hA0, cell_kept (((Kept.refl w3).drew.trans hk4).alloc _) hA1, cell_kept (((Kept.refl w3).drew.trans hk4).alloc _) hB0, cell_kept (((Kept.refl w3).drew.trans hk4).alloc _) hB1⟩ (fun hHeld => ?_)
      clear hK K
      refine wpAnyH_ready (rs := [3, 4]) (by kernel_rfl) (by simp) ?_
      refine AllReadyH.cons rfl (fun K hK => ?_) ?_
      · go_simp
        refine (lent_any mb ab b.length cb b _ (HB3.out.kept (((Kept.refl w3).drew.trans hk4).alloc _)) hlb).mono ?_
        rintro e w5 ⟨hk5, by_, cy, rfl, hY⟩
        have hs5 : w3.heap.size ≤ w5.heap.size := ((((Kept.refl w3).drew.trans hk4).alloc _).trans hk5).size
        have ht5 := hk5.size
        try simp at ht5
        have hY := hY.mono ((((Kept.refl w3).drew.trans hk4).alloc _)).size
        refine hK.out _ _ ⟨cell_kept ((((Kept.refl w3).drew.trans hk4).alloc _).trans hk5) hA0, cell_kept ((((Kept.refl w3).drew.trans hk4).alloc _).trans hk5) hA1, cell_kept ((((Kept.refl w3).drew.trans hk4).alloc _).trans hk5) hB0, cell_kept ((((Kept.refl w3).drew.trans hk4).alloc _).trans hk5) hB1⟩ (fun hHeld => ?_)
        clear hK K
        refine wpAnyH_ready (rs := [4]) (by kernel_rfl) (by simp) ?_
        refine AllReadyH.cons rfl (fun K hK => ?_) AllReadyH.nil
        go_simp
        refine hK.out _ _ ⟨cell_kept (((((Kept.refl w3).drew.trans hk4).alloc _).trans hk5).alloc _) hA0, cell_kept (((((Kept.refl w3).drew.trans hk4).alloc _).trans hk5).alloc _) hA1, cell_kept (((((Kept.refl w3).drew.trans hk4).alloc _).trans hk5).alloc _) hB0, cell_kept (((((Kept.refl w3).drew.trans hk4).alloc _).trans hk5).alloc _) hB1⟩ (fun hHeld => ?_)
        clear hK K
        have hz80 : (w5.alloc (Obj.cells #[.bool false, .slice none 0 0] 24)).cell? ⟨w5.heap.size, 0, none⟩ = some (.bool false) := cell_kept (Kept.refl _) (World.cell?_alloc_at _ _ _ _ (by simp))
        have hg80 : (w5.alloc (Obj.cells #[.bool false, .slice none 0 0] 24)).frozen? ⟨w5.heap.size, 0, none⟩ = false := ((Kept.refl _).frozens _ _ (by simp)).trans (World.frozen?_alloc_at _ _ _ _ (by simp))
        have hz81 : (w5.alloc (Obj.cells #[.bool false, .slice none 0 0] 24)).cell? ⟨w5.heap.size, 1, none⟩ = some (.slice none 0 0) := cell_kept (Kept.refl _) (World.cell?_alloc_at _ _ _ _ (by simp))
        have hg81 : (w5.alloc (Obj.cells #[.bool false, .slice none 0 0] 24)).frozen? ⟨w5.heap.size, 1, none⟩ = false := ((Kept.refl _).frozens _ _ (by simp)).trans (World.frozen?_alloc_at _ _ _ _ (by simp))
        have hz90 : (w5.alloc (Obj.cells #[.bool false, .slice none 0 0] 24)).cell? ⟨w4.heap.size, 0, none⟩ = some (.bool false) := cell_kept (((Kept.refl _).trans hk5).alloc _) (World.cell?_alloc_at _ _ _ _ (by simp))
        have hg90 : (w5.alloc (Obj.cells #[.bool false, .slice none 0 0] 24)).frozen? ⟨w4.heap.size, 0, none⟩ = false := ((((Kept.refl _).trans hk5).alloc _).frozens _ _ (by simp)).trans (World.frozen?_alloc_at _ _ _ _ (by simp))
        have hz91 : (w5.alloc (Obj.cells #[.bool false, .slice none 0 0] 24)).cell? ⟨w4.heap.size, 1, none⟩ = some (.slice none 0 0) := cell_kept (((Kept.refl _).trans hk5).alloc _) (World.cell?_alloc_at _ _ _ _ (by simp))
        have hg91 : (w5.alloc (Obj.cells #[.bool false, .slice none 0 0] 24)).frozen? ⟨w4.heap.size, 1, none⟩ = false := ((((Kept.refl _).trans hk5).alloc _).frozens _ _ (by simp)).trans (World.frozen?_alloc_at _ _ _ _ (by simp))
        obtain ⟨p8, hp⟩ : ∃ p, p = w5.heap.size := ⟨_, rfl⟩
        obtain ⟨p9, hq⟩ : ∃ p, p = w4.heap.size := ⟨_, rfl⟩
        have hp8 : w3.heap.size ≤ p8 := by omega
        have hp9 : w3.heap.size ≤ p9 := by omega
        have hne : ¬ (p8 = p9) := by omega
        have hne' : ¬ (p9 = p8) := by omega
        rw [← hp] at hz80 hz81 hg80 hg81 ⊢
        rw [← hq] at hz90 hz91 hg90 hg91 ⊢
        clear hp hq
        have hKT : Kept w3 (w5.alloc (Obj.cells #[.bool false, .slice none 0 0] 24)) := (((((Kept.refl w3).drew.trans hk4).alloc _).trans hk5).alloc _)
        have ghA0 := cell_kept hKT hA0
        have ghA1 := cell_kept hKT hA1
        have ghB0 := cell_kept hKT hB0
        have ghB1 := cell_kept hKT hB1
        have HN : Hid (Lent w3.heap.size (w5.alloc (Obj.cells #[.bool false, .slice none 0 0] 24)) bx a.length cx a ∧ Lent w3.heap.size (w5.alloc (Obj.cells #[.bool false, .slice none 0 0] 24)) by_ b.length cy b ∧ Kept w3 (w5.alloc (Obj.cells #[.bool false, .slice none 0 0] 24))) := ⟨hX.kept ((((Kept.refl _).alloc _).trans hk5).alloc _), hY.kept ((Kept.refl _).alloc _), hKT⟩
        clear hX hY hk4 hk5 hHeld hKT
        generalize (w5.alloc (Obj.cells #[.bool false, .slice none 0 0] 24)) = Wx at ghA0 ghA1 ghB0 ghB1 hz80 hz81 hz90 hz91 hg80 hg81 hg90 hg91 HN ⊢
        refine wpAnyH_ready (rs := [6]) (by kernel_rfl) (by simp) ?_
        refine AllReadyH.cons rfl (fun K hK => ?_) AllReadyH.nil
        go_simp
        refine hK.out _ _ ⟨set2_far (p := p8) ghA0 (by omega), set2_far (p := p8) ghA1 (by omega), set2_far (p := p8) ghB0 (by omega), set2_far (p := p8) ghB1 (by omega)⟩ (fun hHeld => ?_)
        clear hK K
        refine wpAnyH_ready (rs := [7]) (by kernel_rfl) (by simp) ?_
        refine AllReadyH.cons rfl (fun K hK => ?_) AllReadyH.nil
        go_simp
        refine hK.out _ _ ⟨set2_far (p := p9) (set2_far (p := p8) ghA0 (by omega)) (by omega), set2_far (p := p9) (set2_far (p := p8) ghA1 (by omega)) (by omega), set2_far (p := p9) (set2_far (p := p8) ghB0 (by omega)) (by omega), set2_far (p := p9) (set2_far (p := p8) ghB1 (by omega)) (by omega)⟩ (fun hHeld => ?_)
        clear hK K
        refine wpAnyH_done (by kernel_rfl) ?_ _
        go_wp2_with fail
        go_meet
        case rel =>
          have e8 := set2_at (x := .bool ma) (y := .slice (some ⟨bx, 0, none⟩) a.length cx) hz80 hz81
          have z90 := set2_far (x := .bool ma) (y := .slice (some ⟨bx, 0, none⟩) a.length cx) hz90 hne
          have z91 := set2_far (x := .bool ma) (y := .slice (some ⟨bx, 0, none⟩) a.length cx) hz91 hne
          have e9 := set2_at (x := .bool mb) (y := .slice (some ⟨by_, 0, none⟩) b.length cy) z90 z91
          exact ⟨p8, p9, bx, by_, cx, cy, rfl, rfl, set2_far e8.1 hne', set2_far e8.2 hne', e9.1, e9.2, (((HN.out.2.2.setCell hp8 _).setCell hp8 _).setCell hp9 _).setCell hp9 _, (HN.out.1.box hz80 _ _).box z90 _ _, (HN.out.2.1.box hz80 _ _).box z90 _ _⟩
      refine AllReadyH.cons rfl (fun K hK => ?_) AllReadyH.nil
      go_simp
      refine hK.out _ _ ⟨cell_kept ((((Kept.refl w3).drew.trans hk4).alloc _).alloc _) hA0, cell_kept ((((Kept.refl w3).drew.trans hk4).alloc _).alloc _) hA1, cell_kept ((((Kept.refl w3).drew.trans hk4).alloc _).alloc _) hB0, cell_kept ((((Kept.refl w3).drew.trans hk4).alloc _).alloc _) hB1⟩ (fun hHeld => ?_)
      clear hK K
      refine wpAnyH_ready (rs := [3]) (by kernel_rfl) (by simp) ?_
      refine AllReadyH.cons rfl (fun K hK => ?_) AllReadyH.nil
      go_simp
      refine (lent_any mb ab b.length cb b _ (HB3.out.kept ((((Kept.refl w3).drew.trans hk4).alloc _).alloc _)) hlb).mono ?_
      rintro e w5 ⟨hk5, by_, cy, rfl, hY⟩
      have hs5 : w3.heap.size ≤ w5.heap.size := (((((Kept.refl w3).drew.trans hk4).alloc _).alloc _).trans hk5).size
      have ht5 := hk5.size
      try simp at ht5
      have hY := hY.mono (((((Kept.refl w3).drew.trans hk4).alloc _).alloc _)).size
      refine hK.out _ _ ⟨cell_kept (((((Kept.refl w3).drew.trans hk4).alloc _).alloc _).trans hk5) hA0, cell_kept (((((Kept.refl w3).drew.trans hk4).alloc _).alloc _).trans hk5) hA1, cell_kept (((((Kept.refl w3).drew.trans hk4).alloc _).alloc _).trans hk5) hB0, cell_kept (((((Kept.refl w3).drew.trans hk4).alloc _).alloc _).trans hk5) hB1⟩ (fun hHeld => ?_)
      clear hK K
      have hz80 : w5.cell? ⟨w4.heap.size + 1, 0, none⟩ = some (.bool false) := cell_kept ((Kept.refl _).trans hk5) (World.cell?_alloc_at _ _ _ _ (by simp))
      have hg80 : w5.frozen? ⟨w4.heap.size + 1, 0, none⟩ = false := (((Kept.refl _).trans hk5).frozens _ _ (by simp)).trans (World.frozen?_alloc_at _ _ _ _ (by simp))
      have hz81 : w5.cell? ⟨w4.heap.size + 1, 1, none⟩ = some (.slice none 0 0) := cell_kept ((Kept.refl _).trans hk5) (World.cell?_alloc_at _ _ _ _ (by simp))
      have hg81 : w5.frozen? ⟨w4.heap.size + 1, 1, none⟩ = false := (((Kept.refl _).trans hk5).frozens _ _ (by simp)).trans (World.frozen?_alloc_at _ _ _ _ (by simp))
      have hz90 : w5.cell? ⟨w4.heap.size, 0, none⟩ = some (.bool false) := cell_kept (((Kept.refl _).alloc _).trans hk5) (World.cell?_alloc_at _ _ _ _ (by simp))
      have hg90 : w5.frozen? ⟨w4.heap.size, 0, none⟩ = false := ((((Kept.refl _).alloc _).trans hk5).frozens _ _ (by simp)).trans (World.frozen?_alloc_at _ _ _ _ (by simp))
      have hz91 : w5.cell? ⟨w4.heap.size, 1, none⟩ = some (.slice none 0 0) := cell_kept (((Kept.refl _).alloc _).trans hk5) (World.cell?_alloc_at _ _ _ _ (by simp))
      have hg91 : w5.frozen? ⟨w4.heap.size, 1, none⟩ = false := ((((Kept.refl _).alloc _).trans hk5).frozens _ _ (by simp)).trans (World.frozen?_alloc_at _ _ _ _ (by simp))
      obtain ⟨p8, hp⟩ : ∃ p, p = w4.heap.size + 1 := ⟨_, rfl⟩
      obtain ⟨p9, hq⟩ : ∃ p, p = w4.heap.size := ⟨_, rfl⟩
      have hp8 : w3.heap.size ≤ p8 := by omega
      have hp9 : w3.heap.size ≤ p9 := by omega
      have hne : ¬ (p8 = p9) := by omega
      have hne' : ¬ (p9 = p8) := by omega
      rw [← hp] at hz80 hz81 hg80 hg81 ⊢
      rw [← hq] at hz90 hz91 hg90 hg91 ⊢
      clear hp hq
      have hKT : Kept w3 w5 := (((((Kept.refl w3).drew.trans hk4).alloc _).alloc _).trans hk5)
      have ghA0 := cell_kept hKT hA0
      have ghA1 := cell_kept hKT hA1
      have ghB0 := cell_kept hKT hB0
      have ghB1 := cell_kept hKT hB1
      have HN : Hid (Lent w3.heap.size w5 bx a.length cx a ∧ Lent w3.heap.size w5 by_ b.length cy b ∧ Kept w3 w5) := ⟨hX.kept ((((Kept.refl _).alloc _).alloc _).trans hk5), hY.kept (Kept.refl _), hKT⟩
      clear hX hY hk4 hk5 hHeld hKT
      generalize w5 = Wx at ghA0 ghA1 ghB0 ghB1 hz80 hz81 hz90 hz91 hg80 hg81 hg90 hg91 HN ⊢
      refine wpAnyH_ready (rs := [6]) (by kernel_rfl) (by simp) ?_
      refine AllReadyH.cons rfl (fun K hK => ?_) AllReadyH.nil
      go_simp
      refine hK.out _ _ ⟨set2_far (p := p8) ghA0 (by omega), set2_far (p := p8) ghA1 (by omega), set2_far (p := p8) ghB0 (by omega), set2_far (p := p8) ghB1 (by omega)⟩ (fun hHeld => ?_)
      clear hK K
      refine wpAnyH_ready (rs := [7]) (by kernel_rfl) (by simp) ?_
      refine AllReadyH.cons rfl (fun K hK => ?_) AllReadyH.nil
      go_simp
      refine hK.out _ _ ⟨set2_far (p := p9) (set2_far (p := p8) ghA0 (by omega)) (by omega), set2_far (p := p9) (set2_far (p := p8) ghA1 (by omega)) (by omega), set2_far (p := p9) (set2_far (p := p8) ghB0 (by omega)) (by omega), set2_far (p := p9) (set2_far (p := p8) ghB1 (by omega)) (by omega)⟩ (fun hHeld => ?_)
      clear hK K
      refine wpAnyH_done (by kernel_rfl) ?_ _
      go_wp2_with fail
      go_meet
      case rel =>
        have e8 := set2_at (x := .bool ma) (y := .slice (some ⟨bx, 0, none⟩) a.length cx) hz80 hz81
        have z90 := set2_far (x := .bool ma) (y := .slice (some ⟨bx, 0, none⟩) a.length cx) hz90 hne
        have z91 := set2_far (x := .bool ma) (y := .slice (some ⟨bx, 0, none⟩) a.length cx) hz91 hne
        have e9 := set2_at (x := .bool mb) (y := .slice (some ⟨by_, 0, none⟩) b.length cy) z90 z91
        exact ⟨p8, p9, bx, by_, cx, cy, rfl, rfl, set2_far e8.1 hne', set2_far e8.2 hne', e9.1, e9.2, (((HN.out.2.2.setCell hp8 _).setCell hp8 _).setCell hp9 _).setCell hp9 _, (HN.out.1.box hz80 _ _).box z90 _ _, (HN.out.2.1.box hz80 _ _).box z90 _ _⟩
    refine AllReadyH.cons rfl (fun K hK => ?_) ?_
    · go_simp
      refine hK.out _ _ ⟨cell_kept ((Kept.refl w3).drew.alloc _) hA0, cell_kept ((Kept.refl w3).drew.alloc _) hA1, cell_kept ((Kept.refl w3).drew.alloc _) hB0, cell_kept ((Kept.refl w3).drew.alloc _) hB1⟩ (fun hHeld => ?_)
      clear hK K
      refine wpAnyH_ready (rs := [1, 5]) (by kernel_rfl) (by simp) ?_
      refine AllReadyH.cons rfl (fun K hK => ?_) ?_
      · go_simp
        refine (lent_any ma aa a.length ca a _ (HA3.out.kept ((Kept.refl w3).drew.alloc _)) hla).mono ?_
        rintro e w4 ⟨hk4, bx, cx, rfl, hX⟩
        have hs4 : w3.heap.size ≤ w4.heap.size := (((Kept.refl w3).drew.alloc _).trans hk4).size
        have ht4 := hk4.size
        try simp at ht4
        have hX := hX.mono (((Kept.refl w3).drew.alloc _)).size
        refine hK.out _ _ ⟨cell_kept (((Kept.refl w3).drew.alloc _).trans hk4) hA0, cell_kept (((Kept.refl w3).drew.alloc _).trans hk4) hA1, cell_kept (((Kept.refl w3).drew.alloc _).trans hk4) hB0, cell_kept (((Kept.refl w3).drew.alloc _).trans hk4) hB1⟩ (fun hHeld => ?_)
        clear hK K
        refine wpAnyH_ready (rs := [3, 5]) (by kernel_rfl) (by simp) ?_
        refine AllReadyH.cons rfl (fun K hK => ?_) ?_
        · go_simp
          refine (lent_any mb ab b.length cb b _ (HB3.out.kept (((Kept.refl w3).drew.alloc _).trans hk4)) hlb).mono ?_
          rintro e w5 ⟨hk5, by_, cy, rfl, hY⟩
          have hs5 : w3.heap.size ≤ w5.heap.size := ((((Kept.refl w3).drew.alloc _).trans hk4).trans hk5).size
          have ht5 := hk5.size
          try simp at ht5
          have hY := hY.mono ((((Kept.refl w3).drew.alloc _).trans hk4)).size
          refine hK.out _ _ ⟨cell_kept ((((Kept.refl w3).drew.alloc _).trans hk4).trans hk5) hA0, cell_kept ((((Kept.refl w3).drew.alloc _).trans hk4).trans hk5) hA1, cell_kept ((((Kept.refl w3).drew.alloc _).trans hk4).trans hk5) hB0, cell_kept ((((Kept.refl w3).drew.alloc _).trans hk4).trans hk5) hB1⟩ (fun hHeld => ?_)
          clear hK K
          refine wpAnyH_ready (rs := [5]) (by kernel_rfl) (by simp) ?_
          refine AllReadyH.cons rfl (fun K hK => ?_) AllReadyH.nil
          go_simp
          refine hK.out _ _ ⟨cell_kept (((((Kept.refl w3).drew.alloc _).trans hk4).trans hk5).alloc _) hA0, cell_kept (((((Kept.refl w3).drew.alloc _).trans hk4).trans hk5).alloc _) hA1, cell_kept (((((Kept.refl w3).drew.alloc _).trans hk4).trans hk5).alloc _) hB0, cell_kept (((((Kept.refl w3).drew.alloc _).trans hk4).trans hk5).alloc _) hB1⟩ (fun hHeld => ?_)
          clear hK K
          have hz80 : (w5.alloc (Obj.cells #[.bool false, .slice none 0 0] 24)).cell? ⟨w3.heap.size, 0, none⟩ = some (.bool false) := cell_kept ((((Kept.refl _).trans hk4).trans hk5).alloc _) (World.cell?_alloc_at _ _ _ _ (by simp))
          have hg80 : (w5.alloc (Obj.cells #[.bool false, .slice none 0 0] 24)).frozen? ⟨w3.heap.size, 0, none⟩ = false := (((((Kept.refl _).trans hk4).trans hk5).alloc _).frozens _ _ (by simp)).trans (World.frozen?_alloc_at _ _ _ _ (by simp))
          have hz81 : (w5.alloc (Obj.cells #[.bool false, .slice none 0 0] 24)).cell? ⟨w3.heap.size, 1, none⟩ = some (.slice none 0 0) := cell_kept ((((Kept.refl _).trans hk4).trans hk5).alloc _) (World.cell?_alloc_at _ _ _ _ (by simp))
          have hg81 : (w5.alloc (Obj.cells #[.bool false, .slice none 0 0] 24)).frozen? ⟨w3.heap.size, 1, none⟩ = false := (((((Kept.refl _).trans hk4).trans hk5).alloc _).frozens _ _ (by simp)).trans (World.frozen?_alloc_at _ _ _ _ (by simp))
          have hz90 : (w5.alloc (Obj.cells #[.bool false, .slice none 0 0] 24)).cell? ⟨w5.heap.size, 0, none⟩ = some (.bool false) := cell_kept (Kept.refl _) (World.cell?_alloc_at _ _ _ _ (by simp))
          have hg90 : (w5.alloc (Obj.cells #[.bool false, .slice none 0 0] 24)).frozen? ⟨w5.heap.size, 0, none⟩ = false := ((Kept.refl _).frozens _ _ (by simp)).trans (World.frozen?_alloc_at _ _ _ _ (by simp))
          have hz91 : (w5.alloc (Obj.cells #[.bool false, .slice none 0 0] 24)).cell? ⟨w5.heap.size, 1, none⟩ = some (.slice none 0 0) := cell_kept (Kept.refl _) (World.cell?_alloc_at _ _ _ _ (by simp))
          have hg91 : (w5.alloc (Obj.cells #[.bool false, .slice none 0 0] 24)).frozen? ⟨w5.heap.size, 1, none⟩ = false := ((Kept.refl _).frozens _ _ (by simp)).trans (World.frozen?_alloc_at _ _ _ _ (by simp))
          obtain ⟨p8, hp⟩ : ∃ p, p = w3.heap.size := ⟨_, rfl⟩
          obtain ⟨p9, hq⟩ : ∃ p, p = w5.heap.size := ⟨_, rfl⟩
          have hp8 : w3.heap.size ≤ p8 := by omega
          have hp9 : w3.heap.size ≤ p9 := by omega
          have hne : ¬ (p8 = p9) := by omega
          have hne' : ¬ (p9 = p8) := by omega
          rw [← hp] at hz80 hz81 hg80 hg81 ⊢
          rw [← hq] at hz90 hz91 hg90 hg91 ⊢
          clear hp hq
          have hKT : Kept w3 (w5.alloc (Obj.cells #[.bool false, .slice none 0 0] 24)) := (((((Kept.refl w3).drew.alloc _).trans hk4).trans hk5).alloc _)
          have ghA0 := cell_kept hKT hA0
          have ghA1 := cell_kept hKT hA1
          have ghB0 := cell_kept hKT hB0
          have ghB1 := cell_kept hKT hB1
          have HN : Hid (Lent w3.heap.size (w5.alloc (Obj.cells #[.bool false, .slice none 0 0] 24)) bx a.length cx a ∧ Lent w3.heap.size (w5.alloc (Obj.cells #[.bool false, .slice none 0 0] 24)) by_ b.length cy b ∧ Kept w3 (w5.alloc (Obj.cells #[.bool false, .slice none 0 0] 24))) := ⟨hX.kept (((Kept.refl _).trans hk5).alloc _), hY.kept ((Kept.refl _).alloc _), hKT⟩
          clear hX hY hk4 hk5 hHeld hKT
          generalize (w5.alloc (Obj.cells #[.bool false, .slice none 0 0] 24)) = Wx at ghA0 ghA1 ghB0 ghB1 hz80 hz81 hz90 hz91 hg80 hg81 hg90 hg91 HN ⊢
          refine wpAnyH_ready (rs := [6]) (by kernel_rfl) (by simp) ?_
          refine AllReadyH.cons rfl (fun K hK => ?_) AllReadyH.nil
          go_simp
          refine hK.out _ _ ⟨set2_far (p := p8) ghA0 (by omega), set2_far (p := p8) ghA1 (by omega), set2_far (p := p8) ghB0 (by omega), set2_far (p := p8) ghB1 (by omega)⟩ (fun hHeld => ?_)
          clear hK K
          refine wpAnyH_ready (rs := [7]) (by kernel_rfl) (by simp) ?_
          refine AllReadyH.cons rfl (fun K hK => ?_) AllReadyH.nil
          go_simp
          refine hK.out _ _ ⟨set2_far (p := p9) (set2_far (p := p8) ghA0 (by omega)) (by omega), set2_far (p := p9) (set2_far (p := p8) ghA1 (by omega)) (by omega), set2_far (p := p9) (set2_far (p := p8) ghB0 (by omega)) (by omega), set2_far (p := p9) (set2_far (p := p8) ghB1 (by omega)) (by omega)⟩ (fun hHeld => ?_)
          clear hK K
          refine wpAnyH_done (by kernel_rfl) ?_ _
          go_wp2_with fail
          go_meet
          case rel =>
            have e8 := set2_at (x := .bool ma) (y := .slice (some ⟨bx, 0, none⟩) a.length cx) hz80 hz81
            have z90 := set2_far (x := .bool ma) (y := .slice (some ⟨bx, 0, none⟩) a.length cx) hz90 hne
            have z91 := set2_far (x := .bool ma) (y := .slice (some ⟨bx, 0, none⟩) a.length cx) hz91 hne
            have e9 := set2_at (x := .bool mb) (y := .slice (some ⟨by_, 0, none⟩) b.length cy) z90 z91
            exact ⟨p8, p9, bx, by_, cx, cy, rfl, rfl, set2_far e8.1 hne', set2_far e8.2 hne', e9.1, e9.2, (((HN.out.2.2.setCell hp8 _).setCell hp8 _).setCell hp9 _).setCell hp9 _, (HN.out.1.box hz80 _ _).box z90 _ _, (HN.out.2.1.box hz80 _ _).box z90 _ _⟩
        refine AllReadyH.cons rfl (fun K hK => ?_) AllReadyH.nil
        go_simp
        refine hK.out _ _ ⟨cell_kept ((((Kept.refl w3).drew.alloc _).trans hk4).alloc _) hA0, cell_kept ((((Kept.refl w3).drew.alloc _).trans hk4).alloc _) hA1, cell_kept ((((Kept.refl w3).drew.alloc _).trans hk4).alloc _) hB0, cell_kept ((((Kept.refl w3).drew.alloc _).trans hk4).alloc _) hB1⟩ (fun hHeld => ?_)
        clear hK K
        refine wpAnyH_ready (rs := [3]) (by kernel_rfl) (by simp) ?_
        refine AllReadyH.cons rfl (fun K hK => ?_) AllReadyH.nil
        go_simp
        refine (lent_any mb ab b.length cb b _ (HB3.out.kept ((((Kept.refl w3).drew.alloc _).trans hk4).alloc _)) hlb).mono ?_
        rintro e w5 ⟨hk5, by_, cy, rfl, hY⟩
        have hs5 : w3.heap.size ≤ w5.heap.size := (((((Kept.refl w3).drew.alloc _).trans hk4).alloc _).trans hk5).size
        have ht5 := hk5.size
        try simp at ht5
        have hY := hY.mono (((((Kept.refl w3).drew.alloc _).trans hk4).alloc _)).size
        refine hK.out _ _ ⟨cell_kept (((((Kept.refl w3).drew.alloc _).trans hk4).alloc _).trans hk5) hA0, cell_kept (((((Kept.refl w3).drew.alloc _).trans hk4).alloc _).trans hk5) hA1, cell_kept (((((Kept.refl w3).drew.alloc _).trans hk4).alloc _).trans hk5) hB0, cell_kept (((((Kept.refl w3).drew.alloc _).trans hk4).alloc _).trans hk5) hB1⟩ (fun hHeld => ?_)
        clear hK K
        have hz80 : w5.cell? ⟨w3.heap.size, 0, none⟩ = some (.bool false) := cell_kept ((((Kept.refl _).trans hk4).alloc _).trans hk5) (World.cell?_alloc_at _ _ _ _ (by simp))
        have hg80 : w5.frozen? ⟨w3.heap.size, 0, none⟩ = false := (((((Kept.refl _).trans hk4).alloc _).trans hk5).frozens _ _ (by simp)).trans (World.frozen?_alloc_at _ _ _ _ (by simp))
        have hz81 : w5.cell? ⟨w3.heap.size, 1, none⟩ = some (.slice none 0 0) := cell_kept ((((Kept.refl _).trans hk4).alloc _).trans hk5) (World.cell?_alloc_at _ _ _ _ (by simp))
        have hg81 : w5.frozen? ⟨w3.heap.size, 1, none⟩ = false := (((((Kept.refl _).trans hk4).alloc _).trans hk5).frozens _ _ (by simp)).trans (World.frozen?_alloc_at _ _ _ _ (by simp))
        have hz90 : w5.cell? ⟨w4.heap.size, 0, none⟩ = some (.bool false) := cell_kept ((Kept.refl _).trans hk5) (World.cell?_alloc_at _ _ _ _ (by simp))
        have hg90 : w5.frozen? ⟨w4.heap.size, 0, none⟩ = false := (((Kept.refl _).trans hk5).frozens _ _ (by simp)).trans (World.frozen?_alloc_at _ _ _ _ (by simp))
        have hz91 : w5.cell? ⟨w4.heap.size, 1, none⟩ = some (.slice none 0 0) := cell_kept ((Kept.refl _).trans hk5) (World.cell?_alloc_at _ _ _ _ (by simp))
        have hg91 : w5.frozen? ⟨w4.heap.size, 1, none⟩ = false := (((Kept.refl _).trans hk5).frozens _ _ (by simp)).trans (World.frozen?_alloc_at _ _ _ _ (by simp))
        obtain ⟨p8, hp⟩ : ∃ p, p = w3.heap.size := ⟨_, rfl⟩
        obtain ⟨p9, hq⟩ : ∃ p, p = w4.heap.size := ⟨_, rfl⟩
        have hp8 : w3.heap.size ≤ p8 := by omega
        have hp9 : w3.heap.size ≤ p9 := by omega
        have hne : ¬ (p8 = p9) := by omega
        have hne' : ¬ (p9 = p8) := by omega
        rw [← hp] at hz80 hz81 hg80 hg81 ⊢
        rw [← hq] at hz90 hz91 hg90 hg91 ⊢
        clear hp hq
        have hKT : Kept w3 w5 := (((((Kept.refl w3).drew.alloc _).trans hk4).alloc _).trans hk5)
        have ghA0 := cell_kept hKT hA0
        have ghA1 := cell_kept hKT hA1
        have ghB0 := cell_kept hKT hB0
        have ghB1 := cell_kept hKT hB1
        have HN : Hid (Lent w3.heap.size w5 bx a.length cx a ∧ Lent w3.heap.size w5 by_ b.length cy b ∧ Kept w3 w5) := ⟨hX.kept (((Kept.refl _).alloc _).trans hk5), hY.kept (Kept.refl _), hKT⟩
        clear hX hY hk4 hk5 hHeld hKT
        generalize w5 = Wx at ghA0 ghA1 ghB0 ghB1 hz80 hz81 hz90 hz91 hg80 hg81 hg90 hg91 HN ⊢
        refine wpAnyH_ready (rs := [6]) (by kernel_rfl) (by simp) ?_
        refine AllReadyH.cons rfl (fun K hK => ?_) AllReadyH.nil
        go_simp
        refine hK.out _ _ ⟨set2_far (p := p8) ghA0 (by omega), set2_far (p := p8) ghA1 (by omega), set2_far (p := p8) ghB0 (by omega), set2_far (p := p8) ghB1 (by omega)⟩ (fun hHeld => ?_)
        clear hK K
        refine wpAnyH_ready (rs := [7]) (by kernel_rfl) (by simp) ?_
        refine AllReadyH.cons rfl (fun K hK => ?_) AllReadyH.nil
        go_simp
        refine hK.out _ _ ⟨set2_far (p := p9) (set2_far (p := p8) ghA0 (by omega)) (by omega), set2_far (p := p9) (set2_far (p := p8) ghA1 (by omega)) (by omega), set2_far (p := p9) (set2_far (p := p8) ghB0 (by omega)) (by omega), set2_far (p := p9) (set2_far (p := p8) ghB1 (by omega)) (by omega)⟩ (fun hHeld => ?_)
        clear hK K
        refine wpAnyH_done (by kernel_rfl) ?_ _
        go_wp2_with fail
        go_meet
        case rel =>
          have e8 := set2_at (x := .bool ma) (y := .slice (some ⟨bx, 0, none⟩) a.length cx) hz80 hz81
          have z90 := set2_far (x := .bool ma) (y := .slice (some ⟨bx, 0, none⟩) a.length cx) hz90 hne
          have z91 := set2_far (x := .bool ma) (y := .slice (some ⟨bx, 0, none⟩) a.length cx) hz91 hne
          have e9 := set2_at (x := .bool mb) (y := .slice (some ⟨by_, 0, none⟩) b.length cy) z90 z91
          exact ⟨p8, p9, bx, by_, cx, cy, rfl, rfl, set2_far e8.1 hne', set2_far e8.2 hne', e9.1, e9.2, (((HN.out.2.2.setCell hp8 _).setCell hp8 _).setCell hp9 _).setCell hp9 _, (HN.out.1.box hz80 _ _).box z90 _ _, (HN.out.2.1.box hz80 _ _).box z90 _ _⟩
      refine AllReadyH.cons rfl (fun K hK => ?_) AllReadyH.nil
      go_simp
      refine hK.out _ _ ⟨cell_kept (((Kept.refl w3).drew.alloc _).alloc _) hA0, cell_kept (((Kept.refl w3).drew.alloc _).alloc _) hA1, cell_kept (((Kept.refl w3).drew.alloc _).alloc _) hB0, cell_kept (((Kept.refl w3).drew.alloc _).alloc _) hB1⟩ (fun hHeld => ?_)
      clear hK K
      refine wpAnyH_ready (rs := [1]) (by kernel_rfl) (by simp) ?_
      refine AllReadyH.cons rfl (fun K hK => ?_) AllReadyH.nil
      go_simp
      refine (lent_any ma aa a.length ca a _ (HA3.out.kept (((Kept.refl w3).drew.alloc _).alloc _)) hla).mono ?_
      rintro e w4 ⟨hk4, bx, cx, rfl, hX⟩
      have hs4 : w3.heap.size ≤ w4.heap.size := ((((Kept.refl w3).drew.alloc _).alloc _).trans hk4).size
      have ht4 := hk4.size
      try simp at ht4
      have hX := hX.mono ((((Kept.refl w3).drew.alloc _).alloc _)).size
      refine hK.out _ _ ⟨cell_kept ((((Kept.refl w3).drew.alloc _).alloc _).trans hk4) hA0, cell_kept ((((Kept.refl w3).drew.alloc _).alloc _).trans hk4) hA1, cell_kept ((((Kept.refl w3).drew.alloc _).alloc _).trans hk4) hB0, cell_kept ((((Kept.refl w3).drew.alloc _).alloc _).trans hk4) hB1⟩ (fun hHeld => ?_)
      clear hK K
      refine wpAnyH_ready (rs := [3]) (by kernel_rfl) (by simp) ?_
      refine AllReadyH.cons rfl (fun K hK => ?_) AllReadyH.nil
      go_simp
      refine (lent_any mb ab b.length cb b _ (HB3.out.kept ((((Kept.refl w3).drew.alloc _).alloc _).trans hk4)) hlb).mono ?_
      rintro e w5 ⟨hk5, by_, cy, rfl, hY⟩
      have hs5 : w3.heap.size ≤ w5.heap.size := (((((Kept.refl w3).drew.alloc _).alloc _).trans hk4).trans hk5).size
      have ht5 := hk5.size
      try simp at ht5
      have hY := hY.mono (((((Kept.refl w3).drew.alloc _).alloc _).trans hk4)).size
      refine hK.out _ _ ⟨cell_kept (((((Kept.refl w3).drew.alloc _).alloc _).trans hk4).trans hk5) hA0, cell_kept (((((Kept.refl w3).drew.alloc _).alloc _).trans hk4).trans hk5) hA1, cell_kept (((((Kept.refl w3).drew.alloc _).alloc _).trans hk4).trans hk5) hB0, cell_kept (((((Kept.refl w3).drew.alloc _).alloc _).trans hk4).trans hk5) hB1⟩ (fun hHeld => ?_)
      clear hK K
      have hz80 : w5.cell? ⟨w3.heap.size, 0, none⟩ = some (.bool false) := cell_kept ((((Kept.refl _).alloc _).trans hk4).trans hk5) (World.cell?_alloc_at _ _ _ _ (by simp))
      have hg80 : w5.frozen? ⟨w3.heap.size, 0, none⟩ = false := (((((Kept.refl _).alloc _).trans hk4).trans hk5).frozens _ _ (by simp)).trans (World.frozen?_alloc_at _ _ _ _ (by simp))
      have hz81 : w5.cell? ⟨w3.heap.size, 1, none⟩ = some (.slice none 0 0) := cell_kept ((((Kept.refl _).alloc _).trans hk4).trans hk5) (World.cell?_alloc_at _ _ _ _ (by simp))
      have hg81 : w5.frozen? ⟨w3.heap.size, 1, none⟩ = false := (((((Kept.refl _).alloc _).trans hk4).trans hk5).frozens _ _ (by simp)).trans (World.frozen?_alloc_at _ _ _ _ (by simp))
      have hz90 : w5.cell? ⟨w3.heap.size + 1, 0, none⟩ = some (.bool false) := cell_kept (((Kept.refl _).trans hk4).trans hk5) (World.cell?_alloc_at _ _ _ _ (by simp))
      have hg90 : w5.frozen? ⟨w3.heap.size + 1, 0, none⟩ = false := ((((Kept.refl _).trans hk4).trans hk5).frozens _ _ (by simp)).trans (World.frozen?_alloc_at _ _ _ _ (by simp))
      have hz91 : w5.cell? ⟨w3.heap.size + 1, 1, none⟩ = some (.slice none 0 0) := cell_kept (((Kept.refl _).trans hk4).trans hk5) (World.cell?_alloc_at _ _ _ _ (by simp))
      have hg91 : w5.frozen? ⟨w3.heap.size + 1, 1, none⟩ = false := ((((Kept.refl _).trans hk4).trans hk5).frozens _ _ (by simp)).trans (World.frozen?_alloc_at _ _ _ _ (by simp))
      obtain ⟨p8, hp⟩ : ∃ p, p = w3.heap.size := ⟨_, rfl⟩
      obtain ⟨p9, hq⟩ : ∃ p, p = w3.heap.size + 1 := ⟨_, rfl⟩
      have hp8 : w3.heap.size ≤ p8 := by omega
      have hp9 : w3.heap.size ≤ p9 := by omega
      have hne : ¬ (p8 = p9) := by omega
      have hne' : ¬ (p9 = p8) := by omega
      rw [← hq] at hz90 hz91 hg90 hg91 ⊢
      rw [← hp] at hz80 hz81 hg80 hg81 ⊢
      clear hp hq
      have hKT : Kept w3 w5 := (((((Kept.refl w3).drew.alloc _).alloc _).trans hk4).trans hk5)
      have ghA0 := cell_kept hKT hA0
      have ghA1 := cell_kept hKT hA1
      have ghB0 := cell_kept hKT hB0
      have ghB1 := cell_kept hKT hB1
      have HN : Hid (Lent w3.heap.size w5 bx a.length cx a ∧ Lent w3.heap.size w5 by_ b.length cy b ∧ Kept w3 w5) := ⟨hX.kept ((Kept.refl _).trans hk5), hY.kept (Kept.refl _), hKT⟩
      clear hX hY hk4 hk5 hHeld hKT
      generalize w5 = Wx at ghA0 ghA1 ghB0 ghB1 hz80 hz81 hz90 hz91 hg80 hg81 hg90 hg91 HN ⊢
      refine wpAnyH_ready (rs := [6]) (by kernel_rfl) (by simp) ?_
      refine AllReadyH.cons rfl (fun K hK => ?_) AllReadyH.nil
      go_simp
      refine hK.out _ _ ⟨set2_far (p := p8) ghA0 (by omega), set2_far (p := p8) ghA1 (by omega), set2_far (p := p8) ghB0 (by omega), set2_far (p := p8) ghB1 (by omega)⟩ (fun hHeld => ?_)
      clear hK K
      refine wpAnyH_ready (rs := [7]) (by kernel_rfl) (by simp) ?_
      refine AllReadyH.cons rfl (fun K hK => ?_) AllReadyH.nil
      go_simp
      refine hK.out _ _ ⟨set2_far (p := p9) (set2_far (p := p8) ghA0 (by omega)) (by omega), set2_far (p := p9) (set2_far (p := p8) ghA1 (by omega)) (by omega), set2_far (p := p9) (set2_far (p := p8) ghB0 (by omega)) (by omega), set2_far (p := p9) (set2_far (p := p8) ghB1 (by omega)) (by omega)⟩ (fun hHeld => ?_)
      clear hK K
      refine wpAnyH_done (by kernel_rfl) ?_ _
      go_wp2_with fail
      go_meet
      case rel =>
        have e8 := set2_at (x := .bool ma) (y := .slice (some ⟨bx, 0, none⟩) a.length cx) hz80 hz81
        have z90 := set2_far (x := .bool ma) (y := .slice (some ⟨bx, 0, none⟩) a.length cx) hz90 hne
        have z91 := set2_far (x := .bool ma) (y := .slice (some ⟨bx, 0, none⟩) a.length cx) hz91 hne
        have e9 := set2_at (x := .bool mb) (y := .slice (some ⟨by_, 0, none⟩) b.length cy) z90 z91
        exact ⟨p8, p9, bx, by_, cx, cy, rfl, rfl, set2_far e8.1 hne', set2_far e8.2 hne', e9.1, e9.2, (((HN.out.2.2.setCell hp8 _).setCell hp8 _).setCell hp9 _).setCell hp9 _, (HN.out.1.box hz80 _ _).box z90 _ _, (HN.out.2.1.box hz80 _ _).box z90 _ _⟩
    refine AllReadyH.cons rfl (fun K hK => ?_) AllReadyH.nil
    go_simp
    refine hK.out _ _ ⟨cell_kept ((Kept.refl w3).drew.alloc _) hA0, cell_kept ((Kept.refl w3).drew.alloc _) hA1, cell_kept ((Kept.refl w3).drew.alloc _) hB0, cell_kept ((Kept.refl w3).drew.alloc _) hB1⟩ (fun hHeld => ?_)
    clear hK K
    refine wpAnyH_ready (rs := [1, 4]) (by kernel_rfl) (by simp) ?_
    refine AllReadyH.cons rfl (fun K hK => ?_) ?_
    · go_simp
      refine (lent_any ma aa a.length ca a _ (HA3.out.kept ((Kept.refl w3).drew.alloc _)) hla).mono ?_
      rintro e w4 ⟨hk4, bx, cx, rfl, hX⟩
      have hs4 : w3.heap.size ≤ w4.heap.size := (((Kept.refl w3).drew.alloc _).trans hk4).size
      have ht4 := hk4.size
      try simp at ht4
      have hX := hX.mono (((Kept.refl w3).drew.alloc _)).size
      refine hK.out _ _ ⟨cell_kept (((Kept.refl w3).drew.alloc _).trans hk4) hA0, cell_kept (((Kept.refl w3).drew.alloc _).trans hk4) hA1, cell_kept (((Kept.refl w3).drew.alloc _).trans hk4) hB0, cell_kept (((Kept.refl w3).drew.alloc _).trans hk4) hB1⟩ (fun hHeld => ?_)
      clear hK K
      refine wpAnyH_ready (rs := [3, 4]) (by kernel_rfl) (by simp) ?_
      refine AllReadyH.cons rfl (fun K hK => ?_) ?_
      · go_simp
        refine (lent_any mb ab b.length cb b _ (HB3.out.kept (((Kept.refl w3).drew.alloc _).trans hk4)) hlb).mono ?_
        rintro e w5 ⟨hk5, by_, cy, rfl, hY⟩
        have hs5 : w3.heap.size ≤ w5.heap.size := ((((Kept.refl w3).drew.alloc _).trans hk4).trans hk5).size
        have ht5 := hk5.size
        try simp at ht5
        have hY := hY.mono ((((Kept.refl w3).drew.alloc _).trans hk4)).size
        refine hK.out _ _ ⟨cell_kept ((((Kept.refl w3).drew.alloc _).trans hk4).trans hk5) hA0, cell_kept ((((Kept.refl w3).drew.alloc _).trans hk4).trans hk5) hA1, cell_kept ((((Kept.refl w3).drew.alloc _).trans hk4).trans hk5) hB0, cell_kept ((((Kept.refl w3).drew.alloc _).trans hk4).trans hk5) hB1⟩ (fun hHeld => ?_)
        clear hK K
        refine wpAnyH_ready (rs := [4]) (by kernel_rfl) (by simp) ?_
        refine AllReadyH.cons rfl (fun K hK => ?_) AllReadyH.nil
        go_simp
        refine hK.out _ _ ⟨cell_kept (((((Kept.refl w3).drew.alloc _).trans hk4).trans hk5).alloc _) hA0, cell_kept (((((Kept.refl w3).drew.alloc _).trans hk4).trans hk5).alloc _) hA1, cell_kept (((((Kept.refl w3).drew.alloc _).trans hk4).trans hk5).alloc _) hB0, cell_kept (((((Kept.refl w3).drew.alloc _).trans hk4).trans hk5).alloc _) hB1⟩ (fun hHeld => ?_)
        clear hK K
        have hz80 : (w5.alloc (Obj.cells #[.bool false, .slice none 0 0] 24)).cell? ⟨w5.heap.size, 0, none⟩ = some (.bool false) := cell_kept (Kept.refl _) (World.cell?_alloc_at _ _ _ _ (by simp))
        have hg80 : (w5.alloc (Obj.cells #[.bool false, .slice none 0 0] 24)).frozen? ⟨w5.heap.size, 0, none⟩ = false := ((Kept.refl _).frozens _ _ (by simp)).trans (World.frozen?_alloc_at _ _ _ _ (by simp))
        have hz81 : (w5.alloc (Obj.cells #[.bool false, .slice none 0 0] 24)).cell? ⟨w5.heap.size, 1, none⟩ = some (.slice none 0 0) := cell_kept (Kept.refl _) (World.cell?_alloc_at _ _ _ _ (by simp))
        have hg81 : (w5.alloc (Obj.cells #[.bool false, .slice none 0 0] 24)).frozen? ⟨w5.heap.size, 1, none⟩ = false := ((Kept.refl _).frozens _ _ (by simp)).trans (World.frozen?_alloc_at _ _ _ _ (by simp))
        have hz90 : (w5.alloc (Obj.cells #[.bool false, .slice none 0 0] 24)).cell? ⟨w3.heap.size, 0, none⟩ = some (.bool false) := cell_kept ((((Kept.refl _).trans hk4).trans hk5).alloc _) (World.cell?_alloc_at _ _ _ _ (by simp))
        have hg90 : (w5.alloc (Obj.cells #[.bool false, .slice none 0 0] 24)).frozen? ⟨w3.heap.size, 0, none⟩ = false := (((((Kept.refl _).trans hk4).trans hk5).alloc _).frozens _ _ (by simp)).trans (World.frozen?_alloc_at _ _ _ _ (by simp))
        have hz91 : (w5.alloc (Obj.cells #[.bool false, .slice none 0 0] 24)).cell? ⟨w3.heap.size, 1, none⟩ = some (.slice none 0 0) := cell_kept ((((Kept.refl _).trans hk4).trans hk5).alloc _) (World.cell?_alloc_at _ _ _ _ (by simp))
        have hg91 : (w5.alloc (Obj.cells #[.bool false, .slice none 0 0] 24)).frozen? ⟨w3.heap.size, 1, none⟩ = false := (((((Kept.refl _).trans hk4).trans hk5).alloc _).frozens _ _ (by simp)).trans (World.frozen?_alloc_at _ _ _ _ (by simp))
        obtain ⟨p8, hp⟩ : ∃ p, p = w5.heap.size := ⟨_, rfl⟩
        obtain ⟨p9, hq⟩ : ∃ p, p = w3.heap.size := ⟨_, rfl⟩
        have hp8 : w3.heap.size ≤ p8 := by omega
        have hp9 : w3.heap.size ≤ p9 := by omega
        have hne : ¬ (p8 = p9) := by omega
        have hne' : ¬ (p9 = p8) := by omega
        rw [← hp] at hz80 hz81 hg80 hg81 ⊢
        rw [← hq] at hz90 hz91 hg90 hg91 ⊢
        clear hp hq
        have hKT : Kept w3 (w5.alloc (Obj.cells #[.bool false, .slice none 0 0] 24)) := (((((Kept.refl w3).drew.alloc _).trans hk4).trans hk5).alloc _)
        have ghA0 := cell_kept hKT hA0
        have ghA1 := cell_kept hKT hA1
        have ghB0 := cell_kept hKT hB0
        have ghB1 := cell_kept hKT hB1
        have HN : Hid (Lent w3.heap.size (w5.alloc (Obj.cells #[.bool false, .slice none 0 0] 24)) bx a.length cx a ∧ Lent w3.heap.size (w5.alloc (Obj.cells #[.bool false, .slice none 0 0] 24)) by_ b.length cy b ∧ Kept w3 (w5.alloc (Obj.cells #[.bool false, .slice none 0 0] 24))) := ⟨hX.kept (((Kept.refl _).trans hk5).alloc _), hY.kept ((Kept.refl _).alloc _), hKT⟩
        clear hX hY hk4 hk5 hHeld hKT
        generalize (w5.alloc (Obj.cells #[.bool false, .slice none 0 0] 24)) = Wx at ghA0 ghA1 ghB0 ghB1 hz80 hz81 hz90 hz91 hg80 hg81 hg90 hg91 HN ⊢
        refine wpAnyH_ready (rs := [6]) (by kernel_rfl) (by simp) ?_
        refine AllReadyH.cons rfl (fun K hK => ?_) AllReadyH.nil
        go_simp
        refine hK.out _ _ ⟨set2_far (p := p8) ghA0 (by omega), set2_far (p := p8) ghA1 (by omega), set2_far (p := p8) ghB0 (by omega), set2_far (p := p8) ghB1 (by omega)⟩ (fun hHeld => ?_)
        clear hK K
        refine wpAnyH_ready (rs := [7]) (by kernel_rfl) (by simp) ?_
        refine AllReadyH.cons rfl (fun K hK => ?_) AllReadyH.nil
        go_simp
        refine hK.out _ _ ⟨set2_far (p := p9) (set2_far (p := p8) ghA0 (by omega)) (by omega), set2_far (p := p9) (set2_far (p := p8) ghA1 (by omega)) (by omega), set2_far (p := p9) (set2_far (p := p8) ghB0 (by omega)) (by omega), set2_far (p := p9) (set2_far (p := p8) ghB1 (by omega)) (by omega)⟩ (fun hHeld => ?_)
        clear hK K
        refine wpAnyH_done (by kernel_rfl) ?_ _
        go_wp2_with fail
        go_meet
        case rel =>
          have e8 := set2_at (x := .bool ma) (y := .slice (some ⟨bx, 0, none⟩) a.length cx) hz80 hz81
          have z90 := set2_far (x := .bool ma) (y := .slice (some ⟨bx, 0, none⟩) a.length cx) hz90 hne
          have z91 := set2_far (x := .bool ma) (y := .slice (some ⟨bx, 0, none⟩) a.length cx) hz91 hne
          have e9 := set2_at (x := .bool mb) (y := .slice (some ⟨by_, 0, none⟩) b.length cy) z90 z91
          exact ⟨p8, p9, bx, by_, cx, cy, rfl, rfl, set2_far e8.1 hne', set2_far e8.2 hne', e9.1, e9.2, (((HN.out.2.2.setCell hp8 _).setCell hp8 _).setCell hp9 _).setCell hp9 _, (HN.out.1.box hz80 _ _).box z90 _ _, (HN.out.2.1.box hz80 _ _).box z90 _ _⟩
      refine AllReadyH.cons rfl (fun K hK => ?_) AllReadyH.nil
      go_simp
      refine hK.out _ _ ⟨cell_kept ((((Kept.refl w3).drew.alloc _).trans hk4).alloc _) hA0, cell_kept ((((Kept.refl w3).drew.alloc _).trans hk4).alloc _) hA1, cell_kept ((((Kept.refl w3).drew.alloc _).trans hk4).alloc _) hB0, cell_kept ((((Kept.refl w3).drew.alloc _).trans hk4).alloc _) hB1⟩ (fun hHeld => ?_)
      clear hK K
      refine wpAnyH_ready (rs := [3]) (by kernel_rfl) (by simp) ?_
      refine AllReadyH.cons rfl (fun K hK => ?_) AllReadyH.nil
      go_simp
      refine (lent_any mb ab b.length cb b _ (HB3.out.kept ((((Kept.refl w3).drew.alloc _).trans hk4).alloc _)) hlb).mono ?_
      rintro e w5 ⟨hk5, by_, cy, rfl, hY⟩
      have hs5 : w3.heap.size ≤ w5.heap.size := (((((Kept.refl w3).drew.alloc _).trans hk4).alloc _).trans hk5).size
      have ht5 := hk5.size
      try simp at ht5
      have hY := hY.mono (((((Kept.refl w3).drew.alloc _).trans hk4).alloc _)).size
      refine hK.out _ _ ⟨cell_kept (((((Kept.refl w3).drew.alloc _).trans hk4).alloc _).trans hk5) hA0, cell_kept (((((Kept.refl w3).drew.alloc _).trans hk4).alloc _).trans hk5) hA1, cell_kept (((((Kept.refl w3).drew.alloc _).trans hk4).alloc _).trans hk5) hB0, cell_kept (((((Kept.refl w3).drew.alloc _).trans hk4).alloc _).trans hk5) hB1⟩ (fun hHeld => ?_)
      clear hK K
      have hz80 : w5.cell? ⟨w4.heap.size, 0, none⟩ = some (.bool false) := cell_kept ((Kept.refl _).trans hk5) (World.cell?_alloc_at _ _ _ _ (by simp))
      have hg80 : w5.frozen? ⟨w4.heap.size, 0, none⟩ = false := (((Kept.refl _).trans hk5).frozens _ _ (by simp)).trans (World.frozen?_alloc_at _ _ _ _ (by simp))
      have hz81 : w5.cell? ⟨w4.heap.size, 1, none⟩ = some (.slice none 0 0) := cell_kept ((Kept.refl _).trans hk5) (World.cell?_alloc_at _ _ _ _ (by simp))
      have hg81 : w5.frozen? ⟨w4.heap.size, 1, none⟩ = false := (((Kept.refl _).trans hk5).frozens _ _ (by simp)).trans (World.frozen?_alloc_at _ _ _ _ (by simp))
      have hz90 : w5.cell? ⟨w3.heap.size, 0, none⟩ = some (.bool false) := cell_kept ((((Kept.refl _).trans hk4).alloc _).trans hk5) (World.cell?_alloc_at _ _ _ _ (by simp))
      have hg90 : w5.frozen? ⟨w3.heap.size, 0, none⟩ = false := (((((Kept.refl _).trans hk4).alloc _).trans hk5).frozens _ _ (by simp)).trans (World.frozen?_alloc_at _ _ _ _ (by simp))
      have hz91 : w5.cell? ⟨w3.heap.size, 1, none⟩ = some (.slice none 0 0) := cell_kept ((((Kept.refl _).trans hk4).alloc _).trans hk5) (World.cell?_alloc_at _ _ _ _ (by simp))
      have hg91 : w5.frozen? ⟨w3.heap.size, 1, none⟩ = false := (((((Kept.refl _).trans hk4).alloc _).trans hk5).frozens _ _ (by simp)).trans (World.frozen?_alloc_at _ _ _ _ (by simp))
      obtain ⟨p8, hp⟩ : ∃ p, p = w4.heap.size := ⟨_, rfl⟩
      obtain ⟨p9, hq⟩ : ∃ p, p = w3.heap.size := ⟨_, rfl⟩
      have hp8 : w3.heap.size ≤ p8 := by omega
      have hp9 : w3.heap.size ≤ p9 := by omega
      have hne : ¬ (p8 = p9) := by omega
      have hne' : ¬ (p9 = p8) := by omega
      rw [← hp] at hz80 hz81 hg80 hg81 ⊢
      rw [← hq] at hz90 hz91 hg90 hg91 ⊢
      clear hp hq
      have hKT : Kept w3 w5 := (((((Kept.refl w3).drew.alloc _).trans hk4).alloc _).trans hk5)
      have ghA0 := cell_kept hKT hA0
      have ghA1 := cell_kept hKT hA1
      have ghB0 := cell_kept hKT hB0
      have ghB1 := cell_kept hKT hB1
      have HN : Hid (Lent w3.heap.size w5 bx a.length cx a ∧ Lent w3.heap.size w5 by_ b.length cy b ∧ Kept w3 w5) := ⟨hX.kept (((Kept.refl _).alloc _).trans hk5), hY.kept (Kept.refl _), hKT⟩
      clear hX hY hk4 hk5 hHeld hKT
      generalize w5 = Wx at ghA0 ghA1 ghB0 ghB1 hz80 hz81 hz90 hz91 hg80 hg81 hg90 hg91 HN ⊢
      refine wpAnyH_ready (rs := [6]) (by kernel_rfl) (by simp) ?_
      refine AllReadyH.cons rfl (fun K hK => ?_) AllReadyH.nil
      go_simp
      refine hK.out _ _ ⟨set2_far (p := p8) ghA0 (by omega), set2_far (p := p8) ghA1 (by omega), set2_far (p := p8) ghB0 (by omega), set2_far (p := p8) ghB1 (by omega)⟩ (fun hHeld => ?_)
      clear hK K
      refine wpAnyH_ready (rs := [7]) (by kernel_rfl) (by simp) ?_
      refine AllReadyH.cons rfl (fun K hK => ?_) AllReadyH.nil
      go_simp
      refine hK.out _ _ ⟨set2_far (p := p9) (set2_far (p := p8) ghA0 (by omega)) (by omega), set2_far (p := p9) (set2_far (p := p8) ghA1 (by omega)) (by omega), set2_far (p := p9) (set2_far (p := p8) ghB0 (by omega)) (by omega), set2_far (p := p9) (set2_far (p := p8) ghB1 (by omega)) (by omega)⟩ (fun hHeld => ?_)
      clear hK K
      refine wpAnyH_done (by kernel_rfl) ?_ _
      go_wp2_with fail
      go_meet
      case rel =>
        have e8 := set2_at (x := .bool ma) (y := .slice (some ⟨bx, 0, none⟩) a.length cx) hz80 hz81
        have z90 := set2_far (x := .bool ma) (y := .slice (some ⟨bx, 0, none⟩) a.length cx) hz90 hne
        have z91 := set2_far (x := .bool ma) (y := .slice (some ⟨bx, 0, none⟩) a.length cx) hz91 hne
        have e9 := set2_at (x := .bool mb) (y := .slice (some ⟨by_, 0, none⟩) b.length cy) z90 z91
        exact ⟨p8, p9, bx, by_, cx, cy, rfl, rfl, set2_far e8.1 hne', set2_far e8.2 hne', e9.1, e9.2, (((HN.out.2.2.setCell hp8 _).setCell hp8 _).setCell hp9 _).setCell hp9 _, (HN.out.1.box hz80 _ _).box z90 _ _, (HN.out.2.1.box hz80 _ _).box z90 _ _⟩
    refine AllReadyH.cons rfl (fun K hK => ?_) AllReadyH.nil
    go_simp
    refine hK.out _ _ ⟨cell_kept (((Kept.refl w3).drew.alloc _).alloc _) hA0, cell_kept (((Kept.refl w3).drew.alloc _).alloc _) hA1, cell_kept (((Kept.refl w3).drew.alloc _).alloc _) hB0, cell_kept (((Kept.refl w3).drew.alloc _).alloc _) hB1⟩ (fun hHeld => ?_)
    clear hK K
    refine wpAnyH_ready (rs := [1]) (by kernel_rfl) (by simp) ?_
    refine AllReadyH.cons rfl (fun K hK => ?_) AllReadyH.nil
    go_simp
    refine (lent_any ma aa a.length ca a _ (HA3.out.kept (((Kept.refl w3).drew.alloc _).alloc _)) hla).mono ?_
    rintro e w4 ⟨hk4, bx, cx, rfl, hX⟩
    have hs4 : w3.heap.size ≤ w4.heap.size := ((((Kept.refl w3).drew.alloc _).alloc _).trans hk4).size
    have ht4 := hk4.size
    try simp at ht4
    have hX := hX.mono ((((Kept.refl w3).drew.alloc _).alloc _)).size
    refine hK.out _ _ ⟨cell_kept ((((Kept.refl w3).drew.alloc _).alloc _).trans hk4) hA0, cell_kept ((((Kept.refl w3).drew.alloc _).alloc _).trans hk4) hA1, cell_kept ((((Kept.refl w3).drew.alloc _).alloc _).trans hk4) hB0, cell_kept ((((Kept.refl w3).drew.alloc _).alloc _).trans hk4) hB1⟩ (fun hHeld => ?_)
    clear hK K
    refine wpAnyH_ready (rs := [3]) (by kernel_rfl) (by simp) ?_
    refine AllReadyH.cons rfl (fun K hK => ?_) AllReadyH.nil
    go_simp
    refine (lent_any mb ab b.length cb b _ (HB3.out.kept ((((Kept.refl w3).drew.alloc _).alloc _).trans hk4)) hlb).mono ?_
    rintro e w5 ⟨hk5, by_, cy, rfl, hY⟩
    have hs5 : w3.heap.size ≤ w5.heap.size := (((((Kept.refl w3).drew.alloc _).alloc _).trans hk4).trans hk5).size
    have ht5 := hk5.size
    try simp at ht5
    have hY := hY.mono (((((Kept.refl w3).drew.alloc _).alloc _).trans hk4)).size
    refine hK.out _ _ ⟨cell_kept (((((Kept.refl w3).drew.alloc _).alloc _).trans hk4).trans hk5) hA0, cell_kept (((((Kept.refl w3).drew.alloc _).alloc _).trans hk4).trans hk5) hA1, cell_kept (((((Kept.refl w3).drew.alloc _).alloc _).trans hk4).trans hk5) hB0, cell_kept (((((Kept.refl w3).drew.alloc _).alloc _).trans hk4).trans hk5) hB1⟩ (fun hHeld => ?_)
    clear hK K
    have hz80 : w5.cell? ⟨w3.heap.size + 1, 0, none⟩ = some (.bool false) := cell_kept (((Kept.refl _).trans hk4).trans hk5) (World.cell?_alloc_at _ _ _ _ (by simp))
    have hg80 : w5.frozen? ⟨w3.heap.size + 1, 0, none⟩ = false := ((((Kept.refl _).trans hk4).trans hk5).frozens _ _ (by simp)).trans (World.frozen?_alloc_at _ _ _ _ (by simp))
    have hz81 : w5.cell? ⟨w3.heap.size + 1, 1, none⟩ = some (.slice none 0 0) := cell_kept (((Kept.refl _).trans hk4).trans hk5) (World.cell?_alloc_at _ _ _ _ (by simp))
    have hg81 : w5.frozen? ⟨w3.heap.size + 1, 1, none⟩ = false := ((((Kept.refl _).trans hk4).trans hk5).frozens _ _ (by simp)).trans (World.frozen?_alloc_at _ _ _ _ (by simp))
    have hz90 : w5.cell? ⟨w3.heap.size, 0, none⟩ = some (.bool false) := cell_kept ((((Kept.refl _).alloc _).trans hk4).trans hk5) (World.cell?_alloc_at _ _ _ _ (by simp))
    have hg90 : w5.frozen? ⟨w3.heap.size, 0, none⟩ = false := (((((Kept.refl _).alloc _).trans hk4).trans hk5).frozens _ _ (by simp)).trans (World.frozen?_alloc_at _ _ _ _ (by simp))
    have hz91 : w5.cell? ⟨w3.heap.size, 1, none⟩ = some (.slice none 0 0) := cell_kept ((((Kept.refl _).alloc _).trans hk4).trans hk5) (World.cell?_alloc_at _ _ _ _ (by simp))
    have hg91 : w5.frozen? ⟨w3.heap.size, 1, none⟩ = false := (((((Kept.refl _).alloc _).trans hk4).trans hk5).frozens _ _ (by simp)).trans (World.frozen?_alloc_at _ _ _ _ (by simp))
    obtain ⟨p8, hp⟩ : ∃ p, p = w3.heap.size + 1 := ⟨_, rfl⟩
    obtain ⟨p9, hq⟩ : ∃ p, p = w3.heap.size := ⟨_, rfl⟩
    have hp8 : w3.heap.size ≤ p8 := by omega
    have hp9 : w3.heap.size ≤ p9 := by omega
    have hne : ¬ (p8 = p9) := by omega
    have hne' : ¬ (p9 = p8) := by omega
    rw [← hp] at hz80 hz81 hg80 hg81 ⊢
    rw [← hq] at hz90 hz91 hg90 hg91 ⊢
    clear hp hq
    have hKT : Kept w3 w5 := (((((Kept.refl w3).drew.alloc _).alloc _).trans hk4).trans hk5)
    have ghA0 := cell_kept hKT hA0
    have ghA1 := cell_kept hKT hA1
    have ghB0 := cell_kept hKT hB0
    have ghB1 := cell_kept hKT hB1
    have HN : Hid (Lent w3.heap.size w5 bx a.length cx a ∧ Lent w3.heap.size w5 by_ b.length cy b ∧ Kept w3 w5) := ⟨hX.kept ((Kept.refl _).trans hk5), hY.kept (Kept.refl _), hKT⟩
    clear hX hY hk4 hk5 hHeld hKT
    generalize w5 = Wx at ghA0 ghA1 ghB0 ghB1 hz80 hz81 hz90 hz91 hg80 hg81 hg90 hg91 HN ⊢
    refine wpAnyH_ready (rs := [6]) (by kernel_rfl) (by simp) ?_
    refine AllReadyH.cons rfl (fun K hK => ?_) AllReadyH.nil
    go_simp
    refine hK.out _ _ ⟨set2_far (p := p8) ghA0 (by omega), set2_far (p := p8) ghA1 (by omega), set2_far (p := p8) ghB0 (by omega), set2_far (p := p8) ghB1 (by omega)⟩ (fun hHeld => ?_)
    clear hK K
    refine wpAnyH_ready (rs := [7]) (by kernel_rfl) (by simp) ?_
    refine AllReadyH.cons rfl (fun K hK => ?_) AllReadyH.nil
    go_simp
    refine hK.out _ _ ⟨set2_far (p := p9) (set2_far (p := p8) ghA0 (by omega)) (by omega), set2_far (p := p9) (set2_far (p := p8) ghA1 (by omega)) (by omega), set2_far (p := p9) (set2_far (p := p8) ghB0 (by omega)) (by omega), set2_far (p := p9) (set2_far (p := p8) ghB1 (by omega)) (by omega)⟩ (fun hHeld => ?_)
    clear hK K
    refine wpAnyH_done (by kernel_rfl) ?_ _
    go_wp2_with fail
    go_meet
    case rel =>
      have e8 := set2_at (x := .bool ma) (y := .slice (some ⟨bx, 0, none⟩) a.length cx) hz80 hz81
      have z90 := set2_far (x := .bool ma) (y := .slice (some ⟨bx, 0, none⟩) a.length cx) hz90 hne
      have z91 := set2_far (x := .bool ma) (y := .slice (some ⟨bx, 0, none⟩) a.length cx) hz91 hne
      have e9 := set2_at (x := .bool mb) (y := .slice (some ⟨by_, 0, none⟩) b.length cy) z90 z91
      exact ⟨p8, p9, bx, by_, cx, cy, rfl, rfl, set2_far e8.1 hne', set2_far e8.2 hne', e9.1, e9.2, (((HN.out.2.2.setCell hp8 _).setCell hp8 _).setCell hp9 _).setCell hp9 _, (HN.out.1.box hz80 _ _).box z90 _ _, (HN.out.2.1.box hz80 _ _).box z90 _ _⟩
  case rest =>
    obtain ⟨p5, p6, bx, by_, cx, cy, rfl, rfl, hX0, hX1, hY0, hY1, hcc⟩ := hcut
    have HX : Hid (Lent w3.heap.size wc bx a.length cx a) := hcc.out.2.1
    have HY : Hid (Lent w3.heap.size wc by_ b.length cy b) := hcc.out.2.2
    have HA : Hid (Sl wc (.slice aa a.length ca) a) := HA3.out.kept hcc.out.1
    have HB : Hid (Sl wc (.slice ab b.length cb) b) := HB3.out.kept hcc.out.1
    have HK : Hid (Kept w wc) := HK3.out.trans hcc.out.1
    have hz3c : w3.heap.size ≤ wc.heap.size := hcc.out.1.size
    have hbx : bx < wc.heap.size := hcc.out.2.1.at.2.1
    have hby : by_ < wc.heap.size := hcc.out.2.2.at.2.1
    replace hA0 := cell_kept hcc.out.1 hA0
    replace hA1 := cell_kept hcc.out.1 hA1
    replace hB0 := cell_kept hcc.out.1 hB0
    replace hB1 := cell_kept hcc.out.1 hB1
    have hp5 : p5 < wc.heap.size := World.block_lt_of_cell? _ _ hX0
    have hp6 : p6 < wc.heap.size := World.block_lt_of_cell? _ _ hY0
    clear hcc HA3 HB3 HK3
    have HZc : Hid (wc.heap.size ≤ wc.heap.size) := Nat.le_refl _
    go_wp2_with fail
    refine (H1 _ _ _ _ _ _ _ (HX.out.sl.kept (Kept.refl wc)) (HY.out.sl.kept (Kept.refl wc))).mono ?_
    rintro e w5 ⟨hk, aoS, kS, cS, rfl, hnS⟩
    have hkk : Kept wc w5 := hk
    replace hA0 := cell_kept hkk hA0
    replace hA1 := cell_kept hkk hA1
    replace hB0 := cell_kept hkk hB0
    replace hB1 := cell_kept hkk hB1
    replace hX0 := cell_kept hkk hX0
    replace hX1 := cell_kept hkk hX1
    replace hY0 := cell_kept hkk hY0
    replace hY1 := cell_kept hkk hY1
    replace HX : Hid (Lent w3.heap.size w5 bx a.length cx a) := HX.out.kept hkk
    replace HY : Hid (Lent w3.heap.size w5 by_ b.length cy b) := HY.out.kept hkk
    replace HA : Hid (Sl w5 (.slice aa a.length ca) a) := HA.out.kept hkk
    replace HB : Hid (Sl w5 (.slice ab b.length cb) b) := HB.out.kept hkk
    replace HK : Hid (Kept w w5) := HK.out.trans hkk
    replace HZc : Hid (wc.heap.size ≤ w5.heap.size) := Nat.le_trans HZc.out hkk.size
    clear hkk hk
    have HNS : Hid (New wc.heap.size w5 (.slice aoS kS cS) ls) := hnS.mono (Nat.le_refl _)
    clear hnS
    have HSlt : Hid (∀ b, aoS = some ⟨b, 0, none⟩ → b < w5.heap.size) := HNS.out.blk
    have HZ5 : Hid (w5.heap.size ≤ w5.heap.size) := Nat.le_refl _
    have ghX0 := fun x => cell_kept ((Kept.refl w5).alloc x) hX0
    have ghX1 := fun x => cell_kept ((Kept.refl w5).alloc x) hX1
    have ghY0 := fun x => cell_kept ((Kept.refl w5).alloc x) hY0
    have ghY1 := fun x => cell_kept ((Kept.refl w5).alloc x) hY1
    go_wp2_with fail
    refine (H2 _ _ _ _ _ _ _ (HX.out.sl.kept ((Kept.refl w5).alloc _)) (HY.out.sl.kept ((Kept.refl w5).alloc _))).mono ?_
    rintro e w6 ⟨hk, aoD, kD, cD, rfl, hnD⟩
    obtain ⟨hS0, hS1⟩ := box_kept hk
    have hkk : Kept w5 w6 := ((Kept.refl w5).alloc _).trans hk
    replace hA0 := cell_kept hkk hA0
    replace hA1 := cell_kept hkk hA1
    replace hB0 := cell_kept hkk hB0
    replace hB1 := cell_kept hkk hB1
    replace hX0 := cell_kept hkk hX0
    replace hX1 := cell_kept hkk hX1
    replace hY0 := cell_kept hkk hY0
    replace hY1 := cell_kept hkk hY1
    replace HX : Hid (Lent w3.heap.size w6 bx a.length cx a) := HX.out.kept hkk
    replace HY : Hid (Lent w3.heap.size w6 by_ b.length cy b) := HY.out.kept hkk
    replace HA : Hid (Sl w6 (.slice aa a.length ca) a) := HA.out.kept hkk
    replace HB : Hid (Sl w6 (.slice ab b.length cb) b) := HB.out.kept hkk
    replace HK : Hid (Kept w w6) := HK.out.trans hkk
    replace HZc : Hid (wc.heap.size ≤ w6.heap.size) := Nat.le_trans HZc.out hkk.size
    replace HNS : Hid (New wc.heap.size w6 (.slice aoS kS cS) ls) := HNS.out.kept hkk
    replace HZ5 : Hid (w5.heap.size ≤ w6.heap.size) := Nat.le_trans HZ5.out hkk.size
    clear hkk hk ghX0 ghX1 ghY0 ghY1
    have HND : Hid (New 0 w6 (.slice aoD kD cD) ld) := hnD.mono (Nat.zero_le _)
    clear hnD
    have ghX0 := fun x => cell_kept ((Kept.refl w6).alloc x) hX0
    have ghX1 := fun x => cell_kept ((Kept.refl w6).alloc x) hX1
    have ghY0 := fun x => cell_kept ((Kept.refl w6).alloc x) hY0
    have ghY1 := fun x => cell_kept ((Kept.refl w6).alloc x) hY1
    go_wp2_with fail
    refine (H3 _ _ _ _ _ _ _ (HX.out.sl.kept ((Kept.refl w6).alloc _)) (HY.out.sl.kept ((Kept.refl w6).alloc _))).mono ?_
    rintro e w7 ⟨hk, aoP, kP, cP, rfl, hnP⟩
    obtain ⟨hD0, hD1⟩ := box_kept hk
    have hkk : Kept w6 w7 := ((Kept.refl w6).alloc _).trans hk
    replace hA0 := cell_kept hkk hA0
    replace hA1 := cell_kept hkk hA1
    replace hB0 := cell_kept hkk hB0
    replace hB1 := cell_kept hkk hB1
    replace hX0 := cell_kept hkk hX0
    replace hX1 := cell_kept hkk hX1
    replace hY0 := cell_kept hkk hY0
    replace hY1 := cell_kept hkk hY1
    replace hS0 := cell_kept hkk hS0
    replace hS1 := cell_kept hkk hS1
    replace HX : Hid (Lent w3.heap.size w7 bx a.length cx a) := HX.out.kept hkk
    replace HY : Hid (Lent w3.heap.size w7 by_ b.length cy b) := HY.out.kept hkk
    replace HA : Hid (Sl w7 (.slice aa a.length ca) a) := HA.out.kept hkk
    replace HB : Hid (Sl w7 (.slice ab b.length cb) b) := HB.out.kept hkk
    replace HK : Hid (Kept w w7) := HK.out.trans hkk
    replace HZc : Hid (wc.heap.size ≤ w7.heap.size) := Nat.le_trans HZc.out hkk.size
    replace HNS : Hid (New wc.heap.size w7 (.slice aoS kS cS) ls) := HNS.out.kept hkk
    replace HZ5 : Hid (w5.heap.size ≤ w7.heap.size) := Nat.le_trans HZ5.out hkk.size
    replace HND : Hid (New 0 w7 (.slice aoD kD cD) ld) := HND.out.kept hkk
    clear hkk hk ghX0 ghX1 ghY0 ghY1
    have HNP : Hid (New 0 w7 (.slice aoP kP cP) lp) := hnP.mono (Nat.zero_le _)
    clear hnP
    have ghX0 := fun x => cell_kept ((Kept.refl w7).alloc x) hX0
    have ghX1 := fun x => cell_kept ((Kept.refl w7).alloc x) hX1
    have ghY0 := fun x => cell_kept ((Kept.refl w7).alloc x) hY0
    have ghY1 := fun x => cell_kept ((Kept.refl w7).alloc x) hY1
    go_wp2_with fail
    refine (H4 _ _ _ _ _ _ _ (HX.out.sl.kept ((Kept.refl w7).alloc _)) (HY.out.sl.kept ((Kept.refl w7).alloc _))).mono ?_
    rintro e w8 ⟨rfl, hk⟩
    obtain ⟨hP0, hP1⟩ := box_kept hk
    have hkk : Kept w7 w8 := ((Kept.refl w7).alloc _).trans hk
    replace hA0 := cell_kept hkk hA0
    replace hA1 := cell_kept hkk hA1
    replace hB0 := cell_kept hkk hB0
    replace hB1 := cell_kept hkk hB1
    replace hX0 := cell_kept hkk hX0
    replace hX1 := cell_kept hkk hX1
    replace hY0 := cell_kept hkk hY0
    replace hY1 := cell_kept hkk hY1
    replace hS0 := cell_kept hkk hS0
    replace hS1 := cell_kept hkk hS1
    replace hD0 := cell_kept hkk hD0
    replace hD1 := cell_kept hkk hD1
    replace HX : Hid (Lent w3.heap.size w8 bx a.length cx a) := HX.out.kept hkk
    replace HY : Hid (Lent w3.heap.size w8 by_ b.length cy b) := HY.out.kept hkk
    replace HA : Hid (Sl w8 (.slice aa a.length ca) a) := HA.out.kept hkk
    replace HB : Hid (Sl w8 (.slice ab b.length cb) b) := HB.out.kept hkk
    replace HK : Hid (Kept w w8) := HK.out.trans hkk
    replace HZc : Hid (wc.heap.size ≤ w8.heap.size) := Nat.le_trans HZc.out hkk.size
    replace HNS : Hid (New wc.heap.size w8 (.slice aoS kS cS) ls) := HNS.out.kept hkk
    replace HZ5 : Hid (w5.heap.size ≤ w8.heap.size) := Nat.le_trans HZ5.out hkk.size
    replace HND : Hid (New 0 w8 (.slice aoD kD cD) ld) := HND.out.kept hkk
    replace HNP : Hid (New 0 w8 (.slice aoP kP cP) lp) := HNP.out.kept hkk
    clear hkk hk ghX0 ghX1 ghY0 ghY1
    have HZ8 : Hid (w5.heap.size ≤ w8.heap.size) := HZ5.out
    have HZ9 : Hid (w8.heap.size ≤ w8.heap.size) := Nat.le_refl _
    go_wp2_with fail
    refine (T1 _ _ _ _ _ _ _ (HA.out.kept (Kept.refl w8)) (HB.out.kept (Kept.refl w8))).mono ?_
    rintro e w9 ⟨hk, aos2, ks2, cs2, rfl, hns2⟩
    have hkk : Kept w8 w9 := hk
    replace hA0 := cell_kept hkk hA0
    replace hA1 := cell_kept hkk hA1
    replace hB0 := cell_kept hkk hB0
    replace hB1 := cell_kept hkk hB1
    replace hX0 := cell_kept hkk hX0
    replace hX1 := cell_kept hkk hX1
    replace hY0 := cell_kept hkk hY0
    replace hY1 := cell_kept hkk hY1
    replace hS0 := cell_kept hkk hS0
    replace hS1 := cell_kept hkk hS1
    replace hD0 := cell_kept hkk hD0
    replace hD1 := cell_kept hkk hD1
    replace hP0 := cell_kept hkk hP0
    replace hP1 := cell_kept hkk hP1
    replace HX : Hid (Lent w3.heap.size w9 bx a.length cx a) := HX.out.kept hkk
    replace HY : Hid (Lent w3.heap.size w9 by_ b.length cy b) := HY.out.kept hkk
    replace HA : Hid (Sl w9 (.slice aa a.length ca) a) := HA.out.kept hkk
    replace HB : Hid (Sl w9 (.slice ab b.length cb) b) := HB.out.kept hkk
    replace HK : Hid (Kept w w9) := HK.out.trans hkk
    replace HZc : Hid (wc.heap.size ≤ w9.heap.size) := Nat.le_trans HZc.out hkk.size
    replace HNS : Hid (New wc.heap.size w9 (.slice aoS kS cS) ls) := HNS.out.kept hkk
    replace HZ5 : Hid (w5.heap.size ≤ w9.heap.size) := Nat.le_trans HZ5.out hkk.size
    replace HND : Hid (New 0 w9 (.slice aoD kD cD) ld) := HND.out.kept hkk
    replace HNP : Hid (New 0 w9 (.slice aoP kP cP) lp) := HNP.out.kept hkk
    replace HZ9 : Hid (w8.heap.size ≤ w9.heap.size) := Nat.le_trans HZ9.out hkk.size
    clear hkk hk
    have HNs2 : Hid (New w8.heap.size w9 (.slice aos2 ks2 cs2) ls) := hns2.mono (Nat.le_refl _)
    clear hns2
    have HZ89 : Hid (w8.heap.size ≤ w9.heap.size) := HZ9.out
    have ghA0 := fun x => cell_kept ((Kept.refl w9).alloc x) hA0
    have ghA1 := fun x => cell_kept ((Kept.refl w9).alloc x) hA1
    have ghB0 := fun x => cell_kept ((Kept.refl w9).alloc x) hB0
    have ghB1 := fun x => cell_kept ((Kept.refl w9).alloc x) hB1
    go_wp2_with fail
    refine (T2 _ _ _ _ _ _ _ (HA.out.kept ((Kept.refl w9).alloc _)) (HB.out.kept ((Kept.refl w9).alloc _))).mono ?_
    rintro e w10 ⟨hk, aod2, kd2, cd2, rfl, hnd2⟩
    obtain ⟨hs0, hs1⟩ := box_kept hk
    have hkk : Kept w9 w10 := ((Kept.refl w9).alloc _).trans hk
    replace hA0 := cell_kept hkk hA0
    replace hA1 := cell_kept hkk hA1
    replace hB0 := cell_kept hkk hB0
    replace hB1 := cell_kept hkk hB1
    replace hX0 := cell_kept hkk hX0
    replace hX1 := cell_kept hkk hX1
    replace hY0 := cell_kept hkk hY0
    replace hY1 := cell_kept hkk hY1
    replace hS0 := cell_kept hkk hS0
    replace hS1 := cell_kept hkk hS1
    replace hD0 := cell_kept hkk hD0
    replace hD1 := cell_kept hkk hD1
    replace hP0 := cell_kept hkk hP0
    replace hP1 := cell_kept hkk hP1
    replace HX : Hid (Lent w3.heap.size w10 bx a.length cx a) := HX.out.kept hkk
    replace HY : Hid (Lent w3.heap.size w10 by_ b.length cy b) := HY.out.kept hkk
    replace HA : Hid (Sl w10 (.slice aa a.length ca) a) := HA.out.kept hkk
    replace HB : Hid (Sl w10 (.slice ab b.length cb) b) := HB.out.kept hkk
    replace HK : Hid (Kept w w10) := HK.out.trans hkk
    replace HZc : Hid (wc.heap.size ≤ w10.heap.size) := Nat.le_trans HZc.out hkk.size
    replace HNS : Hid (New wc.heap.size w10 (.slice aoS kS cS) ls) := HNS.out.kept hkk
    replace HZ5 : Hid (w5.heap.size ≤ w10.heap.size) := Nat.le_trans HZ5.out hkk.size
    replace HND : Hid (New 0 w10 (.slice aoD kD cD) ld) := HND.out.kept hkk
    replace HNP : Hid (New 0 w10 (.slice aoP kP cP) lp) := HNP.out.kept hkk
    replace HZ9 : Hid (w8.heap.size ≤ w10.heap.size) := Nat.le_trans HZ9.out hkk.size
    replace HNs2 : Hid (New w8.heap.size w10 (.slice aos2 ks2 cs2) ls) := HNs2.out.kept hkk
    clear hkk hk ghA0 ghA1 ghB0 ghB1
    have HNd2 : Hid (New 0 w10 (.slice aod2 kd2 cd2) ld) := hnd2.mono (Nat.zero_le _)
    clear hnd2
    have ghA0 := fun x => cell_kept ((Kept.refl w10).alloc x) hA0
    have ghA1 := fun x => cell_kept ((Kept.refl w10).alloc x) hA1
    have ghB0 := fun x => cell_kept ((Kept.refl w10).alloc x) hB0
    have ghB1 := fun x => cell_kept ((Kept.refl w10).alloc x) hB1
    go_wp2_with fail
    refine (T3 _ _ _ _ _ _ _ (HA.out.kept ((Kept.refl w10).alloc _)) (HB.out.kept ((Kept.refl w10).alloc _))).mono ?_
    rintro e w11 ⟨hk, aop2, kp2, cp2, rfl, hnp2⟩
    obtain ⟨hd0, hd1⟩ := box_kept hk
    have hkk : Kept w10 w11 := ((Kept.refl w10).alloc _).trans hk
    replace hA0 := cell_kept hkk hA0
    replace hA1 := cell_kept hkk hA1
    replace hB0 := cell_kept hkk hB0
    replace hB1 := cell_kept hkk hB1
    replace hX0 := cell_kept hkk hX0
    replace hX1 := cell_kept hkk hX1
    replace hY0 := cell_kept hkk hY0
    replace hY1 := cell_kept hkk hY1
    replace hS0 := cell_kept hkk hS0
    replace hS1 := cell_kept hkk hS1
    replace hD0 := cell_kept hkk hD0
    replace hD1 := cell_kept hkk hD1
    replace hP0 := cell_kept hkk hP0
    replace hP1 := cell_kept hkk hP1
    replace hs0 := cell_kept hkk hs0
    replace hs1 := cell_kept hkk hs1
    replace HX : Hid (Lent w3.heap.size w11 bx a.length cx a) := HX.out.kept hkk
    replace HY : Hid (Lent w3.heap.size w11 by_ b.length cy b) := HY.out.kept hkk
    replace HA : Hid (Sl w11 (.slice aa a.length ca) a) := HA.out.kept hkk
    replace HB : Hid (Sl w11 (.slice ab b.length cb) b) := HB.out.kept hkk
    replace HK : Hid (Kept w w11) := HK.out.trans hkk
    replace HZc : Hid (wc.heap.size ≤ w11.heap.size) := Nat.le_trans HZc.out hkk.size
    replace HNS : Hid (New wc.heap.size w11 (.slice aoS kS cS) ls) := HNS.out.kept hkk
    replace HZ5 : Hid (w5.heap.size ≤ w11.heap.size) := Nat.le_trans HZ5.out hkk.size
    replace HND : Hid (New 0 w11 (.slice aoD kD cD) ld) := HND.out.kept hkk
    replace HNP : Hid (New 0 w11 (.slice aoP kP cP) lp) := HNP.out.kept hkk
    replace HZ9 : Hid (w8.heap.size ≤ w11.heap.size) := Nat.le_trans HZ9.out hkk.size
    replace HNs2 : Hid (New w8.heap.size w11 (.slice aos2 ks2 cs2) ls) := HNs2.out.kept hkk
    replace HNd2 : Hid (New 0 w11 (.slice aod2 kd2 cd2) ld) := HNd2.out.kept hkk
    clear hkk hk ghA0 ghA1 ghB0 ghB1
    have HNp2 : Hid (New 0 w11 (.slice aop2 kp2 cp2) lp) := hnp2.mono (Nat.zero_le _)
    clear hnp2
    have ghA0 := fun x => cell_kept ((Kept.refl w11).alloc x) hA0
    have ghA1 := fun x => cell_kept ((Kept.refl w11).alloc x) hA1
    have ghB0 := fun x => cell_kept ((Kept.refl w11).alloc x) hB0
    have ghB1 := fun x => cell_kept ((Kept.refl w11).alloc x) hB1
    go_wp2_with fail
    refine (T4 _ _ _ _ _ _ _ (HA.out.kept ((Kept.refl w11).alloc _)) (HB.out.kept ((Kept.refl w11).alloc _))).mono ?_
    rintro e w12 ⟨rfl, hk⟩
    obtain ⟨hp0, hp1⟩ := box_kept hk
    have hkk : Kept w11 w12 := ((Kept.refl w11).alloc _).trans hk
    replace hA0 := cell_kept hkk hA0
    replace hA1 := cell_kept hkk hA1
    replace hB0 := cell_kept hkk hB0
    replace hB1 := cell_kept hkk hB1
    replace hX0 := cell_kept hkk hX0
    replace hX1 := cell_kept hkk hX1
    replace hY0 := cell_kept hkk hY0
    replace hY1 := cell_kept hkk hY1
    replace hS0 := cell_kept hkk hS0
    replace hS1 := cell_kept hkk hS1
    replace hD0 := cell_kept hkk hD0
    replace hD1 := cell_kept hkk hD1
    replace hP0 := cell_kept hkk hP0
    replace hP1 := cell_kept hkk hP1
    replace hs0 := cell_kept hkk hs0
    replace hs1 := cell_kept hkk hs1
    replace hd0 := cell_kept hkk hd0
    replace hd1 := cell_kept hkk hd1
    replace HX : Hid (Lent w3.heap.size w12 bx a.length cx a) := HX.out.kept hkk
    replace HY : Hid (Lent w3.heap.size w12 by_ b.length cy b) := HY.out.kept hkk
    replace HA : Hid (Sl w12 (.slice aa a.length ca) a) := HA.out.kept hkk
    replace HB : Hid (Sl w12 (.slice ab b.length cb) b) := HB.out.kept hkk
    replace HK : Hid (Kept w w12) := HK.out.trans hkk
    replace HZc : Hid (wc.heap.size ≤ w12.heap.size) := Nat.le_trans HZc.out hkk.size
    replace HNS : Hid (New wc.heap.size w12 (.slice aoS kS cS) ls) := HNS.out.kept hkk
    replace HZ5 : Hid (w5.heap.size ≤ w12.heap.size) := Nat.le_trans HZ5.out hkk.size
    replace HND : Hid (New 0 w12 (.slice aoD kD cD) ld) := HND.out.kept hkk
    replace HNP : Hid (New 0 w12 (.slice aoP kP cP) lp) := HNP.out.kept hkk
    replace HZ9 : Hid (w8.heap.size ≤ w12.heap.size) := Nat.le_trans HZ9.out hkk.size
    replace HNs2 : Hid (New w8.heap.size w12 (.slice aos2 ks2 cs2) ls) := HNs2.out.kept hkk
    replace HNd2 : Hid (New 0 w12 (.slice aod2 kd2 cd2) ld) := HNd2.out.kept hkk
    replace HNp2 : Hid (New 0 w12 (.slice aop2 kp2 cp2) lp) := HNp2.out.kept hkk
    clear hkk hk ghA0 ghA1 ghB0 ghB1
    go_wp2_with fail
    refine (lsame_any true ss ss _ _ ls ls _ HNS.out.sl HNs2.out.sl (by omega) (by omega) (by simp)).mono ?_
    rintro e w13 ⟨rfl, hk⟩
    have hkk : Kept w12 w13 := hk
    replace hA0 := cell_kept hkk hA0
    replace hA1 := cell_kept hkk hA1
    replace hB0 := cell_kept hkk hB0
    replace hB1 := cell_kept hkk hB1
    replace hX0 := cell_kept hkk hX0
    replace hX1 := cell_kept hkk hX1
    replace hY0 := cell_kept hkk hY0
    replace hY1 := cell_kept hkk hY1
    replace hS0 := cell_kept hkk hS0
    replace hS1 := cell_kept hkk hS1
    replace hD0 := cell_kept hkk hD0
    replace hD1 := cell_kept hkk hD1
    replace hP0 := cell_kept hkk hP0
    replace hP1 := cell_kept hkk hP1
    replace hs0 := cell_kept hkk hs0
    replace hs1 := cell_kept hkk hs1
    replace hd0 := cell_kept hkk hd0
    replace hd1 := cell_kept hkk hd1
    replace hp0 := cell_kept hkk hp0
    replace hp1 := cell_kept hkk hp1
    replace HX : Hid (Lent w3.heap.size w13 bx a.length cx a) := HX.out.kept hkk
    replace HY : Hid (Lent w3.heap.size w13 by_ b.length cy b) := HY.out.kept hkk
    replace HA : Hid (Sl w13 (.slice aa a.length ca) a) := HA.out.kept hkk
    replace HB : Hid (Sl w13 (.slice ab b.length cb) b) := HB.out.kept hkk
    replace HK : Hid (Kept w w13) := HK.out.trans hkk
    replace HZc : Hid (wc.heap.size ≤ w13.heap.size) := Nat.le_trans HZc.out hkk.size
    replace HNS : Hid (New wc.heap.size w13 (.slice aoS kS cS) ls) := HNS.out.kept hkk
    replace HZ5 : Hid (w5.heap.size ≤ w13.heap.size) := Nat.le_trans HZ5.out hkk.size
    replace HND : Hid (New 0 w13 (.slice aoD kD cD) ld) := HND.out.kept hkk
    replace HNP : Hid (New 0 w13 (.slice aoP kP cP) lp) := HNP.out.kept hkk
    replace HZ9 : Hid (w8.heap.size ≤ w13.heap.size) := Nat.le_trans HZ9.out hkk.size
    replace HNs2 : Hid (New w8.heap.size w13 (.slice aos2 ks2 cs2) ls) := HNs2.out.kept hkk
    replace HNd2 : Hid (New 0 w13 (.slice aod2 kd2 cd2) ld) := HNd2.out.kept hkk
    replace HNp2 : Hid (New 0 w13 (.slice aop2 kp2 cp2) lp) := HNp2.out.kept hkk
    clear hkk hk
    go_wp2_with fail
    refine (lsame_any true sd sd _ _ ld ld _ HND.out.sl HNd2.out.sl (by omega) (by omega) (by simp)).mono ?_
    rintro e w14 ⟨rfl, hk⟩
    have hkk : Kept w13 w14 := hk
    replace hA0 := cell_kept hkk hA0
    replace hA1 := cell_kept hkk hA1
    replace hB0 := cell_kept hkk hB0
    replace hB1 := cell_kept hkk hB1
    replace hX0 := cell_kept hkk hX0
    replace hX1 := cell_kept hkk hX1
    replace hY0 := cell_kept hkk hY0
    replace hY1 := cell_kept hkk hY1
    replace hS0 := cell_kept hkk hS0
    replace hS1 := cell_kept hkk hS1
    replace hD0 := cell_kept hkk hD0
    replace hD1 := cell_kept hkk hD1
    replace hP0 := cell_kept hkk hP0
    replace hP1 := cell_kept hkk hP1
    replace hs0 := cell_kept hkk hs0
    replace hs1 := cell_kept hkk hs1
    replace hd0 := cell_kept hkk hd0
    replace hd1 := cell_kept hkk hd1
    replace hp0 := cell_kept hkk hp0
    replace hp1 := cell_kept hkk hp1
    replace HX : Hid (Lent w3.heap.size w14 bx a.length cx a) := HX.out.kept hkk
    replace HY : Hid (Lent w3.heap.size w14 by_ b.length cy b) := HY.out.kept hkk
    replace HA : Hid (Sl w14 (.slice aa a.length ca) a) := HA.out.kept hkk
    replace HB : Hid (Sl w14 (.slice ab b.length cb) b) := HB.out.kept hkk
    replace HK : Hid (Kept w w14) := HK.out.trans hkk
    replace HZc : Hid (wc.heap.size ≤ w14.heap.size) := Nat.le_trans HZc.out hkk.size
    replace HNS : Hid (New wc.heap.size w14 (.slice aoS kS cS) ls) := HNS.out.kept hkk
    replace HZ5 : Hid (w5.heap.size ≤ w14.heap.size) := Nat.le_trans HZ5.out hkk.size
    replace HND : Hid (New 0 w14 (.slice aoD kD cD) ld) := HND.out.kept hkk
    replace HNP : Hid (New 0 w14 (.slice aoP kP cP) lp) := HNP.out.kept hkk
    replace HZ9 : Hid (w8.heap.size ≤ w14.heap.size) := Nat.le_trans HZ9.out hkk.size
    replace HNs2 : Hid (New w8.heap.size w14 (.slice aos2 ks2 cs2) ls) := HNs2.out.kept hkk
    replace HNd2 : Hid (New 0 w14 (.slice aod2 kd2 cd2) ld) := HNd2.out.kept hkk
    replace HNp2 : Hid (New 0 w14 (.slice aop2 kp2 cp2) lp) := HNp2.out.kept hkk
    clear hkk hk
    go_wp2_with fail
    refine (lsame_any true sp sp _ _ lp lp _ HNP.out.sl HNp2.out.sl (by omega) (by omega) (by simp)).mono ?_
    rintro e w15 ⟨rfl, hk⟩
    have hkk : Kept w14 w15 := hk
    replace hA0 := cell_kept hkk hA0
    replace hA1 := cell_kept hkk hA1
    replace hB0 := cell_kept hkk hB0
    replace hB1 := cell_kept hkk hB1
    replace hX0 := cell_kept hkk hX0
    replace hX1 := cell_kept hkk hX1
    replace hY0 := cell_kept hkk hY0
    replace hY1 := cell_kept hkk hY1
    replace hS0 := cell_kept hkk hS0
    replace hS1 := cell_kept hkk hS1
    replace hD0 := cell_kept hkk hD0
    replace hD1 := cell_kept hkk hD1
    replace hP0 := cell_kept hkk hP0
    replace hP1 := cell_kept hkk hP1
    replace hs0 := cell_kept hkk hs0
    replace hs1 := cell_kept hkk hs1
    replace hd0 := cell_kept hkk hd0
    replace hd1 := cell_kept hkk hd1
    replace hp0 := cell_kept hkk hp0
    replace hp1 := cell_kept hkk hp1
    replace HX : Hid (Lent w3.heap.size w15 bx a.length cx a) := HX.out.kept hkk
    replace HY : Hid (Lent w3.heap.size w15 by_ b.length cy b) := HY.out.kept hkk
    replace HA : Hid (Sl w15 (.slice aa a.length ca) a) := HA.out.kept hkk
    replace HB : Hid (Sl w15 (.slice ab b.length cb) b) := HB.out.kept hkk
    replace HK : Hid (Kept w w15) := HK.out.trans hkk
    replace HZc : Hid (wc.heap.size ≤ w15.heap.size) := Nat.le_trans HZc.out hkk.size
    replace HNS : Hid (New wc.heap.size w15 (.slice aoS kS cS) ls) := HNS.out.kept hkk
    replace HZ5 : Hid (w5.heap.size ≤ w15.heap.size) := Nat.le_trans HZ5.out hkk.size
    replace HND : Hid (New 0 w15 (.slice aoD kD cD) ld) := HND.out.kept hkk
    replace HNP : Hid (New 0 w15 (.slice aoP kP cP) lp) := HNP.out.kept hkk
    replace HZ9 : Hid (w8.heap.size ≤ w15.heap.size) := Nat.le_trans HZ9.out hkk.size
    replace HNs2 : Hid (New w8.heap.size w15 (.slice aos2 ks2 cs2) ls) := HNs2.out.kept hkk
    replace HNd2 : Hid (New 0 w15 (.slice aod2 kd2 cd2) ld) := HNd2.out.kept hkk
    replace HNp2 : Hid (New 0 w15 (.slice aop2 kp2 cp2) lp) := HNp2.out.kept hkk
    clear hkk hk
    go_wp2_with fail
    refine (whole_yes _ ma bx a.length cx aa ca a _ HX.out HA.out hla).mono ?_
    rintro e w16 ⟨rfl, hk⟩
    have hkk : Kept w15 w16 := hk
    replace hA0 := cell_kept hkk hA0
    replace hA1 := cell_kept hkk hA1
    replace hB0 := cell_kept hkk hB0
    replace hB1 := cell_kept hkk hB1
    replace hX0 := cell_kept hkk hX0
    replace hX1 := cell_kept hkk hX1
    replace hY0 := cell_kept hkk hY0
    replace hY1 := cell_kept hkk hY1
    replace hS0 := cell_kept hkk hS0
    replace hS1 := cell_kept hkk hS1
    replace hD0 := cell_kept hkk hD0
    replace hD1 := cell_kept hkk hD1
    replace hP0 := cell_kept hkk hP0
    replace hP1 := cell_kept hkk hP1
    replace hs0 := cell_kept hkk hs0
    replace hs1 := cell_kept hkk hs1
    replace hd0 := cell_kept hkk hd0
    replace hd1 := cell_kept hkk hd1
    replace hp0 := cell_kept hkk hp0
    replace hp1 := cell_kept hkk hp1
    replace HX : Hid (Lent w3.heap.size w16 bx a.length cx a) := HX.out.kept hkk
    replace HY : Hid (Lent w3.heap.size w16 by_ b.length cy b) := HY.out.kept hkk
    replace HA : Hid (Sl w16 (.slice aa a.length ca) a) := HA.out.kept hkk
    replace HB : Hid (Sl w16 (.slice ab b.length cb) b) := HB.out.kept hkk
    replace HK : Hid (Kept w w16) := HK.out.trans hkk
    replace HZc : Hid (wc.heap.size ≤ w16.heap.size) := Nat.le_trans HZc.out hkk.size
    replace HNS : Hid (New wc.heap.size w16 (.slice aoS kS cS) ls) := HNS.out.kept hkk
    replace HZ5 : Hid (w5.heap.size ≤ w16.heap.size) := Nat.le_trans HZ5.out hkk.size
    replace HND : Hid (New 0 w16 (.slice aoD kD cD) ld) := HND.out.kept hkk
    replace HNP : Hid (New 0 w16 (.slice aoP kP cP) lp) := HNP.out.kept hkk
    replace HZ9 : Hid (w8.heap.size ≤ w16.heap.size) := Nat.le_trans HZ9.out hkk.size
    replace HNs2 : Hid (New w8.heap.size w16 (.slice aos2 ks2 cs2) ls) := HNs2.out.kept hkk
    replace HNd2 : Hid (New 0 w16 (.slice aod2 kd2 cd2) ld) := HNd2.out.kept hkk
    replace HNp2 : Hid (New 0 w16 (.slice aop2 kp2 cp2) lp) := HNp2.out.kept hkk
    clear hkk hk
    go_wp2_with fail
    refine (whole_yes _ mb by_ b.length cy ab cb b _ HY.out HB.out hlb).mono ?_
    rintro e w17 ⟨rfl, hk⟩
    have hkk : Kept w16 w17 := hk
    replace hA0 := cell_kept hkk hA0
    replace hA1 := cell_kept hkk hA1
    replace hB0 := cell_kept hkk hB0
    replace hB1 := cell_kept hkk hB1
    replace hX0 := cell_kept hkk hX0
    replace hX1 := cell_kept hkk hX1
    replace hY0 := cell_kept hkk hY0
    replace hY1 := cell_kept hkk hY1
    replace hS0 := cell_kept hkk hS0
    replace hS1 := cell_kept hkk hS1
    replace hD0 := cell_kept hkk hD0
    replace hD1 := cell_kept hkk hD1
    replace hP0 := cell_kept hkk hP0
    replace hP1 := cell_kept hkk hP1
    replace hs0 := cell_kept hkk hs0
    replace hs1 := cell_kept hkk hs1
    replace hd0 := cell_kept hkk hd0
    replace hd1 := cell_kept hkk hd1
    replace hp0 := cell_kept hkk hp0
    replace hp1 := cell_kept hkk hp1
    replace HX : Hid (Lent w3.heap.size w17 bx a.length cx a) := HX.out.kept hkk
    replace HY : Hid (Lent w3.heap.size w17 by_ b.length cy b) := HY.out.kept hkk
    replace HA : Hid (Sl w17 (.slice aa a.length ca) a) := HA.out.kept hkk
    replace HB : Hid (Sl w17 (.slice ab b.length cb) b) := HB.out.kept hkk
    replace HK : Hid (Kept w w17) := HK.out.trans hkk
    replace HZc : Hid (wc.heap.size ≤ w17.heap.size) := Nat.le_trans HZc.out hkk.size
    replace HNS : Hid (New wc.heap.size w17 (.slice aoS kS cS) ls) := HNS.out.kept hkk
    replace HZ5 : Hid (w5.heap.size ≤ w17.heap.size) := Nat.le_trans HZ5.out hkk.size
    replace HND : Hid (New 0 w17 (.slice aoD kD cD) ld) := HND.out.kept hkk
    replace HNP : Hid (New 0 w17 (.slice aoP kP cP) lp) := HNP.out.kept hkk
    replace HZ9 : Hid (w8.heap.size ≤ w17.heap.size) := Nat.le_trans HZ9.out hkk.size
    replace HNs2 : Hid (New w8.heap.size w17 (.slice aos2 ks2 cs2) ls) := HNs2.out.kept hkk
    replace HNd2 : Hid (New 0 w17 (.slice aod2 kd2 cd2) ld) := HNd2.out.kept hkk
    replace HNp2 : Hid (New 0 w17 (.slice aop2 kp2 cp2) lp) := HNp2.out.kept hkk
    clear hkk hk
    have HZ17 : Hid (w5.heap.size ≤ w17.heap.size) := HZ5.out
    go_wp2_with fail
    refine (H1 _ _ _ _ _ _ _ (HX.out.sl.kept (Kept.refl w17)) (HY.out.sl.kept (Kept.refl w17))).mono ?_
    rintro e w18 ⟨hk, aoT, kT, cT, rfl, hnT⟩
    have hkk : Kept w17 w18 := hk
    replace hA0 := cell_kept hkk hA0
    replace hA1 := cell_kept hkk hA1
    replace hB0 := cell_kept hkk hB0
    replace hB1 := cell_kept hkk hB1
    replace hX0 := cell_kept hkk hX0
    replace hX1 := cell_kept hkk hX1
    replace hY0 := cell_kept hkk hY0
    replace hY1 := cell_kept hkk hY1
    replace hS0 := cell_kept hkk hS0
    replace hS1 := cell_kept hkk hS1
    replace hD0 := cell_kept hkk hD0
    replace hD1 := cell_kept hkk hD1
    replace hP0 := cell_kept hkk hP0
    replace hP1 := cell_kept hkk hP1
    replace hs0 := cell_kept hkk hs0
    replace hs1 := cell_kept hkk hs1
    replace hd0 := cell_kept hkk hd0
    replace hd1 := cell_kept hkk hd1
    replace hp0 := cell_kept hkk hp0
    replace hp1 := cell_kept hkk hp1
    replace HX : Hid (Lent w3.heap.size w18 bx a.length cx a) := HX.out.kept hkk
    replace HY : Hid (Lent w3.heap.size w18 by_ b.length cy b) := HY.out.kept hkk
    replace HA : Hid (Sl w18 (.slice aa a.length ca) a) := HA.out.kept hkk
    replace HB : Hid (Sl w18 (.slice ab b.length cb) b) := HB.out.kept hkk
    replace HK : Hid (Kept w w18) := HK.out.trans hkk
    replace HZc : Hid (wc.heap.size ≤ w18.heap.size) := Nat.le_trans HZc.out hkk.size
    replace HNS : Hid (New wc.heap.size w18 (.slice aoS kS cS) ls) := HNS.out.kept hkk
    replace HZ5 : Hid (w5.heap.size ≤ w18.heap.size) := Nat.le_trans HZ5.out hkk.size
    replace HND : Hid (New 0 w18 (.slice aoD kD cD) ld) := HND.out.kept hkk
    replace HNP : Hid (New 0 w18 (.slice aoP kP cP) lp) := HNP.out.kept hkk
    replace HZ9 : Hid (w8.heap.size ≤ w18.heap.size) := Nat.le_trans HZ9.out hkk.size
    replace HNs2 : Hid (New w8.heap.size w18 (.slice aos2 ks2 cs2) ls) := HNs2.out.kept hkk
    replace HNd2 : Hid (New 0 w18 (.slice aod2 kd2 cd2) ld) := HNd2.out.kept hkk
    replace HNp2 : Hid (New 0 w18 (.slice aop2 kp2 cp2) lp) := HNp2.out.kept hkk
    clear hkk hk
    have HNT : Hid (New w17.heap.size w18 (.slice aoT kT cT) ls) := hnT
    clear hnT
    clear hD0 hD1 hP0 hP1 hd0 hd1 hp0 hp1 HND HNP HNd2 HNp2 H1 H2 H3 H4 T1 T2 T3 T4
    have fA0 := cell_kept ((Kept.refl w18).alloc (Obj.cells #[.bool ss, .slice aoT kT cT] 24)) hA0
    have fA1 := cell_kept ((Kept.refl w18).alloc (Obj.cells #[.bool ss, .slice aoT kT cT] 24)) hA1
    have fB0 := cell_kept ((Kept.refl w18).alloc (Obj.cells #[.bool ss, .slice aoT kT cT] 24)) hB0
    have fB1 := cell_kept ((Kept.refl w18).alloc (Obj.cells #[.bool ss, .slice aoT kT cT] 24)) hB1
    have fX0 := cell_kept ((Kept.refl w18).alloc (Obj.cells #[.bool ss, .slice aoT kT cT] 24)) hX0
    have fX1 := cell_kept ((Kept.refl w18).alloc (Obj.cells #[.bool ss, .slice aoT kT cT] 24)) hX1
    have fY0 := cell_kept ((Kept.refl w18).alloc (Obj.cells #[.bool ss, .slice aoT kT cT] 24)) hY0
    have fY1 := cell_kept ((Kept.refl w18).alloc (Obj.cells #[.bool ss, .slice aoT kT cT] 24)) hY1
    have fs0 := cell_kept ((Kept.refl w18).alloc (Obj.cells #[.bool ss, .slice aoT kT cT] 24)) hs0
    have fs1 := cell_kept ((Kept.refl w18).alloc (Obj.cells #[.bool ss, .slice aoT kT cT] 24)) hs1
    have fT0 : (w18.alloc (Obj.cells #[.bool ss, .slice aoT kT cT] 24)).cell? ⟨w18.heap.size, 0, none⟩ = some (.bool ss) := World.cell?_alloc_at _ _ _ _ (by simp)
    have fT1 : (w18.alloc (Obj.cells #[.bool ss, .slice aoT kT cT] 24)).cell? ⟨w18.heap.size, 1, none⟩ = some (.slice aoT kT cT) := World.cell?_alloc_at _ _ _ _ (by simp)
    have HT : Hid (New w17.heap.size (w18.alloc (Obj.cells #[.bool ss, .slice aoT kT cT] 24)) (.slice aoT kT cT) ls) := HNT.out.kept ((Kept.refl w18).alloc _)
    have HS2 : Hid (New w8.heap.size (w18.alloc (Obj.cells #[.bool ss, .slice aoT kT cT] 24)) (.slice aos2 ks2 cs2) ls) := HNs2.out.kept ((Kept.refl w18).alloc _)
    have FX : Hid (Lent w3.heap.size (w18.alloc (Obj.cells #[.bool ss, .slice aoT kT cT] 24)) bx a.length cx a) := HX.out.kept ((Kept.refl w18).alloc _)
    have FY : Hid (Lent w3.heap.size (w18.alloc (Obj.cells #[.bool ss, .slice aoT kT cT] 24)) by_ b.length cy b) := HY.out.kept ((Kept.refl w18).alloc _)
    have FK : Hid (Kept w (w18.alloc (Obj.cells #[.bool ss, .slice aoT kT cT] 24))) := HK.out.alloc _
    have fS1 := cell_kept ((Kept.refl w18).alloc (Obj.cells #[.bool ss, .slice aoT kT cT] 24)) hS1
    clear hA0 hA1 hB0 hB1 hX0 hX1 hY0 hY1 hs0 hs1 hS0 hS1 HNT HNs2 HX HY HK HA HB
    obtain ⟨hbS, ⟨hv, hl0⟩ | ⟨bS, N, f, hv, hBS, hNS, hrS, hfS⟩⟩ := HNS.out
    · simp only [Value.slice.injEq] at hv
      obtain ⟨rfl, rfl, rfl⟩ := hv
      clear hbS hl0
      go_wp2
      go_loopw [148] (fun vi wr => vi = .int .i64 0 ∧ wr = (w18.alloc (Obj.cells #[.bool ss, .slice aoT kT cT] 24))) (fun _ _ => 0)
      case atStart => exact ⟨rfl, rfl⟩
      case round =>
        obtain ⟨rfl, rfl⟩ := hrel
        go_wp2_with fail
        refine (lsame_any true ss ss _ _ ls ls _ HT.out.sl HS2.out.sl (by omega) (by omega) (by simp)).mono ?_
        rintro e w20 ⟨rfl, hk⟩
        replace fX0 := cell_kept hk fX0
        replace fX1 := cell_kept hk fX1
        replace fY0 := cell_kept hk fY0
        replace fY1 := cell_kept hk fY1
        replace fA0 := cell_kept hk fA0
        replace fA1 := cell_kept hk fA1
        replace fB0 := cell_kept hk fB0
        replace fB1 := cell_kept hk fB1
        have GX : Hid (Lent w3.heap.size w20 bx a.length cx a) := FX.out.kept hk
        have GY : Hid (Lent w3.heap.size w20 by_ b.length cy b) := FY.out.kept hk
        have GK : Hid (Kept w w20) := FK.out.trans hk
        clear hk FX FY FK HT HS2 fT0 fT1 fs0 fs1
        go_wp2_with fail
        refine (whole_yes _ ma bx a.length cx aa ca a _ GX.out (HA0.out.1.kept GK.out) hla).mono ?_
        rintro e w21 ⟨rfl, hk⟩
        replace fY0 := cell_kept hk fY0
        replace fY1 := cell_kept hk fY1
        replace fB0 := cell_kept hk fB0
        replace fB1 := cell_kept hk fB1
        replace GY : Hid (Lent w3.heap.size w21 by_ b.length cy b) := GY.out.kept hk
        replace GK : Hid (Kept w w21) := GK.out.trans hk
        clear hk GX fX0 fX1 fA0 fA1
        go_wp2_with fail
        refine (whole_yes _ mb by_ b.length cy ab cb b _ GY.out (HA0.out.2.kept GK.out) hlb).mono ?_
        rintro e w22 ⟨rfl, hk⟩
        have HE : Hid (Kept w w22) := GK.out.trans hk
        clear hk
        go_wp2
        go_ret
        exact ⟨rfl, HE.out⟩
    · simp only [Value.slice.injEq] at hv
      obtain ⟨rfl, rfl, rfl⟩ := hv
      have hbw : bS < w5.heap.size := HSlt.out _ rfl
      have hz8 := HZ8.out
      have hz89 := HZ89.out
      have hz17 := HZ17.out
      have hz18 := HZ5.out
      have HR : Hid ((w18.alloc (Obj.cells #[.bool ss, .slice aoT kT cT] 24)).rowIs bS 38 cS f) := hrS.of_block (by rw [Below.heap_alloc _ _ _ hrS.lt])
      clear hbS hrS hfS
      have hls : ls.length ≤ 1000 := by omega
      go_wp2
      go_loopw [148] (fun vi wr => ∃ i : Nat, vi = .int .i64 (i : Int) ∧ i ≤ ls.length ∧ wr.cell? ⟨w5.heap.size, 1, none⟩ = some (.slice (some ⟨bS, 0, none⟩) ls.length cS) ∧ Hid (∃ f, wr.rowIs bS 38 cS f) ∧ Hid ((w18.alloc (Obj.cells #[.bool ss, .slice aoT kT cT] 24)).grownBy wr (some bS))) (fun vi _ => ls.length - (intOf vi).toNat)
      case atStart => exact ⟨0, rfl, by omega, fS1, ⟨_, HR.out⟩, World.grownBy.refl _ _⟩
      case round =>
        obtain ⟨i, rfl, hi, hs1, hrow, hgr⟩ := hrel
        by_cases hlt : i < ls.length
        · obtain ⟨f', hf'⟩ := hrow.out
          have hck : wr.cell? ⟨bS, i, none⟩ = some (f' i) := hf'.cell (by omega)
          have hfz : wr.frozen? ⟨bS, i, none⟩ = false := hf'.frozen _
          have hne5 : ¬ (bS = w5.heap.size) := by omega
          clear hf'
          go_wp2
          go_roundw
          case rel =>
            obtain ⟨f', hf'⟩ := hrow.out
            exact ⟨i + 1, by go_num, by omega, by rw [World.cell?_setCell_far _ _ _ _ hne5]; exact hs1, ⟨_, hf'.set _ _⟩, grown_set hgr.out _ _⟩
          case measure => simp [intOf]; omega
        · replace fA0 := cell_grown hgr.out fA0 (by omega)
          replace fA1 := cell_grown hgr.out fA1 (by omega)
          replace fB0 := cell_grown hgr.out fB0 (by omega)
          replace fB1 := cell_grown hgr.out fB1 (by omega)
          replace fX0 := cell_grown hgr.out fX0 (by omega)
          replace fX1 := cell_grown hgr.out fX1 (by omega)
          replace fY0 := cell_grown hgr.out fY0 (by omega)
          replace fY1 := cell_grown hgr.out fY1 (by omega)
          replace fs0 := cell_grown hgr.out fs0 (by omega)
          replace fs1 := cell_grown hgr.out fs1 (by omega)
          replace fT0 := cell_grown hgr.out fT0 (by omega)
          replace fT1 := cell_grown hgr.out fT1 (by omega)
          replace HT : Hid (New w17.heap.size wr (.slice aoT kT cT) ls) := HT.out.old hgr.out (by omega)
          replace HS2 : Hid (New w8.heap.size wr (.slice aos2 ks2 cs2) ls) := HS2.out.old hgr.out (by omega)
          replace FX : Hid (Lent w3.heap.size wr bx a.length cx a) := FX.out.grown hgr.out (by omega)
          replace FY : Hid (Lent w3.heap.size wr by_ b.length cy b) := FY.out.grown hgr.out (by omega)
          replace FK : Hid (Kept w wr) := Below.grown FK.out hgr.out FK.out.size (fun k hk => by have := Option.some.inj hk; omega)
          go_wp2_with fail
          refine (lsame_any true ss ss _ _ ls ls _ HT.out.sl HS2.out.sl (by omega) (by omega) (by simp)).mono ?_
          rintro e w20 ⟨rfl, hk⟩
          replace fX0 := cell_kept hk fX0
          replace fX1 := cell_kept hk fX1
          replace fY0 := cell_kept hk fY0
          replace fY1 := cell_kept hk fY1
          replace fA0 := cell_kept hk fA0
          replace fA1 := cell_kept hk fA1
          replace fB0 := cell_kept hk fB0
          replace fB1 := cell_kept hk fB1
          have GX : Hid (Lent w3.heap.size w20 bx a.length cx a) := FX.out.kept hk
          have GY : Hid (Lent w3.heap.size w20 by_ b.length cy b) := FY.out.kept hk
          have GK : Hid (Kept w w20) := FK.out.trans hk
          clear hk FX FY FK HT HS2 fT0 fT1 fs0 fs1
          go_wp2_with fail
          refine (whole_yes _ ma bx a.length cx aa ca a _ GX.out (HA0.out.1.kept GK.out) hla).mono ?_
          rintro e w21 ⟨rfl, hk⟩
          replace fY0 := cell_kept hk fY0
          replace fY1 := cell_kept hk fY1
          replace fB0 := cell_kept hk fB0
          replace fB1 := cell_kept hk fB1
          replace GY : Hid (Lent w3.heap.size w21 by_ b.length cy b) := GY.out.kept hk
          replace GK : Hid (Kept w w21) := GK.out.trans hk
          clear hk GX fX0 fX1 fA0 fA1
          go_wp2_with fail
          refine (whole_yes _ mb by_ b.length cy ab cb b _ GY.out (HA0.out.2.kept GK.out) hlb).mono ?_
          rintro e w22 ⟨rfl, hk⟩
          have HE : Hid (Kept w w22) := GK.out.trans hk
          clear hk
          go_wp2
          go_ret
          exact ⟨rfl, HE.out⟩

end Go.Proofs.YtiadnlpbbibkgaaDoor
