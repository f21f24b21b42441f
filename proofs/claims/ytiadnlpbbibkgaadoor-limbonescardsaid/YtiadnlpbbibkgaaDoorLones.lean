/- LimbOnes: the walk of the statement itself. -/
import Derived.Test.YtiadnlpbbibkgaaDoorOnes1
import Derived.Test.YtiadnlpbbibkgaaDoorRwhole
import Derived.Test.YtiadnlpbbibkgaaDoorRtext
import Derived.Test.YtiadnlpbbibkgaaDoorWhole
namespace Go.Proofs.YtiadnlpbbibkgaaDoor
open Go.RowKit

theorem give_same {v : Int} {s s' : Bool} {l l' d : List Nat} (hr : M.Right s l) (hi : M.int s l = v) (hd : D.Right s' d) (hz : D.int s' d = v) (hb : M.Bd l') (ht : M.Tr l') (hv : M.val l' = D.val d) (hl : l'.length = (d.length + 1) / 2) (hk : d.length ≤ 4) : s = s' ∧ l = l' := by
  have hr' : M.Right s' l' := ⟨hb, ht, by omega, fun e => hd.zero (by rw [e] at hl; simp at hl; exact List.length_eq_zero_iff.1 (by omega))⟩
  have hz' : M.int s' l' = v := by rw [← hz]; unfold M.int D.int; rw [hv]
  exact M.int_inj hr hr' (hi.trans hz'.symm)

set_option maxRecDepth 100000 in
set_option maxHeartbeats 4000000 in
theorem lones_right (v : Int) (ma : Bool) (aa : Option Addr) (ca : Nat) (a : List Nat) (k : Int) (w : World) (ha : Sl w (.slice aa a.length ca) a) (hla : a.length ≤ 80) (ht : Tab w) (hr : R ma a) (hv1 : -9223372036854775808 ≤ v) (hv2 : v ≤ 9223372036854775807) :
    Calls Tryd.prog 5 #[.int .i64 v, .agg #[.bool ma, .slice aa a.length ca], .int .i64 k] w fun e w' => e = .returned (.bool true) ∧ Kept w w' := by
  have HR : Hid (R ma a) := hr
  have HA0 : Hid (Sl w (.slice aa a.length ca) a ∧ Tab w) := ⟨ha, ht⟩
  clear ha ht hr
  go_enter Tryd.func5, Tryd.ntmps5
  go_wp2_with fail
  refine (awake_yes _).mono ?_
  rintro e w1 ⟨rfl, hk1⟩
  obtain ⟨hA0, hA1⟩ := box_kept hk1
  have HK1 : Hid (Kept w w1) := ((Kept.refl w).alloc _).trans hk1
  clear hk1
  go_wp2_with fail
  refine (long_any ma aa a.length ca _ (by omega)).mono ?_
  rintro e w2 ⟨rfl, hk2⟩
  rw [decide_eq_false (by omega)]
  replace hA0 := cell_kept hk2 hA0
  replace hA1 := cell_kept hk2 hA1
  have HK : Hid (Kept w w2) := HK1.out.trans hk2
  have HA : Hid (Sl w2 (.slice aa a.length ca) a) := HA0.out.1.kept HK.out
  have HT : Hid (Tab w2) := HA0.out.2.kept HK.out
  clear hk2 HK1 HA0
  go_wp2_with fail
  refine (lent_any ma aa a.length ca a _ HA.out hla).mono ?_
  rintro e w3 ⟨hk, bx, cx, rfl, hX⟩
  have HX : Hid (Lent _ w3 bx a.length cx a) := hX
  clear hX
  have hkk : Kept w2 w3 := hk
  replace hA0 := cell_kept hkk hA0
  replace hA1 := cell_kept hkk hA1
  replace HA : Hid (Sl w3 (.slice aa a.length ca) a) := HA.out.kept hkk
  replace HT : Hid (Tab w3) := HT.out.kept hkk
  replace HK : Hid (Kept w w3) := HK.out.trans hkk
  clear hkk hk
  have ghA0 := fun x => cell_kept ((Kept.refl w3).alloc x) hA0
  have ghA1 := fun x => cell_kept ((Kept.refl w3).alloc x) hA1
  go_wp2_with fail
  refine (right_yes ma _ a _ (HA.out.kept ((Kept.refl w3).alloc _)) HR.out).mono ?_
  rintro e w4 ⟨rfl, hk⟩
  obtain ⟨hX0, hX1⟩ := box_kept hk
  have hkk : Kept w3 w4 := ((Kept.refl w3).alloc _).trans hk
  replace hA0 := cell_kept hkk hA0
  replace hA1 := cell_kept hkk hA1
  replace HA : Hid (Sl w4 (.slice aa a.length ca) a) := HA.out.kept hkk
  replace HT : Hid (Tab w4) := HT.out.kept hkk
  replace HK : Hid (Kept w w4) := HK.out.trans hkk
  replace HX : Hid (Lent _ w4 bx a.length cx a) := HX.out.kept hkk
  clear hkk hk ghA0 ghA1
  go_wp2_with fail
  refine (int64_yes ma _ _ cx a _ HX.out.sl HR.out).mono ?_
  rintro e w5 ⟨rfl, hk⟩
  have hkk : Kept w4 w5 := hk
  replace hA0 := cell_kept hkk hA0
  replace hA1 := cell_kept hkk hA1
  replace hX0 := cell_kept hkk hX0
  replace hX1 := cell_kept hkk hX1
  replace HA : Hid (Sl w5 (.slice aa a.length ca) a) := HA.out.kept hkk
  replace HT : Hid (Tab w5) := HT.out.kept hkk
  replace HK : Hid (Kept w w5) := HK.out.trans hkk
  replace HX : Hid (Lent _ w5 bx a.length cx a) := HX.out.kept hkk
  clear hkk hk
  go_wp2_with fail
  refine (D.rint64_yes ma _ _ ca a _ HA.out HR.out).mono ?_
  rintro e w6 ⟨rfl, hk⟩
  have hkk : Kept w5 w6 := hk
  replace hA0 := cell_kept hkk hA0
  replace hA1 := cell_kept hkk hA1
  replace hX0 := cell_kept hkk hX0
  replace hX1 := cell_kept hkk hX1
  replace HA : Hid (Sl w6 (.slice aa a.length ca) a) := HA.out.kept hkk
  replace HT : Hid (Tab w6) := HT.out.kept hkk
  replace HK : Hid (Kept w w6) := HK.out.trans hkk
  replace HX : Hid (Lent _ w6 bx a.length cx a) := HX.out.kept hkk
  clear hkk hk
  go_wp2_with fail
  refine (text_any ma _ a _ HX.out.sl HR.out HT.out).mono ?_
  rintro e w7 ⟨hk, D1, hp1, hz1, hv1, rfl⟩
  obtain ⟨t, ht⟩ : ∃ t, t = (⟨(tx ma D1).toArray⟩ : ByteArray) := ⟨_, rfl⟩
  rw [← ht]
  have HTX : Hid (Plain D1 ∧ dv D1 = M.val a ∧ t = (⟨(tx ma D1).toArray⟩ : ByteArray)) := ⟨hp1, hv1, ht⟩
  clear hp1 hz1 hv1 ht
  have hkk : Kept w6 w7 := hk
  replace hA0 := cell_kept hkk hA0
  replace hA1 := cell_kept hkk hA1
  replace hX0 := cell_kept hkk hX0
  replace hX1 := cell_kept hkk hX1
  replace HA : Hid (Sl w7 (.slice aa a.length ca) a) := HA.out.kept hkk
  replace HT : Hid (Tab w7) := HT.out.kept hkk
  replace HK : Hid (Kept w w7) := HK.out.trans hkk
  replace HX : Hid (Lent _ w7 bx a.length cx a) := HX.out.kept hkk
  clear hkk hk
  go_wp2_with fail
  refine (D.rtext_yes ma _ _ ca a _ HA.out HR.out).mono ?_
  rintro e w8 ⟨hk, D2, hp2, hv2, rfl⟩
  rw [plain_inj hp2 HTX.out.1 (hv2.trans HTX.out.2.1.symm), ← HTX.out.2.2]
  clear hp2 hv2
  have hkk : Kept w7 w8 := hk
  replace hA0 := cell_kept hkk hA0
  replace hA1 := cell_kept hkk hA1
  replace hX0 := cell_kept hkk hX0
  replace hX1 := cell_kept hkk hX1
  replace HA : Hid (Sl w8 (.slice aa a.length ca) a) := HA.out.kept hkk
  replace HT : Hid (Tab w8) := HT.out.kept hkk
  replace HK : Hid (Kept w w8) := HK.out.trans hkk
  replace HX : Hid (Lent _ w8 bx a.length cx a) := HX.out.kept hkk
  clear hkk hk
  go_wp2_with fail
  refine (of_any v _ hv1 hv2).mono ?_
  rintro e w9 ⟨hk, s9, a9, n9, c9, l9, rfl, hn9, hr9, hi9⟩
  have HN9 : Hid (Sl w9 (.slice a9 n9 c9) l9) := hn9.sl
  have HI9 : Hid (M.Right s9 l9 ∧ M.int s9 l9 = v) := ⟨hr9, hi9⟩
  clear hn9 hr9 hi9
  have hkk : Kept w8 w9 := hk
  replace hA0 := cell_kept hkk hA0
  replace hA1 := cell_kept hkk hA1
  replace hX0 := cell_kept hkk hX0
  replace hX1 := cell_kept hkk hX1
  replace HA : Hid (Sl w9 (.slice aa a.length ca) a) := HA.out.kept hkk
  replace HT : Hid (Tab w9) := HT.out.kept hkk
  replace HK : Hid (Kept w w9) := HK.out.trans hkk
  replace HX : Hid (Lent _ w9 bx a.length cx a) := HX.out.kept hkk
  clear hkk hk
  go_wp2_with fail
  refine (D.wide_any v _ hv1 hv2).mono ?_
  rintro e w10 ⟨hk, s10, a10, k10, c10, rfl, hN10, hl10⟩
  obtain ⟨d10, hs10, hr10, hz10⟩ := hN10
  have hlen10 := hs10.len
  subst hlen10
  have HD : Hid (D.Sl w10 (.slice a10 d10.length c10) d10) := hs10
  have HD2 : Hid (D.Right s10 d10 ∧ D.int s10 d10 = v) := ⟨hr10, hz10⟩
  clear hs10 hr10 hz10
  have hkk : Kept w9 w10 := hk
  replace hA0 := cell_kept hkk hA0
  replace hA1 := cell_kept hkk hA1
  replace hX0 := cell_kept hkk hX0
  replace hX1 := cell_kept hkk hX1
  replace HA : Hid (Sl w10 (.slice aa a.length ca) a) := HA.out.kept hkk
  replace HT : Hid (Tab w10) := HT.out.kept hkk
  replace HK : Hid (Kept w w10) := HK.out.trans hkk
  replace HX : Hid (Lent _ w10 bx a.length cx a) := HX.out.kept hkk
  replace HN9 : Hid (Sl w10 (.slice a9 n9 c9) l9) := HN9.out.kept hkk
  clear hkk hk
  go_wp2_with fail
  refine (D.Give_any s10 a10 c10 d10 _ HD.out HD2.out.1.tr (by omega)).mono ?_
  rintro e w11 ⟨hk, a11, n11, c11, l11, rfl, hn11, ht11, hv11, hl11⟩
  have HN11 : Hid (Sl w11 (.slice a11 n11 c11) l11) := hn11.sl
  obtain ⟨rfl, rfl⟩ : s9 = s10 ∧ l9 = l11 := give_same HI9.out.1 HI9.out.2 HD2.out.1 HD2.out.2 hn11.sl.bd ht11 hv11 hl11 hl10
  have hl9 : l9.length ≤ 72 := HI9.out.1.len
  clear hn11 ht11 hv11 hl11
  have hkk : Kept w10 w11 := hk
  replace hA0 := cell_kept hkk hA0
  replace hA1 := cell_kept hkk hA1
  replace hX0 := cell_kept hkk hX0
  replace hX1 := cell_kept hkk hX1
  replace HA : Hid (Sl w11 (.slice aa a.length ca) a) := HA.out.kept hkk
  replace HT : Hid (Tab w11) := HT.out.kept hkk
  replace HK : Hid (Kept w w11) := HK.out.trans hkk
  replace HX : Hid (Lent _ w11 bx a.length cx a) := HX.out.kept hkk
  replace HN9 : Hid (Sl w11 (.slice a9 n9 c9) l9) := HN9.out.kept hkk
  clear hkk hk
  go_wp2_with fail
  refine (lsame_any true s9 s9 _ _ l9 l9 _ HN9.out HN11.out (by omega) (by omega) (by simp)).mono ?_
  rintro e w12 ⟨rfl, hk⟩
  have hkk : Kept w11 w12 := hk
  replace hA0 := cell_kept hkk hA0
  replace hA1 := cell_kept hkk hA1
  replace hX0 := cell_kept hkk hX0
  replace hX1 := cell_kept hkk hX1
  replace HA : Hid (Sl w12 (.slice aa a.length ca) a) := HA.out.kept hkk
  replace HT : Hid (Tab w12) := HT.out.kept hkk
  replace HK : Hid (Kept w w12) := HK.out.trans hkk
  replace HX : Hid (Lent _ w12 bx a.length cx a) := HX.out.kept hkk
  replace HN9 : Hid (Sl w12 (.slice a9 n9 c9) l9) := HN9.out.kept hkk
  clear hkk hk
  go_wp2_with fail
  refine (check_yes ma _ a _ HX.out.sl HR.out).mono ?_
  rintro e w13 ⟨rfl, hk⟩
  have hkk : Kept w12 w13 := hk
  replace hA0 := cell_kept hkk hA0
  replace hA1 := cell_kept hkk hA1
  replace hX0 := cell_kept hkk hX0
  replace hX1 := cell_kept hkk hX1
  replace HA : Hid (Sl w13 (.slice aa a.length ca) a) := HA.out.kept hkk
  replace HT : Hid (Tab w13) := HT.out.kept hkk
  replace HK : Hid (Kept w w13) := HK.out.trans hkk
  replace HX : Hid (Lent _ w13 bx a.length cx a) := HX.out.kept hkk
  replace HN9 : Hid (Sl w13 (.slice a9 n9 c9) l9) := HN9.out.kept hkk
  clear hkk hk
  go_wp2_with fail
  refine (check_yes ma _ a _ HX.out.sl HR.out).mono ?_
  rintro e w14 ⟨rfl, hk⟩
  have hkk : Kept w13 w14 := hk
  replace hA0 := cell_kept hkk hA0
  replace hA1 := cell_kept hkk hA1
  replace hX0 := cell_kept hkk hX0
  replace hX1 := cell_kept hkk hX1
  replace HA : Hid (Sl w14 (.slice aa a.length ca) a) := HA.out.kept hkk
  replace HT : Hid (Tab w14) := HT.out.kept hkk
  replace HK : Hid (Kept w w14) := HK.out.trans hkk
  replace HX : Hid (Lent _ w14 bx a.length cx a) := HX.out.kept hkk
  replace HN9 : Hid (Sl w14 (.slice a9 n9 c9) l9) := HN9.out.kept hkk
  clear hkk hk
  go_wp2_with fail
  refine (fits_any true ma _ _ cx a k _ HX.out.sl (by omega) (.inl ⟨rfl, HR.out⟩)).mono ?_
  rintro e w16 ⟨rfl, hk⟩
  have hkk : Kept w14 w16 := hk
  replace hA0 := cell_kept hkk hA0
  replace hA1 := cell_kept hkk hA1
  replace hX0 := cell_kept hkk hX0
  replace hX1 := cell_kept hkk hX1
  replace HA : Hid (Sl w16 (.slice aa a.length ca) a) := HA.out.kept hkk
  replace HT : Hid (Tab w16) := HT.out.kept hkk
  replace HK : Hid (Kept w w16) := HK.out.trans hkk
  replace HX : Hid (Lent _ w16 bx a.length cx a) := HX.out.kept hkk
  replace HN9 : Hid (Sl w16 (.slice a9 n9 c9) l9) := HN9.out.kept hkk
  clear hkk hk
  go_wp2_with fail
  refine (whole_yes _ ma bx a.length cx aa ca a _ HX.out HA.out hla).mono ?_
  rintro e w17 ⟨rfl, hk⟩
  have hkk : Kept w16 w17 := hk
  replace hA0 := cell_kept hkk hA0
  replace hA1 := cell_kept hkk hA1
  replace hX0 := cell_kept hkk hX0
  replace hX1 := cell_kept hkk hX1
  replace HA : Hid (Sl w17 (.slice aa a.length ca) a) := HA.out.kept hkk
  replace HT : Hid (Tab w17) := HT.out.kept hkk
  replace HK : Hid (Kept w w17) := HK.out.trans hkk
  replace HX : Hid (Lent _ w17 bx a.length cx a) := HX.out.kept hkk
  replace HN9 : Hid (Sl w17 (.slice a9 n9 c9) l9) := HN9.out.kept hkk
  clear hkk hk
  go_wp2
  go_ret
  exact ⟨rfl, HK.out⟩


set_option maxRecDepth 100000 in
set_option maxHeartbeats 4000000 in
theorem lones_wrong (v : Int) (ma : Bool) (aa : Option Addr) (ca : Nat) (a : List Nat) (k : Int) (w : World) (ha : Sl w (.slice aa a.length ca) a) (hla : a.length ≤ 80) (ht : Tab w) (hr : ¬ R ma a) (hv1 : -9223372036854775808 ≤ v) (hv2 : v ≤ 9223372036854775807) :
    Calls Tryd.prog 5 #[.int .i64 v, .agg #[.bool ma, .slice aa a.length ca], .int .i64 k] w fun e w' => e = .returned (.bool true) ∧ Kept w w' := by
  have HR : Hid (¬ R ma a) := hr
  have HA0 : Hid (Sl w (.slice aa a.length ca) a ∧ Tab w) := ⟨ha, ht⟩
  clear ha ht hr
  go_enter Tryd.func5, Tryd.ntmps5
  go_wp2_with fail
  refine (awake_yes _).mono ?_
  rintro e w1 ⟨rfl, hk1⟩
  obtain ⟨hA0, hA1⟩ := box_kept hk1
  have HK1 : Hid (Kept w w1) := ((Kept.refl w).alloc _).trans hk1
  clear hk1
  go_wp2_with fail
  refine (long_any ma aa a.length ca _ (by omega)).mono ?_
  rintro e w2 ⟨rfl, hk2⟩
  rw [decide_eq_false (by omega)]
  replace hA0 := cell_kept hk2 hA0
  replace hA1 := cell_kept hk2 hA1
  have HK : Hid (Kept w w2) := HK1.out.trans hk2
  have HA : Hid (Sl w2 (.slice aa a.length ca) a) := HA0.out.1.kept HK.out
  have HT : Hid (Tab w2) := HA0.out.2.kept HK.out
  clear hk2 HK1 HA0
  go_wp2_with fail
  refine (lent_any ma aa a.length ca a _ HA.out hla).mono ?_
  rintro e w3 ⟨hk, bx, cx, rfl, hX⟩
  have HX : Hid (Lent _ w3 bx a.length cx a) := hX
  clear hX
  have hkk : Kept w2 w3 := hk
  replace hA0 := cell_kept hkk hA0
  replace hA1 := cell_kept hkk hA1
  replace HA : Hid (Sl w3 (.slice aa a.length ca) a) := HA.out.kept hkk
  replace HT : Hid (Tab w3) := HT.out.kept hkk
  replace HK : Hid (Kept w w3) := HK.out.trans hkk
  clear hkk hk
  have ghA0 := fun x => cell_kept ((Kept.refl w3).alloc x) hA0
  have ghA1 := fun x => cell_kept ((Kept.refl w3).alloc x) hA1
  go_wp2_with fail
  refine (right_no ma _ a _ (HA.out.kept ((Kept.refl w3).alloc _)) (by omega) HR.out).mono ?_
  rintro e w4 ⟨rfl, hk⟩
  obtain ⟨hX0, hX1⟩ := box_kept hk
  have hkk : Kept w3 w4 := ((Kept.refl w3).alloc _).trans hk
  replace hA0 := cell_kept hkk hA0
  replace hA1 := cell_kept hkk hA1
  replace HA : Hid (Sl w4 (.slice aa a.length ca) a) := HA.out.kept hkk
  replace HT : Hid (Tab w4) := HT.out.kept hkk
  replace HK : Hid (Kept w w4) := HK.out.trans hkk
  replace HX : Hid (Lent _ w4 bx a.length cx a) := HX.out.kept hkk
  clear hkk hk ghA0 ghA1
  go_wp2_with fail
  refine (int64_no ma _ _ cx a _ HX.out.sl (by omega) HR.out).mono ?_
  rintro e w5 ⟨rfl, hk⟩
  have hkk : Kept w4 w5 := hk
  replace hA0 := cell_kept hkk hA0
  replace hA1 := cell_kept hkk hA1
  replace hX0 := cell_kept hkk hX0
  replace hX1 := cell_kept hkk hX1
  replace HA : Hid (Sl w5 (.slice aa a.length ca) a) := HA.out.kept hkk
  replace HT : Hid (Tab w5) := HT.out.kept hkk
  replace HK : Hid (Kept w w5) := HK.out.trans hkk
  replace HX : Hid (Lent _ w5 bx a.length cx a) := HX.out.kept hkk
  clear hkk hk
  go_wp2_with fail
  refine (D.rint64_no ma _ _ ca a _ HA.out (by omega) HR.out).mono ?_
  rintro e w6 ⟨rfl, hk⟩
  have hkk : Kept w5 w6 := hk
  replace hA0 := cell_kept hkk hA0
  replace hA1 := cell_kept hkk hA1
  replace hX0 := cell_kept hkk hX0
  replace hX1 := cell_kept hkk hX1
  replace HA : Hid (Sl w6 (.slice aa a.length ca) a) := HA.out.kept hkk
  replace HT : Hid (Tab w6) := HT.out.kept hkk
  replace HK : Hid (Kept w w6) := HK.out.trans hkk
  replace HX : Hid (Lent _ w6 bx a.length cx a) := HX.out.kept hkk
  clear hkk hk
  go_wp2_with fail
  refine (text_no ma _ _ cx a _ HX.out.sl (by omega) HR.out).mono ?_
  rintro e w7 ⟨rfl, hk⟩
  have hkk : Kept w6 w7 := hk
  replace hA0 := cell_kept hkk hA0
  replace hA1 := cell_kept hkk hA1
  replace hX0 := cell_kept hkk hX0
  replace hX1 := cell_kept hkk hX1
  replace HA : Hid (Sl w7 (.slice aa a.length ca) a) := HA.out.kept hkk
  replace HT : Hid (Tab w7) := HT.out.kept hkk
  replace HK : Hid (Kept w w7) := HK.out.trans hkk
  replace HX : Hid (Lent _ w7 bx a.length cx a) := HX.out.kept hkk
  clear hkk hk
  go_wp2_with fail
  refine (D.rtext_no ma _ _ ca a _ HA.out (by omega) HR.out).mono ?_
  rintro e w8 ⟨rfl, hk⟩
  have hkk : Kept w7 w8 := hk
  replace hA0 := cell_kept hkk hA0
  replace hA1 := cell_kept hkk hA1
  replace hX0 := cell_kept hkk hX0
  replace hX1 := cell_kept hkk hX1
  replace HA : Hid (Sl w8 (.slice aa a.length ca) a) := HA.out.kept hkk
  replace HT : Hid (Tab w8) := HT.out.kept hkk
  replace HK : Hid (Kept w w8) := HK.out.trans hkk
  replace HX : Hid (Lent _ w8 bx a.length cx a) := HX.out.kept hkk
  clear hkk hk
  go_wp2_with fail
  refine (of_any v _ hv1 hv2).mono ?_
  rintro e w9 ⟨hk, s9, a9, n9, c9, l9, rfl, hn9, hr9, hi9⟩
  have HN9 : Hid (Sl w9 (.slice a9 n9 c9) l9) := hn9.sl
  have HI9 : Hid (M.Right s9 l9 ∧ M.int s9 l9 = v) := ⟨hr9, hi9⟩
  clear hn9 hr9 hi9
  have hkk : Kept w8 w9 := hk
  replace hA0 := cell_kept hkk hA0
  replace hA1 := cell_kept hkk hA1
  replace hX0 := cell_kept hkk hX0
  replace hX1 := cell_kept hkk hX1
  replace HA : Hid (Sl w9 (.slice aa a.length ca) a) := HA.out.kept hkk
  replace HT : Hid (Tab w9) := HT.out.kept hkk
  replace HK : Hid (Kept w w9) := HK.out.trans hkk
  replace HX : Hid (Lent _ w9 bx a.length cx a) := HX.out.kept hkk
  clear hkk hk
  go_wp2_with fail
  refine (D.wide_any v _ hv1 hv2).mono ?_
  rintro e w10 ⟨hk, s10, a10, k10, c10, rfl, hN10, hl10⟩
  obtain ⟨d10, hs10, hr10, hz10⟩ := hN10
  have hlen10 := hs10.len
  subst hlen10
  have HD : Hid (D.Sl w10 (.slice a10 d10.length c10) d10) := hs10
  have HD2 : Hid (D.Right s10 d10 ∧ D.int s10 d10 = v) := ⟨hr10, hz10⟩
  clear hs10 hr10 hz10
  have hkk : Kept w9 w10 := hk
  replace hA0 := cell_kept hkk hA0
  replace hA1 := cell_kept hkk hA1
  replace hX0 := cell_kept hkk hX0
  replace hX1 := cell_kept hkk hX1
  replace HA : Hid (Sl w10 (.slice aa a.length ca) a) := HA.out.kept hkk
  replace HT : Hid (Tab w10) := HT.out.kept hkk
  replace HK : Hid (Kept w w10) := HK.out.trans hkk
  replace HX : Hid (Lent _ w10 bx a.length cx a) := HX.out.kept hkk
  replace HN9 : Hid (Sl w10 (.slice a9 n9 c9) l9) := HN9.out.kept hkk
  clear hkk hk
  go_wp2_with fail
  refine (D.Give_any s10 a10 c10 d10 _ HD.out HD2.out.1.tr (by omega)).mono ?_
  rintro e w11 ⟨hk, a11, n11, c11, l11, rfl, hn11, ht11, hv11, hl11⟩
  have HN11 : Hid (Sl w11 (.slice a11 n11 c11) l11) := hn11.sl
  obtain ⟨rfl, rfl⟩ : s9 = s10 ∧ l9 = l11 := give_same HI9.out.1 HI9.out.2 HD2.out.1 HD2.out.2 hn11.sl.bd ht11 hv11 hl11 hl10
  have hl9 : l9.length ≤ 72 := HI9.out.1.len
  clear hn11 ht11 hv11 hl11
  have hkk : Kept w10 w11 := hk
  replace hA0 := cell_kept hkk hA0
  replace hA1 := cell_kept hkk hA1
  replace hX0 := cell_kept hkk hX0
  replace hX1 := cell_kept hkk hX1
  replace HA : Hid (Sl w11 (.slice aa a.length ca) a) := HA.out.kept hkk
  replace HT : Hid (Tab w11) := HT.out.kept hkk
  replace HK : Hid (Kept w w11) := HK.out.trans hkk
  replace HX : Hid (Lent _ w11 bx a.length cx a) := HX.out.kept hkk
  replace HN9 : Hid (Sl w11 (.slice a9 n9 c9) l9) := HN9.out.kept hkk
  clear hkk hk
  go_wp2_with fail
  refine (lsame_any true s9 s9 _ _ l9 l9 _ HN9.out HN11.out (by omega) (by omega) (by simp)).mono ?_
  rintro e w12 ⟨rfl, hk⟩
  have hkk : Kept w11 w12 := hk
  replace hA0 := cell_kept hkk hA0
  replace hA1 := cell_kept hkk hA1
  replace hX0 := cell_kept hkk hX0
  replace hX1 := cell_kept hkk hX1
  replace HA : Hid (Sl w12 (.slice aa a.length ca) a) := HA.out.kept hkk
  replace HT : Hid (Tab w12) := HT.out.kept hkk
  replace HK : Hid (Kept w w12) := HK.out.trans hkk
  replace HX : Hid (Lent _ w12 bx a.length cx a) := HX.out.kept hkk
  replace HN9 : Hid (Sl w12 (.slice a9 n9 c9) l9) := HN9.out.kept hkk
  clear hkk hk
  go_wp2_with fail
  refine (check_no ma _ a _ HX.out.sl (by omega) HR.out).mono ?_
  rintro e w13 ⟨rfl, hk⟩
  have hkk : Kept w12 w13 := hk
  replace hA0 := cell_kept hkk hA0
  replace hA1 := cell_kept hkk hA1
  replace hX0 := cell_kept hkk hX0
  replace hX1 := cell_kept hkk hX1
  replace HA : Hid (Sl w13 (.slice aa a.length ca) a) := HA.out.kept hkk
  replace HT : Hid (Tab w13) := HT.out.kept hkk
  replace HK : Hid (Kept w w13) := HK.out.trans hkk
  replace HX : Hid (Lent _ w13 bx a.length cx a) := HX.out.kept hkk
  replace HN9 : Hid (Sl w13 (.slice a9 n9 c9) l9) := HN9.out.kept hkk
  clear hkk hk
  go_wp2_with fail
  refine (check_no ma _ a _ HX.out.sl (by omega) HR.out).mono ?_
  rintro e w14 ⟨rfl, hk⟩
  have hkk : Kept w13 w14 := hk
  replace hA0 := cell_kept hkk hA0
  replace hA1 := cell_kept hkk hA1
  replace hX0 := cell_kept hkk hX0
  replace hX1 := cell_kept hkk hX1
  replace HA : Hid (Sl w14 (.slice aa a.length ca) a) := HA.out.kept hkk
  replace HT : Hid (Tab w14) := HT.out.kept hkk
  replace HK : Hid (Kept w w14) := HK.out.trans hkk
  replace HX : Hid (Lent _ w14 bx a.length cx a) := HX.out.kept hkk
  replace HN9 : Hid (Sl w14 (.slice a9 n9 c9) l9) := HN9.out.kept hkk
  clear hkk hk
  go_wp2_with fail
  refine (check_no ma _ a _ HX.out.sl (by omega) HR.out).mono ?_
  rintro e w15 ⟨rfl, hk⟩
  have hkk : Kept w14 w15 := hk
  replace hA0 := cell_kept hkk hA0
  replace hA1 := cell_kept hkk hA1
  replace hX0 := cell_kept hkk hX0
  replace hX1 := cell_kept hkk hX1
  replace HA : Hid (Sl w15 (.slice aa a.length ca) a) := HA.out.kept hkk
  replace HT : Hid (Tab w15) := HT.out.kept hkk
  replace HK : Hid (Kept w w15) := HK.out.trans hkk
  replace HX : Hid (Lent _ w15 bx a.length cx a) := HX.out.kept hkk
  replace HN9 : Hid (Sl w15 (.slice a9 n9 c9) l9) := HN9.out.kept hkk
  clear hkk hk
  go_wp2_with fail
  refine (fits_any false ma _ _ cx a k _ HX.out.sl (by omega) (.inr ⟨rfl, HR.out⟩)).mono ?_
  rintro e w16 ⟨rfl, hk⟩
  have hkk : Kept w15 w16 := hk
  replace hA0 := cell_kept hkk hA0
  replace hA1 := cell_kept hkk hA1
  replace hX0 := cell_kept hkk hX0
  replace hX1 := cell_kept hkk hX1
  replace HA : Hid (Sl w16 (.slice aa a.length ca) a) := HA.out.kept hkk
  replace HT : Hid (Tab w16) := HT.out.kept hkk
  replace HK : Hid (Kept w w16) := HK.out.trans hkk
  replace HX : Hid (Lent _ w16 bx a.length cx a) := HX.out.kept hkk
  replace HN9 : Hid (Sl w16 (.slice a9 n9 c9) l9) := HN9.out.kept hkk
  clear hkk hk
  go_wp2_with fail
  refine (whole_yes _ ma bx a.length cx aa ca a _ HX.out HA.out hla).mono ?_
  rintro e w17 ⟨rfl, hk⟩
  have hkk : Kept w16 w17 := hk
  replace hA0 := cell_kept hkk hA0
  replace hA1 := cell_kept hkk hA1
  replace hX0 := cell_kept hkk hX0
  replace hX1 := cell_kept hkk hX1
  replace HA : Hid (Sl w17 (.slice aa a.length ca) a) := HA.out.kept hkk
  replace HT : Hid (Tab w17) := HT.out.kept hkk
  replace HK : Hid (Kept w w17) := HK.out.trans hkk
  replace HX : Hid (Lent _ w17 bx a.length cx a) := HX.out.kept hkk
  replace HN9 : Hid (Sl w17 (.slice a9 n9 c9) l9) := HN9.out.kept hkk
  clear hkk hk
  go_wp2
  go_ret
  exact ⟨rfl, HK.out⟩


end Go.Proofs.YtiadnlpbbibkgaaDoor
