/- shuntlaw02's lent (of a fraction) and whole. -/
import Derived.Test.YtblpacgfgifkcaaGreatLent2
import Derived.Test.YtblpacgfgifkcaaGreatGap
import Derived.Test.YtblpacgfgifkcaaGreatGao
namespace Go.Proofs.YtblpacgfgifkcaaGreat
open Go.RowKit
namespace F
theorem Lent.rput4 {B p : Nat} {w : World} {b n cap : Nat} {l : List Nat} {y0 y1 y2 y3 : Value} (h : Lent B w b n cap l) (hz : RRow w p y0 y1 y2 y3) (x0 x1 x2 x3 : Value) : Lent B (put4 w p x0 x1 x2 x3) b n cap l := ⟨h.1, New.rset4 h.2 hz x0 x1 x2 x3⟩
theorem Lent.mono {B B' : Nat} {w : World} {b n cap : Nat} {l : List Nat} (h : Lent B w b n cap l) (hB : B' ≤ B) : Lent B' w b n cap l := ⟨h.1, h.2.mono hB⟩
set_option maxRecDepth 100000 in
set_option maxHeartbeats 4000000 in
theorem rlent_any (m n : Bool) (a1 a2 : Option Addr) (k1 c1 k2 c2 : Nat) (a d : List Nat) (w : World) (h1 : Sl w (.slice a1 k1 c1) a) (h2 : Sl w (.slice a2 k2 c2) d) (hl1 : a.length ≤ 160) (hl2 : d.length ≤ 160) :
  Calls Tryz.prog 7 #[.agg #[.bool m, .slice a1 k1 c1, .bool n, .slice a2 k2 c2]] w fun e w' => Kept w w' ∧ ∃ b cap b' cap', e = .returned (.agg #[.bool m, .slice (some ⟨b, 0, none⟩) k1 cap, .bool n, .slice (some ⟨b', 0, none⟩) k2 cap']) ∧ Lent w.heap.size w' b k1 cap a ∧ Lent w.heap.size w' b' k2 cap' d := by
 have HA : Hid (Sl w (.slice a1 k1 c1) a ∧ Sl w (.slice a2 k2 c2) d ∧ a.length ≤ 160 ∧ d.length ≤ 160) := ⟨h1, h2, hl1, hl2⟩
 clear h1 h2 hl1 hl2
 go_enter Tryz.func7, Tryz.ntmps7
 go_upto_region 1 with fail
 have r1 := ((RRow.alloc w (.bool m) (.slice a1 k1 c1) (.bool n) (.slice a2 k2 c2)).kept ((Kept.refl _).alloc (.cells #[.bool false, .slice none 0 0, .bool false, .slice none 0 0] 26)))
 have r2 := RRow.alloc (w.alloc (.cells #[.bool m, .slice a1 k1 c1, .bool n, .slice a2 k2 c2] 26)) (.bool false) (.slice none 0 0) (.bool false) (.slice none 0 0)
 have hK := ((Kept.refl w).alloc (.cells #[.bool m, .slice a1 k1 c1, .bool n, .slice a2 k2 c2] 26)).alloc (.cells #[.bool false, .slice none 0 0, .bool false, .slice none 0 0] 26)
 simp only [World.size_alloc] at r2
 generalize (w.alloc (.cells #[.bool m, .slice a1 k1 c1, .bool n, .slice a2 k2 c2] 26)).alloc (.cells #[.bool false, .slice none 0 0, .bool false, .slice none 0 0] 26) = W at r1 r2 hK ⊢
 obtain ⟨p2, hp2⟩ : ∃ p, p = w.heap.size + 1 := ⟨_, rfl⟩
 rw [← hp2] at r2 ⊢
 obtain ⟨p1, hp1⟩ : ∃ p, p = w.heap.size := ⟨_, rfl⟩
 rw [← hp1] at r1 ⊢
 have HP : Hid (w.heap.size ≤ p2 ∧ w.heap.size ≤ W.heap.size) := ⟨by omega, hK.size⟩
 have n21 : ¬ p2 = p1 := by omega
 have HV : Hid (∀ V, Kept W V → RRow V p1 (.bool m) (.slice a1 k1 c1) (.bool n) (.slice a2 k2 c2) ∧ RRow V p2 (.bool false) (.slice none 0 0) (.bool false) (.slice none 0 0) ∧ Kept w V) := fun V hV => ⟨r1.kept hV, r2.kept hV, hK.trans hV⟩
 obtain ⟨q0, q1, q2, q3⟩ := rrow_all r1
 clear hp1 hp2 r1 r2 hK
 go_region_held3 (fun w' => w'.cell? ⟨p1, 0, none⟩ = some (.bool m) ∧ w'.cell? ⟨p1, 1, none⟩ = some (.slice a1 k1 c1) ∧ w'.cell? ⟨p1, 2, none⟩ = some (.bool n) ∧ w'.cell? ⟨p1, 3, none⟩ = some (.slice a2 k2 c2)) (go_keep) (first
  | (go_at_call_of 27 (Value.slice a1 k1 c1); refine (lent_any m a1 k1 c1 a _ (HA.out.1.kept (HV.out _ (Kept.refl _).drew).2.2) HA.out.2.2.1).mono ?_; rintro e w3 ⟨hk3, b3, c3, rfl, n3⟩; have K3 := (Kept.refl W).drew.trans hk3; have H3 := hid' (Lent.mono n3 (Nat.le_trans HP.out.2 (Kept.refl W).drew.size)); clear n3; obtain ⟨d0, d1, d2, d3⟩ := rrow_all (HV.out _ K3).1)
  | (go_at_call_of 27 (Value.slice a2 k2 c2); refine (lent_any n a2 k2 c2 d _ (HA.out.2.1.kept (HV.out _ K3).2.2) HA.out.2.2.2).mono ?_; rintro e w4 ⟨hk4, b4, c4, rfl, n4⟩; have K4 := K3.trans hk4; have H4 := hid' (And.intro (Lent.mono n4 (Nat.le_trans HP.out.2 K3.size)) (H3.out.kept hk4)); clear n4; obtain ⟨g0, g1, g2, g3⟩ := rrow_all (HV.out _ K4).1; have z4 := (HV.out _ K4).2.1; have e0 := z4.c0; have e1 := z4.c1; have e2 := z4.c2; have e3 := z4.c3; have y0 := z4.fz 0; have y1 := z4.fz 1; have y2 := z4.fz 2; have y3 := z4.fz 3))
 have HZ := hid' (And.intro z4 (HV.out _ K4).2.2)
 clear q0 q1 q2 q3 d0 d1 d2 d3 g0 g1 g2 g3 hk3 hk4 K3 K4 HV z4
 go_wp2
 refine bodyPost_ret (v := .agg #[.bool m, .slice (some ⟨b3, 0, none⟩) k1 c3, .bool n, .slice (some ⟨b4, 0, none⟩) k2 c4]) (by simp [results, Tryz.results7, go_sem, e0, e1, e2, e3]) rfl ⟨Kept.put4 HZ.out.2 HP.out.1 _ _ _ _, b3, c3, b4, c4, rfl, Lent.rput4 H4.out.2 HZ.out.1 _ _ _ _, Lent.rput4 H4.out.1 HZ.out.1 _ _ _ _⟩
set_option maxRecDepth 100000 in
set_option maxHeartbeats 4000000 in
theorem rwhole_any {B : Nat} (m n : Bool) (b b' cap cap' : Nat) (a1 a2 : Option Addr) (k1 c1 k2 c2 : Nat) (a d : List Nat) (w : World) (h1 : Lent B w b k1 cap a) (h2 : Lent B w b' k2 cap' d) (h3 : Sl w (.slice a1 k1 c1) a) (h4 : Sl w (.slice a2 k2 c2) d) (hl1 : a.length ≤ 160) (hl2 : d.length ≤ 160) :
  Calls Tryz.prog 16 #[.agg #[.bool m, .slice (some ⟨b, 0, none⟩) k1 cap, .bool n, .slice (some ⟨b', 0, none⟩) k2 cap'], .agg #[.bool m, .slice a1 k1 c1, .bool n, .slice a2 k2 c2]] w fun e w' => e = .returned (.bool true) ∧ Kept w w' := by
 have HA : Hid (Lent B w b k1 cap a ∧ Lent B w b' k2 cap' d ∧ Sl w (.slice a1 k1 c1) a ∧ Sl w (.slice a2 k2 c2) d ∧ a.length ≤ 160 ∧ d.length ≤ 160) := ⟨h1, h2, h3, h4, hl1, hl2⟩
 obtain ⟨-, -, hc1, -, -⟩ := h1.at
 obtain ⟨-, -, hc2, -, -⟩ := h2.at
 have hk1 : k1 ≤ 160 := by rw [h1.1]; exact hl1
 have hk2 : k2 ≤ 160 := by rw [h2.1]; exact hl2
 clear h1 h2 h3 h4 hl1 hl2
 have K2 : ∀ x y, Kept w ((w.alloc x).alloc y) := fun x y => ((Kept.refl w).alloc x).alloc y
 have HK := hid' K2
 clear K2
 go_enter Tryz.func16, Tryz.ntmps16
 go_wp2_with fail
 go_quiet (fail)
 go_wp2_with fail
 refine (lsame_r m n _ _ _ _ a d _ (HA.out.1.sl.kept ((HK.out _ _).drewN _)) (HA.out.2.1.sl.kept ((HK.out _ _).drewN _)) (HA.out.2.2.1.kept ((HK.out _ _).drewN _)) (HA.out.2.2.2.1.kept ((HK.out _ _).drewN _)) (by have := HA.out; omega) (by have := HA.out; omega)).mono ?_
 rintro e w1 ⟨rfl, hk⟩
 have HK1 := hid' (((HK.out _ _).drewN _).trans hk)
 have f0 := (HA.out.1.kept HK1.out).at.2.2.2.2
 have f1 := (HA.out.2.1.kept HK1.out).at.2.2.2.2
 clear hk
 go_wp2
 go_ret
 exact ⟨rfl, HK1.out⟩
end F
end Go.Proofs.YtblpacgfgifkcaaGreat
