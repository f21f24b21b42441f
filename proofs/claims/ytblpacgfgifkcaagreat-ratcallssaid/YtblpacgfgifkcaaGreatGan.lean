/- rat.Make, of right parts. shuntref02.Same, of the same. rat.opposite: the same magnitude, of the other sign. cmp.Compare of ints. rat.beyondHalf: a rest's magnitude against what the denominator has beyond it. rat.onGrid. -/
import Derived.Test.YtblpacgfgifkcaaGreatGal
import Derived.Deep.RegionHeld3
namespace Go.Proofs.YtblpacgfgifkcaaGreat
open Go.RowKit
namespace F
def RatIs (B : Nat) (w : World) (v : Value) (x y : Int) : Prop :=
 ∃ s ao k c l t ap k' c' l', v = .agg #[.bool s, .slice ao k c, .bool t, .slice ap k' c'] ∧ New B w (.slice ao k c) l ∧ M.Right s l ∧ M.int s l = x ∧ New B w (.slice ap k' c') l' ∧ M.Right t l' ∧ M.int t l' = y
theorem over_ex {n m : Bool} {l a : List Nat} (h : M.val l ∣ M.val a) : ∃ z, z * M.int n l = M.int m a := by
 have h1 : M.int n l ∣ M.int m a := by
  apply Int.natAbs_dvd_natAbs.1
  rw [M.natAbs_int, M.natAbs_int]; exact h
 obtain ⟨z, hz⟩ := h1
 exact ⟨z, by rw [hz, Int.mul_comm]⟩
set_option maxHeartbeats 4000000 in
theorem make_r (m n : Bool) (aoa aob : Option Addr) (ka ca kb cb : Nat) (a b : List Nat) (w : World) (ha : Sl w (.slice aoa ka ca) a) (hb : Sl w (.slice aob kb cb) b) (hra : R m a) (hrb : R n b) (hb0 : 0 < b.length) :
  Calls Tryz.prog 17 #[.agg #[.bool m, .slice aoa ka ca], .agg #[.bool n, .slice aob kb cb]] w fun e w' => Kept w w' ∧ ∃ v x y, e = .returned (.tuple #[v, .int .i64 0]) ∧ RatIs w.heap.size w' v x y ∧ ∃ g : Int, g.natAbs = Nat.gcd (M.val a) (M.val b) ∧ x * g = M.int m a ∧ y * g = M.int n b ∧ (g < 0 ↔ M.int n b < 0) := by
 have HR : Hid (R m a ∧ R n b ∧ 0 < b.length) := ⟨hra, hrb, hb0⟩
 have HA : Hid (Sl w (.slice aoa ka ca) a ∧ Sl w (.slice aob kb cb) b) := ⟨ha, hb⟩
 obtain ⟨sb, hsb⟩ : ∃ sb, sb = isgn (M.int n b) 0 := ⟨_, rfl⟩
 have HN : Hid (sb = isgn (M.int n b) 0) := hsb
 have hvb := M.val_pos hrb.tr (fun e => by rw [e] at hb0; simp at hb0)
 have hs : ¬ sb = 0 := by
  rw [hsb]
  unfold isgn
  have := M.natAbs_int n b
  split
  ·
   omega
  ·
   rw [if_neg (by omega)]; omega
 have HV : Hid (0 < M.val b) := hvb
 clear ha hb hra hrb hb0 hsb hvb
 have K3 : ∀ x y t, Kept w (((w.alloc x).alloc y).alloc t) := fun x y t => (((Kept.refl w).alloc x).alloc y).alloc t
 go_enter Tryz.func17, Tryz.ntmps17
 go_wp2_with fail
 refine (gcd_any m n _ _ a b _ (HA.out.1.kept (K3 _ _ _)) (HA.out.2.kept (K3 _ _ _)) HR.out.1 HR.out.2.1).mono ?_
 rintro e w1 ⟨hk, ao, k, cap, l, rfl, hn, hr, hv⟩
 have HK : Hid (Kept w w1) := (K3 _ _ _).trans hk
 have hsz := hk.size
 simp at hsz
 have l1 : w.heap.size + 1 < w1.heap.size := by omega
 have l0 : w.heap.size < w1.heap.size := by omega
 have l2 : w.heap.size + 1 + 1 < w1.heap.size := by omega
 obtain ⟨hA0, hA1, hB0, hB1⟩ := box_kept2 (((Kept.refl _).alloc _).trans hk)
 have hR : ∀ o, o < 4 → w1.cell? ⟨w.heap.size + 1 + 1, o, none⟩ = (#[Value.bool false, .slice none 0 0, .bool false, .slice none 0 0])[o]? := fun o ho => by
  rw [hk.cells _ _ (by simp), World.cell?_alloc_at _ _ _ _ (by simp)]
 have hf3 : ∀ o, w1.frozen? ⟨w.heap.size + 1 + 1, o, none⟩ = false := fun o => by
  rw [hk.frozens (w.heap.size + 1 + 1) o (by simp)]
  exact World.frozen?_alloc_at _ _ _ _ (by simp)
 have HG : Hid (New (w.heap.size + 1 + 1 + 1) w1 (.slice ao k cap) l ∧ M.Right false l ∧ M.val l = Nat.gcd (M.val a) (M.val b)) := ⟨hn.mono (by simp), hr, hv⟩
 have HC : Hid ((w1.cell? ⟨w.heap.size, 0, none⟩ = some (.bool m) ∧ w1.cell? ⟨w.heap.size, 1, none⟩ = some (.slice aoa ka ca) ∧ w1.cell? ⟨w.heap.size + 1, 0, none⟩ = some (.bool n) ∧ w1.cell? ⟨w.heap.size + 1, 1, none⟩ = some (.slice aob kb cb)) ∧ (w1.cell? ⟨w.heap.size + 1 + 1, 0, none⟩ = some (.bool false) ∧ w1.cell? ⟨w.heap.size + 1 + 1, 1, none⟩ = some (.slice none 0 0) ∧ w1.cell? ⟨w.heap.size + 1 + 1, 2, none⟩ = some (.bool false) ∧ w1.cell? ⟨w.heap.size + 1 + 1, 3, none⟩ = some (.slice none 0 0)) ∧ (∀ o, w1.frozen? ⟨w.heap.size + 1 + 1, o, none⟩ = false)) := ⟨⟨hA0, hA1, hB0, hB1⟩, ⟨hR 0 (by omega), hR 1 (by omega), hR 2 (by omega), hR 3 (by omega)⟩, hf3⟩
 clear hk hn hr hv K3 hsz hR hf3 hA0 hA1
 go_wp2_with fail
 refine (sign_any n aob kb cb b _ (HA.out.2.kept (HK.out.alloc _)) HR.out.2.1).mono ?_
 rintro e w2 ⟨rfl, hk2⟩
 rw [← HN.out]
 obtain ⟨hX0, hX1⟩ := box_kept hk2
 have hfX : ∀ o, w2.frozen? ⟨w1.heap.size, o, none⟩ = false := fun o => by rw [hk2.frozens w1.heap.size o (by simp)]; exact World.frozen?_alloc_at _ _ _ _ rfl
 have hk12 : Kept w1 w2 := ((Kept.refl w1).alloc _).trans hk2
 have hsz2 := hk2.size
 simp at hsz2
 obtain ⟨p, hp⟩ : ∃ p, p = w1.heap.size := ⟨_, rfl⟩
 rw [← hp] at hX0 hX1 hfX l0 l1 l2 hsz2 ⊢
 have hY0 := cell_kept hk12 HC.out.1.2.2.1
 have hY1 := cell_kept hk12 HC.out.1.2.2.2
 have hW0 := cell_kept hk12 HC.out.1.1
 have hW1 := cell_kept hk12 HC.out.1.2.1
 have HD : Hid (Kept w w2 ∧ New (w.heap.size + 1 + 1 + 1) w2 (.slice ao k cap) l ∧ (w2.cell? ⟨w.heap.size + 1 + 1, 0, none⟩ = some (.bool false) ∧ w2.cell? ⟨w.heap.size + 1 + 1, 1, none⟩ = some (.slice none 0 0) ∧ w2.cell? ⟨w.heap.size + 1 + 1, 2, none⟩ = some (.bool false) ∧ w2.cell? ⟨w.heap.size + 1 + 1, 3, none⟩ = some (.slice none 0 0)) ∧ (∀ o, w2.frozen? ⟨w.heap.size + 1 + 1, o, none⟩ = false) ∧ p + 1 ≤ w2.heap.size) := ⟨HK.out.trans hk12, HG.out.1.kept hk12, ⟨cell_kept hk12 HC.out.2.1.1, cell_kept hk12 HC.out.2.1.2.1, cell_kept hk12 HC.out.2.1.2.2.1, cell_kept hk12 HC.out.2.1.2.2.2⟩, fun o => (hk12.frozens _ o (by omega)).trans (HC.out.2.2 o), hsz2⟩
 have HSl : Hid (∀ u, Sl (w2.setCell ⟨p, 0, none⟩ u) (.slice ao k cap) l) := fun u => HG.out.1.sl.kept (hk12.setCell (by show w1.heap.size ≤ p; omega) u)
 clear hk2 hk12 hB0 hB1 HC hp hsz2
 have hlen : 0 < l.length := by
  apply Classical.byContradiction
  intro h
  have h1 : l = [] := List.length_eq_zero_iff.1 (by omega)
  have h2 := HG.out.2.2
  have h3 := Nat.gcd_pos_of_pos_right (M.val a) HV.out
  rw [h1] at h2
  simp [M.val] at h2
  omega
 have HRl : Hid (R n l ∧ 0 < l.length) := ⟨⟨(R.of_right HG.out.2.1).1, fun h => by omega, (R.of_right HG.out.2.1).2.2⟩, hlen⟩
 obtain ⟨z1, HZ1⟩ : ∃ z, Hid (z * M.int n l = M.int m a) := over_ex (by rw [HG.out.2.2]; exact Nat.gcd_dvd_left _ _)
 obtain ⟨z2, HZ2⟩ : ∃ z, Hid (z * M.int n l = M.int n b) := over_ex (by rw [HG.out.2.2]; exact Nat.gcd_dvd_right _ _)
 clear hlen
 go_wp2_with fail
 have np0 : ¬ (p = w.heap.size) := by omega
 have np1 : ¬ (p = w.heap.size + 1) := by omega
 have np2 : ¬ (p = w.heap.size + 1 + 1) := by omega
 have c0 : (w2.setCell ⟨p, 0, none⟩ (.bool n)).cell? ⟨p, 0, none⟩ = some (.bool n) := World.cell?_setCell_same _ _ _ hX0
 have c1 : (w2.setCell ⟨p, 0, none⟩ (.bool n)).cell? ⟨p, 1, none⟩ = some (.slice ao k cap) := (World.cell?_setCell_other _ _ _ _ (by simp)).trans hX1
 have c2 : (w2.setCell ⟨p, 0, none⟩ (.bool n)).cell? ⟨w.heap.size, 0, none⟩ = some (.bool m) := (World.cell?_setCell_far _ _ _ _ np0).trans hW0
 have c3 : (w2.setCell ⟨p, 0, none⟩ (.bool n)).cell? ⟨w.heap.size, 1, none⟩ = some (.slice aoa ka ca) := (World.cell?_setCell_far _ _ _ _ np0).trans hW1
 have c4 : (w2.setCell ⟨p, 0, none⟩ (.bool n)).cell? ⟨w.heap.size + 1, 0, none⟩ = some (.bool n) := (World.cell?_setCell_far _ _ _ _ np1).trans hY0
 have c5 : (w2.setCell ⟨p, 0, none⟩ (.bool n)).cell? ⟨w.heap.size + 1, 1, none⟩ = some (.slice aob kb cb) := (World.cell?_setCell_far _ _ _ _ np1).trans hY1
 have HE : Hid (Kept w (w2.setCell ⟨p, 0, none⟩ (.bool n)) ∧ Sl (w2.setCell ⟨p, 0, none⟩ (.bool n)) (.slice ao k cap) l ∧ ((w2.setCell ⟨p, 0, none⟩ (.bool n)).cell? ⟨w.heap.size + 1 + 1, 0, none⟩ = some (.bool false) ∧ (w2.setCell ⟨p, 0, none⟩ (.bool n)).cell? ⟨w.heap.size + 1 + 1, 1, none⟩ = some (.slice none 0 0) ∧ (w2.setCell ⟨p, 0, none⟩ (.bool n)).cell? ⟨w.heap.size + 1 + 1, 2, none⟩ = some (.bool false) ∧ (w2.setCell ⟨p, 0, none⟩ (.bool n)).cell? ⟨w.heap.size + 1 + 1, 3, none⟩ = some (.slice none 0 0)) ∧ (∀ o, (w2.setCell ⟨p, 0, none⟩ (.bool n)).frozen? ⟨w.heap.size + 1 + 1, o, none⟩ = false) ∧ p + 1 ≤ (w2.setCell ⟨p, 0, none⟩ (.bool n)).heap.size) := by
  obtain ⟨d1, -, ⟨d3, d4, d5, d6⟩, d7, d8⟩ := HD.out
  refine ⟨d1.setCell (by show w.heap.size ≤ p; omega) _, HSl.out _, ⟨(World.cell?_setCell_far _ _ _ _ np2).trans d3, (World.cell?_setCell_far _ _ _ _ np2).trans d4, (World.cell?_setCell_far _ _ _ _ np2).trans d5, (World.cell?_setCell_far _ _ _ _ np2).trans d6⟩, fun o => by rw [World.frozen?_setCell]; exact d7 o, by simpa using d8⟩
 generalize w2.setCell ⟨p, 0, none⟩ (.bool n) = W at c0 c1 c2 c3 c4 c5 HE ⊢
 clear hX0 hX1 hfX hY0 hY1 hW0 hW1 HD HSl
 have nq0 : ¬ (w.heap.size + 1 + 1 = w.heap.size) := by omega
 have nq2 : ¬ (w.heap.size + 1 + 1 = p) := by omega
 go_region_held3 (fun w' => w'.cell? ⟨w.heap.size, 0, none⟩ = some (.bool m) ∧ w'.cell? ⟨w.heap.size, 1, none⟩ = some (.slice aoa ka ca) ∧ w'.cell? ⟨w.heap.size + 1, 0, none⟩ = some (.bool n) ∧ w'.cell? ⟨w.heap.size + 1, 1, none⟩ = some (.slice aob kb cb) ∧ w'.cell? ⟨p, 0, none⟩ = some (.bool n) ∧ w'.cell? ⟨p, 1, none⟩ = some (.slice ao k cap)) (go_keep) (first
  | (go_at_call_of 47 (Value.slice aoa ka ca); refine (exact_r m n (.slice aoa ka ca) (.slice ao k cap) a l z1 _ (HA.out.1.kept (HE.out.1.drew)) (HE.out.2.1.kept (Kept.refl _).drew) HR.out.1 HRl.out.1 HRl.out.2 HZ1.out).mono ?_; rintro e w3 ⟨hk3, s3, ao3, k3, cap3, l3, rfl, hn3, hr3, hi3⟩; have f0 := cell_kept ((Kept.refl W).drew.trans hk3) c0; have f1 := cell_kept ((Kept.refl W).drew.trans hk3) c1; have f2 := cell_kept ((Kept.refl W).drew.trans hk3) c2; have f3 := cell_kept ((Kept.refl W).drew.trans hk3) c3; have f4 := cell_kept ((Kept.refl W).drew.trans hk3) c4; have f5 := cell_kept ((Kept.refl W).drew.trans hk3) c5)
  | (go_at_call_of 47 (Value.slice aob kb cb); refine (exact_r n n (.slice aob kb cb) (.slice ao k cap) b l z2 _ (HA.out.2.kept (HE.out.1.drew.trans hk3)) (HE.out.2.1.kept ((Kept.refl _).drew.trans hk3)) HR.out.2.1 HRl.out.1 HRl.out.2 HZ2.out).mono ?_; rintro e w4 ⟨hk4, s4, ao4, k4, cap4, l4, rfl, hn4, hr4, hi4⟩; have g0 := cell_kept hk4 f0; have g1 := cell_kept hk4 f1; have g2 := cell_kept hk4 f2; have g3 := cell_kept hk4 f3; have g4 := cell_kept hk4 f4; have g5 := cell_kept hk4 f5; have hkW := ((Kept.refl W).drew.trans hk3).trans hk4; have r0 := cell_kept hkW HE.out.2.2.1.1; have r1 := cell_kept hkW HE.out.2.2.1.2.1; have r2 := cell_kept hkW HE.out.2.2.1.2.2.1; have r3 := cell_kept hkW HE.out.2.2.1.2.2.2; have rf : ∀ o, w4.frozen? ⟨w.heap.size + 1 + 1, o, none⟩ = false := fun o => (hkW.frozens _ o (by have := HE.out.2.2.2.2; omega)).trans (HE.out.2.2.2.1 o)))
 have hz3 := hk3.size
 simp only [World.drew] at hz3
 have HQ : Hid (Kept w w4 ∧ New W.heap.size w4 (.slice ao3 k3 cap3) l3 ∧ M.Right s3 l3 ∧ M.int s3 l3 = z1 ∧ New W.heap.size w4 (.slice ao4 k4 cap4) l4 ∧ M.Right s4 l4 ∧ M.int s4 l4 = z2) := ⟨HE.out.1.trans hkW, hn3.kept hk4, hr3, hi3, hn4.mono hz3, hr4, hi4⟩
 clear hkW hn3 hr3 hi3 hn4 hr4 hi4 hk3 hk4 hz3 f0 f1 f2 f3 f4 f5 g0 g1 g2 g3 g4 g5 c0 c1 c2 c3 c4 c5
 go_wp2
 obtain ⟨q1, q2, q3, q4, q5, q6, q7⟩ := HQ.out
 have hz := HE.out.2.2.2.2
 have o : ∀ {v : Value} {x : List Nat}, New W.heap.size w4 v x → New w.heap.size ((((w4.setCell ⟨w.heap.size + 1 + 1, 0, none⟩ (.bool s3)).setCell ⟨w.heap.size + 1 + 1, 1, none⟩ (.slice ao3 k3 cap3)).setCell ⟨w.heap.size + 1 + 1, 2, none⟩ (.bool s4)).setCell ⟨w.heap.size + 1 + 1, 3, none⟩ (.slice ao4 k4 cap4)) v x := fun h =>
  ((((h.other (by show w.heap.size + 1 + 1 < _; omega) _).other (by show w.heap.size + 1 + 1 < _; omega) _).other (by show w.heap.size + 1 + 1 < _; omega) _).other (by show w.heap.size + 1 + 1 < _; omega) _).mono (by omega)
 refine bodyPost_ret (v := .tuple #[.agg #[.bool s3, .slice ao3 k3 cap3, .bool s4, .slice ao4 k4 cap4], .int .i64 0]) (by simp [results, Tryz.results17, go_sem, r0, r1, r2, r3]) rfl ⟨?_, _, z1, z2, rfl, ⟨s3, ao3, k3, cap3, l3, s4, ao4, k4, cap4, l4, rfl, o q2, q3, q4, o q5, q6, q7⟩, M.int n l, ?_, HZ1.out, HZ2.out, ?_⟩
 ·
  exact (((q1.setCell (by show w.heap.size ≤ w.heap.size + 1 + 1; omega) _).setCell (by show w.heap.size ≤ w.heap.size + 1 + 1; omega) _).setCell (by show w.heap.size ≤ w.heap.size + 1 + 1; omega) _).setCell (by show w.heap.size ≤ w.heap.size + 1 + 1; omega) _
 ·
  rw [M.natAbs_int]; exact HG.out.2.2
 ·
  have h1 := HV.out
  have h2 : 0 < M.val l := by rw [HG.out.2.2]; exact Nat.gcd_pos_of_pos_right _ h1
  cases n <;> simp [M.int] <;> omega
end F
end Go.Proofs.YtblpacgfgifkcaaGreat

namespace Go.Proofs.YtblpacgfgifkcaaGreat
open Go.RowKit
namespace F
set_option maxHeartbeats 1000000 in
theorem same_r (m n : Bool) (va vb vc vd : Value) (a b : List Nat) (w : World) (ha : Sl w va a) (hb : Sl w vb b) (hc : Sl w vc a) (hd : Sl w vd b) (hla : a.length ≤ 1000) (hlb : b.length ≤ 1000) :
  Calls Tryz.prog 45 #[.agg #[.bool m, va, .bool n, vb], .agg #[.bool m, vc, .bool n, vd]] w fun e w' => e = .returned (.bool true) ∧ Kept w w' := by
 have HA : Hid (Sl w va a ∧ Sl w vb b ∧ Sl w vc a ∧ Sl w vd b ∧ a.length ≤ 1000 ∧ b.length ≤ 1000) := ⟨ha, hb, hc, hd, hla, hlb⟩
 clear ha hb hc hd hla hlb
 have K2 : ∀ x y, Kept w ((w.alloc x).alloc y) := fun x y => ((Kept.refl w).alloc x).alloc y
 go_enter Tryz.func45, Tryz.ntmps45
 go_wp2_with fail
 refine (same_yes m m va vc a a _ (HA.out.1.kept (K2 _ _)) (HA.out.2.2.1.kept (K2 _ _)) (by have := HA.out.2.2.2.2.1; omega) rfl rfl).mono ?_
 rintro e w1 ⟨rfl, hk⟩
 have HK : Hid (Kept w w1) := (K2 _ _).trans hk
 have c2 : w1.cell? ⟨w.heap.size, 2, none⟩ = some (.bool n) := by rw [hk.cells _ _ (by simp; omega)]; simp
 have c3 : w1.cell? ⟨w.heap.size, 3, none⟩ = some vb := by rw [hk.cells _ _ (by simp; omega)]; simp
 have d2 : w1.cell? ⟨w.heap.size + 1, 2, none⟩ = some (.bool n) := by rw [hk.cells _ _ (by simp)]; simp
 have d3 : w1.cell? ⟨w.heap.size + 1, 3, none⟩ = some vd := by rw [hk.cells _ _ (by simp)]; simp
 clear hk K2
 go_wp2_with fail
 refine (same_yes n n vb vd b b _ (HA.out.2.1.kept HK.out) (HA.out.2.2.2.1.kept HK.out) (by have := HA.out.2.2.2.2.2; omega) rfl rfl).mono ?_
 rintro e w2 ⟨rfl, hk2⟩
 have HK2 : Hid (Kept w w2) := HK.out.trans hk2
 clear hk2
 go_wp2
 go_ret
 exact ⟨rfl, HK2.out⟩
end F
end Go.Proofs.YtblpacgfgifkcaaGreat

namespace Go.Proofs.YtblpacgfgifkcaaGreat
open Go.RowKit
namespace F
set_option maxHeartbeats 2000000 in
theorem opposite_r (m n : Bool) (aoa aob : Option Addr) (ka ca kb cb : Nat) (w : World) :
  Calls Tryz.prog 30 #[.agg #[.bool m, .slice aoa ka ca, .bool n, .slice aob kb cb]] w fun e w' => e = .returned (.agg #[.bool (!m && decide (0 < ka)), .slice aoa ka ca, .bool n, .slice aob kb cb]) ∧ Kept w w' := by
 obtain ⟨s, hs⟩ : ∃ s, s = (!m && decide (0 < ka)) := ⟨_, rfl⟩
 rw [← hs]
 have HS : Hid (s = (!m && decide (0 < ka))) := hs
 clear hs
 have K2 : ∀ x y, Kept w ((w.alloc x).alloc y) := fun x y => ((Kept.refl w).alloc x).alloc y
 go_enter Tryz.func30, Tryz.ntmps30
 go_wp2_with fail
 have hB : ∀ W, Kept ((w.alloc (.cells #[.bool m, .slice aoa ka ca, .bool n, .slice aob kb cb] 26)).alloc (.cells #[.bool false, .slice none 0 0, .bool false, .slice none 0 0] 26)) W → (W.cell? ⟨w.heap.size, 0, none⟩ = some (.bool m) ∧ W.cell? ⟨w.heap.size, 1, none⟩ = some (.slice aoa ka ca) ∧ W.cell? ⟨w.heap.size, 2, none⟩ = some (.bool n) ∧ W.cell? ⟨w.heap.size, 3, none⟩ = some (.slice aob kb cb)) ∧ (W.cell? ⟨w.heap.size + 1, 0, none⟩ = some (.bool false) ∧ W.cell? ⟨w.heap.size + 1, 1, none⟩ = some (.slice none 0 0) ∧ W.cell? ⟨w.heap.size + 1, 2, none⟩ = some (.bool false) ∧ W.cell? ⟨w.heap.size + 1, 3, none⟩ = some (.slice none 0 0)) ∧ ∀ o, W.frozen? ⟨w.heap.size + 1, o, none⟩ = false := fun W hk => by
  refine ⟨⟨?_, ?_, ?_, ?_⟩, ⟨?_, ?_, ?_, ?_⟩, fun o => ?_⟩
  ·
   rw [hk.cells _ _ (by simp; omega)]; simp
  ·
   rw [hk.cells _ _ (by simp; omega)]; simp
  ·
   rw [hk.cells _ _ (by simp; omega)]; simp
  ·
   rw [hk.cells _ _ (by simp; omega)]; simp
  ·
   rw [hk.cells _ _ (by simp)]; simp
  ·
   rw [hk.cells _ _ (by simp)]; simp
  ·
   rw [hk.cells _ _ (by simp)]; simp
  ·
   rw [hk.cells _ _ (by simp)]; simp
  ·
   rw [hk.frozens (w.heap.size + 1) o (by simp)]; exact World.frozen?_alloc_at _ _ _ _ (by simp)
 have HB : Hid (∀ W, Kept ((w.alloc (.cells #[.bool m, .slice aoa ka ca, .bool n, .slice aob kb cb] 26)).alloc (.cells #[.bool false, .slice none 0 0, .bool false, .slice none 0 0] 26)) W → (W.cell? ⟨w.heap.size, 0, none⟩ = some (.bool m) ∧ W.cell? ⟨w.heap.size, 1, none⟩ = some (.slice aoa ka ca) ∧ W.cell? ⟨w.heap.size, 2, none⟩ = some (.bool n) ∧ W.cell? ⟨w.heap.size, 3, none⟩ = some (.slice aob kb cb)) ∧ (W.cell? ⟨w.heap.size + 1, 0, none⟩ = some (.bool false) ∧ W.cell? ⟨w.heap.size + 1, 1, none⟩ = some (.slice none 0 0) ∧ W.cell? ⟨w.heap.size + 1, 2, none⟩ = some (.bool false) ∧ W.cell? ⟨w.heap.size + 1, 3, none⟩ = some (.slice none 0 0)) ∧ ∀ o, W.frozen? ⟨w.heap.size + 1, o, none⟩ = false) := hB
 have HK : Hid (Kept w ((w.alloc (.cells #[.bool m, .slice aoa ka ca, .bool n, .slice aob kb cb] 26)).alloc (.cells #[.bool false, .slice none 0 0, .bool false, .slice none 0 0] 26))) := K2 _ _
 clear hB K2
 go_region_held3 (fun w' => w'.cell? ⟨w.heap.size, 0, none⟩ = some (.bool m) ∧ w'.cell? ⟨w.heap.size, 1, none⟩ = some (.slice aoa ka ca) ∧ w'.cell? ⟨w.heap.size, 2, none⟩ = some (.bool n) ∧ w'.cell? ⟨w.heap.size, 3, none⟩ = some (.slice aob kb cb)) (go_keep) (first | (go_at_call 74; refine (signed_r (!m) m aoa ka ca _).mono ?_; rw [← HS.out]; rintro e w1 ⟨rfl, hk1⟩; obtain ⟨⟨hA0, hA1, hA2, hA3⟩, ⟨hR0, hR1, hR2, hR3⟩, hf⟩ := HB.out _ ((Kept.refl _).drew.trans hk1); have HK1 : Hid (Kept w w1) := HK.out.drew.trans hk1))
 go_wp2
 refine bodyPost_ret (v := .agg #[.bool s, .slice aoa ka ca, .bool n, .slice aob kb cb]) (by simp [results, Tryz.results30, go_sem, hR0, hR1, hR2, hR3]) rfl ⟨rfl, ?_⟩
 exact (((HK1.out.setCell (by show w.heap.size ≤ w.heap.size + 1; omega) _).setCell (by show w.heap.size ≤ w.heap.size + 1; omega) _).setCell (by show w.heap.size ≤ w.heap.size + 1; omega) _).setCell (by show w.heap.size ≤ w.heap.size + 1; omega) _
end F
end Go.Proofs.YtblpacgfgifkcaaGreat

namespace Go.Proofs.YtblpacgfgifkcaaGreat
open Go.RowKit
namespace F
set_option maxHeartbeats 1000000 in
theorem nan_r (x : Int) (w : World) : Calls Tryz.prog 76 #[.int .i64 x] w fun e w' => e = .returned (.bool false) ∧ Kept w w' := by
 go_enter Tryz.func76, Tryz.ntmps76
 go_wp2
 go_ret
 exact ⟨rfl, Kept.refl w⟩
set_option maxRecDepth 100000 in
set_option maxHeartbeats 1000000 in
theorem Compare_r (x y : Int) (w : World) : Calls Tryz.prog 34 #[.int .i64 x, .int .i64 y] w fun e w' => e = .returned (.int .i64 (isgn x y)) ∧ Kept w w' := by
 obtain ⟨z, HX⟩ : ∃ z, Hid (z = isgn x y) := ⟨_, rfl⟩
 rw [← HX.out]
 rcases Int.lt_trichotomy x y with h | rfl | h
 all_goals
  go_enter Tryz.func34, Tryz.ntmps34
  go_wp2_with fail
  refine (nan_r _ _).mono ?_
  rintro e w1 ⟨rfl, hk1⟩
  have HK1 := hk1
  clear hk1
  go_wp2_with fail
  refine (nan_r _ _).mono ?_
  rintro e w2 ⟨rfl, hk2⟩
  have HK : Hid (Kept w w2) := HK1.trans hk2
  clear hk2 HK1
  go_wp2
  go_ret
  exact ⟨ret_i64 (by rw [HX.out]; unfold isgn; split <;> (try split) <;> omega), HK.out⟩
end F
end Go.Proofs.YtblpacgfgifkcaaGreat

namespace Go.Proofs.YtblpacgfgifkcaaGreat
open Go.RowKit
namespace F
set_option maxHeartbeats 2000000 in
theorem beyondHalf_r (m : Bool) (aoa aob : Option Addr) (ka ca kb cb : Nat) (a b : List Nat) (w : World) (ha : Sl w (.slice aoa ka ca) a) (hb : Sl w (.slice aob kb cb) b) (hra : R m a) (hrb : R false b) (hlt : M.val a ≤ M.val b) :
  Calls Tryz.prog 53 #[.agg #[.bool m, .slice aoa ka ca], .agg #[.bool false, .slice aob kb cb]] w fun e w' => e = .returned (.int .i64 (isgn (M.val a) ((M.val b : Int) - M.val a))) ∧ Kept w w' := by
 have HR : Hid (R false a ∧ R false b ∧ M.val a ≤ M.val b) := ⟨⟨hra.1, fun _ => rfl, hra.2.2⟩, hrb, hlt⟩
 have HA : Hid (Sl w (.slice aoa ka ca) a ∧ Sl w (.slice aob kb cb) b) := ⟨ha, hb⟩
 clear ha hb hra hrb hlt
 have K2 : ∀ x y, Kept w ((w.alloc x).alloc y) := fun x y => ((Kept.refl w).alloc x).alloc y
 go_enter Tryz.func53, Tryz.ntmps53
 go_wp2_with fail
 refine (sub_any false false _ _ b a _ (HA.out.2.kept (K2 _ _)) (HA.out.1.kept (K2 _ _)) HR.out.2.1 HR.out.1).mono ?_
 rintro e w1 ⟨hk, s, ao, k, cap, c, rfl, hF⟩
 have hB := box_kept2 hk
 obtain ⟨hA0, hA1, -, -⟩ := hB
 have hFin : ∃ l, Hid (New w.heap.size w1 (.slice ao k cap) l ∧ M.Right s l ∧ M.int s l = (M.val b : Int) - M.val a) := by
  have e1 : M.int false b - M.int false a = (M.val b : Int) - M.val a := by simp [M.int]
  rw [e1] at hF
  rcases hF with ⟨_, l, h1, h2, h3⟩ | ⟨_, _, _, h⟩
  ·
   exact ⟨l, h1.mono (by simp; omega), h2, h3⟩
  ·
   exfalso
   have h4 := HR.out.2.2
   have h5 : M.val b < M.W72 := M.lt_W72 HA.out.2.bd HR.out.2.1.1
   omega
 obtain ⟨l, HL⟩ := hFin
 have HK : Hid (Kept w w1) := (K2 _ _).trans hk
 have hsz := hk.size
 simp at hsz
 have hlt1 : w.heap.size < w1.heap.size := by omega
 clear hk hF K2 hsz
 go_wp2_with fail
 refine (icmp_any false s _ _ a l _ (HA.out.1.kept (HK.out.alloc _)) (HL.out.1.sl.kept ((Kept.refl _).alloc _)) HR.out.1 (R.of_right HL.out.2.1)).mono ?_
 rintro e w2 ⟨rfl, hk2⟩
 have HK2 : Hid (Kept w w2) := (HK.out.alloc _).trans hk2
 clear hk2
 go_wp2
 go_ret
 exact ⟨ret_i64 (by rw [HL.out.2.2]; simp [M.int]), HK2.out⟩
end F
end Go.Proofs.YtblpacgfgifkcaaGreat

namespace Go.Proofs.YtblpacgfgifkcaaGreat
open Go.RowKit
namespace F
set_option maxHeartbeats 1000000 in
theorem onGrid_r (n : Int) (w : World) :
  Calls Tryz.prog 54 #[.int .i64 n] w fun e w' => e = .returned (.bool (decide (-1000000000000000000 ≤ n ∧ n ≤ 1000000000000000000))) ∧ Kept w w' := by
 by_cases h1 : -1000000000000000000 ≤ n <;> by_cases h2 : n ≤ 1000000000000000000
 all_goals
  go_enter Tryz.func54, Tryz.ntmps54
  go_wp2
  go_ret
  exact ⟨ret_bool (by simp [h1, h2]), Kept.refl w⟩
end F
end Go.Proofs.YtblpacgfgifkcaaGreat
