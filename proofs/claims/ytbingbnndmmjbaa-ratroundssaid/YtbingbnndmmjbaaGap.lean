/- rat.sum, of right fractions, told by what it is. rat.Add, of right fractions. rat.Sub of right fractions. -/
import Derived.Test.YtbingbnndmmjbaaFsum
import Derived.Test.YtbingbnndmmjbaaGao
import Derived.Test.YtbingbnndmmjbaaGan
namespace Go.Proofs.Ytbingbnndmmjbaa
open Go.RowKit
namespace F

/-- The sum xA / yA + xB / yB is N / D, in lowest terms. -/
structure IsSum (xA : Int) (yA : Nat) (xB : Int) (yB : Nat) (N : Int) (D : Nat) : Prop where
  pos : 0 < D
  low : Nat.Coprime N.natAbs D
  eq : N * (yA * yB) = (xA * yB + xB * yA) * D

theorem sum_r (m nA n nB : Bool) (a1 a2 b1 b2 : Option Addr) (k1 c1 k2 c2 k3 c3 k4 c4 : Nat) (an ad bn bd : List Nat) (w : World)
    (ha : Sl w (.slice a1 k1 c1) an) (had : Sl w (.slice a2 k2 c2) ad) (hb : Sl w (.slice b1 k3 c3) bn) (hbd : Sl w (.slice b2 k4 c4) bd) (hA : RatR m nA an ad) (hB : RatR n nB bn bd) :
    Calls Try.prog 29 #[.agg #[.bool m, .slice a1 k1 c1, .bool nA, .slice a2 k2 c2], .agg #[.bool n, .slice b1 k3 c3, .bool nB, .slice b2 k4 c4]] w fun e w' => Kept w w' ∧ ∃ N D, IsSum (M.int m an) (M.val ad) (M.int n bn) (M.val bd) N D ∧ SumIs w.heap.size w' e N D := by
  obtain rfl := hA.sgn
  obtain rfl := hB.sgn
  obtain ⟨g, hg⟩ : ∃ g, Nat.gcd (M.val ad) (M.val bd) = g := ⟨_, rfl⟩
  have g0 : 0 < g := by rw [← hg]; exact Nat.gcd_pos_of_pos_left _ hA.vpos
  obtain ⟨oA, hoA⟩ : g ∣ M.val ad := by rw [← hg]; exact Nat.gcd_dvd_left _ _
  obtain ⟨oB, hoB⟩ : g ∣ M.val bd := by rw [← hg]; exact Nat.gcd_dvd_right _ _
  have a0 : 0 < oA := by
    rcases Nat.eq_zero_or_pos oA with h | h
    · have := hA.vpos; rw [hoA, h] at this; simp at this
    · exact h
  have b0 : 0 < oB := by
    rcases Nat.eq_zero_or_pos oB with h | h
    · have := hB.vpos; rw [hoB, h] at this; simp at this
    · exact h
  have co : Nat.Coprime oA oB := by
    have h := Nat.coprime_div_gcd_div_gcd (m := M.val ad) (n := M.val bd) (by rw [hg]; exact g0)
    rw [hg] at h
    rw [hoA, hoB, Nat.mul_div_cancel_left _ g0, Nat.mul_div_cancel_left _ g0] at h
    exact h
  have par : FM.Par (M.int m an) (M.int n bn) g oA oB := ⟨g0, a0, b0, co, by rw [M.natAbs_int, ← hoA]; exact hA.low, by rw [M.natAbs_int, ← hoB]; exact hB.low⟩
  obtain ⟨t, g', N, ht, ht0, hgt, hS, hD, hc, he⟩ := par.reduced
  refine (sum_q m n a1 a2 b1 b2 k1 c1 k2 c2 k3 c3 k4 c4 an ad bn bd w g oA oB t g' N ha had hb hbd hA.ra hA.rd hB.ra hB.rd par hg hoA hoB ht ht0 hgt hS hD).mono ?_
  rintro e w' ⟨h1, h2⟩
  refine ⟨h1, N, _, ⟨hD, hc, ?_⟩, h2⟩
  rw [hoA, hoB]
  simp only [Int.natCast_mul]
  rw [← Int.mul_assoc]
  exact he

end F
end Go.Proofs.Ytbingbnndmmjbaa

namespace Go.Proofs.Ytbingbnndmmjbaa
open Go.RowKit
namespace F

set_option maxHeartbeats 4000000 in
theorem Add_ok (m nA n nB : Bool) (a1 a2 b1 b2 : Option Addr) (k1 c1 k2 c2 k3 c3 k4 c4 : Nat) (an ad bn bd : List Nat) (w : World)
    (ha : Sl w (.slice a1 k1 c1) an) (had : Sl w (.slice a2 k2 c2) ad) (hb : Sl w (.slice b1 k3 c3) bn) (hbd : Sl w (.slice b2 k4 c4) bd) (hA : RatR m nA an ad) (hB : RatR n nB bn bd) :
    Calls Try.prog 18 #[.agg #[.bool m, .slice a1 k1 c1, .bool nA, .slice a2 k2 c2], .agg #[.bool n, .slice b1 k3 c3, .bool nB, .slice b2 k4 c4]] w fun e w' => Kept w w' ∧ ∃ N D, IsSum (M.int m an) (M.val ad) (M.int n bn) (M.val bd) N D ∧ SumIs w.heap.size w' e N D := by
  have HA : Hid (Sl w (.slice a1 k1 c1) an ∧ Sl w (.slice a2 k2 c2) ad ∧ Sl w (.slice b1 k3 c3) bn ∧ Sl w (.slice b2 k4 c4) bd) := ⟨ha, had, hb, hbd⟩
  have HR : Hid (RatR m nA an ad ∧ RatR n nB bn bd) := ⟨hA, hB⟩
  have HL : Hid (an.length ≤ 72 ∧ ad.length ≤ 72 ∧ bn.length ≤ 72 ∧ bd.length ≤ 72) := ⟨hA.ra.1, hA.rd.1, hB.ra.1, hB.rd.1⟩
  clear ha had hb hbd hA hB
  have K4 : ∀ x y t u, Kept w ((((w.alloc x).alloc y).alloc t).alloc u) := fun x y t u => ((((Kept.refl w).alloc x).alloc y).alloc t).alloc u
  go_enter Try.func18, Try.ntmps18
  go_wp2_with fail
  refine (refusal_any _ (w.heap.size + 1 + 1 + 1) 0 2 2 _ _ _ _ _ _ _ _ _ _ _ (fun _ => rfl) (by omega) (RatAll.two (m := m) (n := nA) (p := n) (q := nB) (a1 := a1) (a2 := a2) (b1 := b1) (b2 := b2) (k1 := k1) (c1 := c1) (k2 := k2) (c2 := c2) (k3 := k3) (c3 := c3) (k4 := k4) (c4 := c4) (by rw [World.cell?_alloc_at _ _ _ _ (by simp)]; rfl) (by rw [World.cell?_alloc_at _ _ _ _ (by simp)]; rfl) (by rw [World.cell?_alloc_at _ _ _ _ (by simp)]; rfl) (by rw [World.cell?_alloc_at _ _ _ _ (by simp)]; rfl) (by rw [World.cell?_alloc_at _ _ _ _ (by simp)]; rfl) (by rw [World.cell?_alloc_at _ _ _ _ (by simp)]; rfl) (by rw [World.cell?_alloc_at _ _ _ _ (by simp)]; rfl) (by rw [World.cell?_alloc_at _ _ _ _ (by simp)]; rfl) (HA.out.1.kept (K4 _ _ _ _)) (HA.out.2.1.kept (K4 _ _ _ _)) (HA.out.2.2.1.kept (K4 _ _ _ _)) (HA.out.2.2.2.kept (K4 _ _ _ _)) (by have := HL.out; omega) (by have := HL.out; omega) (by have := HL.out; omega) (by have := HL.out; omega))).mono ?_
  rintro e w1 ⟨hk, c, rfl, hc⟩
  obtain rfl : c = 0 := Refused.two HR.out.1 HR.out.2 hc
  clear hc
  have rA := (RRow.alloc w (.bool m) (.slice a1 k1 c1) (.bool nA) (.slice a2 k2 c2))
  have rB := (RRow.alloc (w.alloc (.cells #[.bool m, .slice a1 k1 c1, .bool nA, .slice a2 k2 c2] 26)) (.bool n) (.slice b1 k3 c3) (.bool nB) (.slice b2 k4 c4))
  have rZ := (RRow.alloc ((w.alloc (.cells #[.bool m, .slice a1 k1 c1, .bool nA, .slice a2 k2 c2] 26)).alloc (.cells #[.bool n, .slice b1 k3 c3, .bool nB, .slice b2 k4 c4] 26)) (.bool false) (.slice none 0 0) (.bool false) (.slice none 0 0))
  have rA := rA.kept (((((Kept.refl _).alloc _).alloc _).alloc _).trans hk)
  have rB := rB.kept ((((Kept.refl _).alloc _).alloc _).trans hk)
  have rZ := rZ.kept (((Kept.refl _).alloc _).trans hk)
  simp only [World.size_alloc] at rB rZ
  have HK : Hid (Kept w w1) := (K4 _ _ _ _).trans hk
  have a0 := rA.c0
  have a1' := rA.c1
  have a2' := rA.c2
  have a3 := rA.c3
  have b0 := rB.c0
  have b1' := rB.c1
  have b2' := rB.c2
  have b3 := rB.c3
  clear rA rB hk K4
  go_wp2_with fail
  refine (sum_r m nA n nB a1 a2 b1 b2 k1 c1 k2 c2 k3 c3 k4 c4 an ad bn bd _ (HA.out.1.kept HK.out) (HA.out.2.1.kept HK.out) (HA.out.2.2.1.kept HK.out) (HA.out.2.2.2.kept HK.out) HR.out.1 HR.out.2).mono ?_
  rintro e w2 ⟨hk2, N, D, hs, hS⟩
  have HS := hid hs
  have HZ : Hid (w.heap.size + 1 + 1 < w1.heap.size) := rZ.lt
  have rZ := rZ.kept hk2
  have i0 := rZ.c0
  have i1 := rZ.c1
  have i2 := rZ.c2
  have i3 := rZ.c3
  have o0 := rZ.fz 0
  have o1 := rZ.fz 1
  have o2 := rZ.fz 2
  have o3 := rZ.fz 3
  have HK2 : Hid (Kept w w2) := HK.out.trans hk2
  clear hs hk2 rZ a0 a1' a2' a3 b0 b1' b2' b3
  rcases hS with ⟨v, rfl, s, ao, k, c, l, t, ap, k', c', l', rfl, n1, r1, v1, n2, r2, v2⟩ | ⟨rfl, hw⟩
  · have HN : Hid (New w1.heap.size w2 (.slice ao k c) l ∧ M.Right s l ∧ M.int s l = N ∧ New w1.heap.size w2 (.slice ap k' c') l' ∧ M.Right t l' ∧ M.int t l' = D) := ⟨n1, r1, v1, n2, r2, v2⟩
    clear n1 r1 v1 n2 r2 v2
    go_wp2
    have hz := HZ.out
    obtain ⟨n1, r1, v1, n2, r2, v2⟩ := HN.out
    refine bodyPost_ret (v := .tuple #[.agg #[.bool s, .slice ao k c, .bool t, .slice ap k' c'], .int .i64 0]) (by simp [results, Try.results18, go_sem, i0, i1, i2, i3]) rfl ⟨?_, N, D, HS.out, .inl ⟨_, rfl, s, ao, k, c, l, t, ap, k', c', l', rfl, (set4 n1 (by omega) _ _ _ _).mono (by omega), r1, v1, (set4 n2 (by omega) _ _ _ _).mono (by omega), r2, v2⟩⟩
    exact (((HK2.out.setCell (by show w.heap.size ≤ w.heap.size + 1 + 1; omega) _).setCell (by show w.heap.size ≤ w.heap.size + 1 + 1; omega) _).setCell (by show w.heap.size ≤ w.heap.size + 1 + 1; omega) _).setCell (by show w.heap.size ≤ w.heap.size + 1 + 1; omega) _
  · have HX := hid hw
    clear hw
    go_wp2
    refine bodyPost_ret (v := .tuple #[.agg #[.bool false, .slice none 0 0, .bool false, .slice none 0 0], .int .i64 13]) (by simp [results, Try.results18, go_sem, i0, i1, i2, i3]) rfl ⟨?_, N, D, HS.out, .inr ⟨rfl, HX.out⟩⟩
    exact (((HK2.out.setCell (by show w.heap.size ≤ w.heap.size + 1 + 1; omega) _).setCell (by show w.heap.size ≤ w.heap.size + 1 + 1; omega) _).setCell (by show w.heap.size ≤ w.heap.size + 1 + 1; omega) _).setCell (by show w.heap.size ≤ w.heap.size + 1 + 1; omega) _

end F
end Go.Proofs.Ytbingbnndmmjbaa

namespace Go.Proofs.Ytbingbnndmmjbaa
open Go.RowKit
namespace F

theorem opp_R {n nB : Bool} {bn bd : List Nat} (h : RatR n nB bn bd) : RatR (!n && decide (0 < bn.length)) nB bn bd ∧ M.int (!n && decide (0 < bn.length)) bn = -M.int n bn := by
  refine ⟨⟨⟨h.ra.1, fun e => by simp [e], h.ra.2.2⟩, h.rd, h.pos, h.low⟩, ?_⟩
  by_cases h0 : 0 < bn.length
  · cases n <;> simp [h0, M.int]
  · have : bn = [] := List.length_eq_zero_iff.1 (by omega)
    subst this
    cases n <;> simp [M.int, M.val]

theorem SumIs.form {B : Nat} {w : World} {e : Ending} {N : Int} {D : Nat} (h : SumIs B w e N D) : ∃ (y0 y2 : Bool) (z1 z3 : Option Addr) (j1 e1 j3 e3 : Nat) (er : Int), e = .returned (.tuple #[.agg #[.bool y0, .slice z1 j1 e1, .bool y2, .slice z3 j3 e3], .int .i64 er]) := by
  rcases h with ⟨v, rfl, s, ao, k, c, l, t, ap, k', c', l', rfl, _⟩ | ⟨rfl, _⟩
  · exact ⟨_, _, _, _, _, _, _, _, _, rfl⟩
  · exact ⟨_, _, _, _, _, _, _, _, _, rfl⟩

theorem SumIs.set4 {B p : Nat} {w : World} {e : Ending} {N : Int} {D : Nat} (h : SumIs B w e N D) (hp : p < B) (x0 x1 x2 x3 : Value) : SumIs B ((((w.setCell ⟨p, 0, none⟩ x0).setCell ⟨p, 1, none⟩ x1).setCell ⟨p, 2, none⟩ x2).setCell ⟨p, 3, none⟩ x3) e N D := by
  rcases h with ⟨v, rfl, s, ao, k, c, l, t, ap, k', c', l', rfl, n1, r1, v1, n2, r2, v2⟩ | h
  · exact .inl ⟨_, rfl, s, ao, k, c, l, t, ap, k', c', l', rfl, F.set4 n1 hp _ _ _ _, r1, v1, F.set4 n2 hp _ _ _ _, r2, v2⟩
  · exact .inr h

theorem SumIs.mono {B B' : Nat} {w : World} {e : Ending} {N : Int} {D : Nat} (h : SumIs B w e N D) (hB : B' ≤ B) : SumIs B' w e N D := by
  rcases h with ⟨v, rfl, s, ao, k, c, l, t, ap, k', c', l', rfl, n1, r1, v1, n2, r2, v2⟩ | h
  · exact .inl ⟨_, rfl, s, ao, k, c, l, t, ap, k', c', l', rfl, n1.mono hB, r1, v1, n2.mono hB, r2, v2⟩
  · exact .inr h

set_option maxHeartbeats 4000000 in
theorem Sub_ok (m nA n nB : Bool) (a1 a2 b1 b2 : Option Addr) (k1 c1 k2 c2 k3 c3 k4 c4 : Nat) (an ad bn bd : List Nat) (w : World)
    (ha : Sl w (.slice a1 k1 c1) an) (had : Sl w (.slice a2 k2 c2) ad) (hb : Sl w (.slice b1 k3 c3) bn) (hbd : Sl w (.slice b2 k4 c4) bd) (hA : RatR m nA an ad) (hB : RatR n nB bn bd) :
    Calls Try.prog 11 #[.agg #[.bool m, .slice a1 k1 c1, .bool nA, .slice a2 k2 c2], .agg #[.bool n, .slice b1 k3 c3, .bool nB, .slice b2 k4 c4]] w fun e w' => Kept w w' ∧ ∃ N D, IsSum (M.int m an) (M.val ad) (-M.int n bn) (M.val bd) N D ∧ SumIs w.heap.size w' e N D := by
  have HA : Hid (Sl w (.slice a1 k1 c1) an ∧ Sl w (.slice a2 k2 c2) ad ∧ Sl w (.slice b1 k3 c3) bn ∧ Sl w (.slice b2 k4 c4) bd) := ⟨ha, had, hb, hbd⟩
  have HR : Hid (RatR m nA an ad ∧ RatR n nB bn bd) := ⟨hA, hB⟩
  have HL : Hid (an.length ≤ 72 ∧ ad.length ≤ 72 ∧ bn.length ≤ 72 ∧ bd.length ≤ 72) := ⟨hA.ra.1, hA.rd.1, hB.ra.1, hB.rd.1⟩
  have eb := hb.len
  obtain ⟨s, HS⟩ : ∃ s, Hid ((!n && decide (0 < k3)) = s) := ⟨_, rfl⟩
  have HO : Hid (RatR s nB bn bd ∧ M.int s bn = -M.int n bn) := by
    have h := opp_R hB
    rw [← eb, HS.out] at h
    exact h
  clear ha had hb hbd hA hB eb
  have K4 : ∀ x y t u, Kept w ((((w.alloc x).alloc y).alloc t).alloc u) := fun x y t u => ((((Kept.refl w).alloc x).alloc y).alloc t).alloc u
  go_enter Try.func11, Try.ntmps11
  go_wp2_with fail
  refine (refusal_any _ (w.heap.size + 1 + 1 + 1) 0 2 2 _ _ _ _ _ _ _ _ _ _ _ (fun _ => rfl) (by omega) (RatAll.two (m := m) (n := nA) (p := n) (q := nB) (a1 := a1) (a2 := a2) (b1 := b1) (b2 := b2) (k1 := k1) (c1 := c1) (k2 := k2) (c2 := c2) (k3 := k3) (c3 := c3) (k4 := k4) (c4 := c4) (by rw [World.cell?_alloc_at _ _ _ _ (by simp)]; rfl) (by rw [World.cell?_alloc_at _ _ _ _ (by simp)]; rfl) (by rw [World.cell?_alloc_at _ _ _ _ (by simp)]; rfl) (by rw [World.cell?_alloc_at _ _ _ _ (by simp)]; rfl) (by rw [World.cell?_alloc_at _ _ _ _ (by simp)]; rfl) (by rw [World.cell?_alloc_at _ _ _ _ (by simp)]; rfl) (by rw [World.cell?_alloc_at _ _ _ _ (by simp)]; rfl) (by rw [World.cell?_alloc_at _ _ _ _ (by simp)]; rfl) (HA.out.1.kept (K4 _ _ _ _)) (HA.out.2.1.kept (K4 _ _ _ _)) (HA.out.2.2.1.kept (K4 _ _ _ _)) (HA.out.2.2.2.kept (K4 _ _ _ _)) (by have := HL.out; omega) (by have := HL.out; omega) (by have := HL.out; omega) (by have := HL.out; omega))).mono ?_
  rintro e w1 ⟨hk, c, rfl, hc⟩
  obtain rfl : c = 0 := Refused.two HR.out.1 HR.out.2 hc
  clear hc
  have rA := (RRow.alloc w (.bool m) (.slice a1 k1 c1) (.bool nA) (.slice a2 k2 c2))
  have rB := (RRow.alloc (w.alloc (.cells #[.bool m, .slice a1 k1 c1, .bool nA, .slice a2 k2 c2] 26)) (.bool n) (.slice b1 k3 c3) (.bool nB) (.slice b2 k4 c4))
  have rZ := (RRow.alloc ((w.alloc (.cells #[.bool m, .slice a1 k1 c1, .bool nA, .slice a2 k2 c2] 26)).alloc (.cells #[.bool n, .slice b1 k3 c3, .bool nB, .slice b2 k4 c4] 26)) (.bool false) (.slice none 0 0) (.bool false) (.slice none 0 0))
  have rA := rA.kept (((((Kept.refl _).alloc _).alloc _).alloc _).trans hk)
  have rB := rB.kept ((((Kept.refl _).alloc _).alloc _).trans hk)
  have rZ := rZ.kept (((Kept.refl _).alloc _).trans hk)
  simp only [World.size_alloc] at rB rZ
  have HK : Hid (Kept w w1) := (K4 _ _ _ _).trans hk
  obtain ⟨p4, hp4⟩ : ∃ p, p = w.heap.size + 1 + 1 := ⟨_, rfl⟩
  rw [← hp4] at rZ ⊢
  obtain ⟨p3, hp3⟩ : ∃ p, p = w.heap.size + 1 := ⟨_, rfl⟩
  rw [← hp3] at rB ⊢
  obtain ⟨p2, hp2⟩ : ∃ p, p = w.heap.size := ⟨_, rfl⟩
  rw [← hp2] at rA ⊢
  have HP : Hid (p4 = w.heap.size + 1 + 1 ∧ p4 < w1.heap.size) := ⟨hp4, rZ.lt⟩
  have n42 : ¬ (p4 = p2) := by omega
  have n43 : ¬ (p4 = p3) := by omega
  have HV : Hid (∀ V, Kept w1 V → RRow V p2 (.bool m) (.slice a1 k1 c1) (.bool nA) (.slice a2 k2 c2) ∧ RRow V p3 (.bool n) (.slice b1 k3 c3) (.bool nB) (.slice b2 k4 c4) ∧ RRow V p4 (.bool false) (.slice none 0 0) (.bool false) (.slice none 0 0)) := fun V hV => ⟨rA.kept hV, rB.kept hV, rZ.kept hV⟩
  have f0 := rA.c0
  have f1 := rA.c1
  have f2 := rA.c2
  have f3 := rA.c3
  have f4 := rB.c0
  have f5 := rB.c1
  have f6 := rB.c2
  have f7 := rB.c3
  clear rA rB rZ hk K4 hp4 hp3 hp2
  go_wp2_with fail
  go_region_held3 (fun w' => w'.cell? ⟨p2, 0, none⟩ = some (.bool m) ∧ w'.cell? ⟨p2, 1, none⟩ = some (.slice a1 k1 c1) ∧ w'.cell? ⟨p2, 2, none⟩ = some (.bool nA) ∧ w'.cell? ⟨p2, 3, none⟩ = some (.slice a2 k2 c2) ∧ w'.cell? ⟨p3, 0, none⟩ = some (.bool n) ∧ w'.cell? ⟨p3, 1, none⟩ = some (.slice b1 k3 c3) ∧ w'.cell? ⟨p3, 2, none⟩ = some (.bool nB) ∧ w'.cell? ⟨p3, 3, none⟩ = some (.slice b2 k4 c4)) (go_keep) (first
    | (go_at_call 27; refine (opposite_r n nB b1 b2 k3 c3 k4 c4 _).mono ?_; rw [HS.out]; rintro e w2 ⟨rfl, hk2⟩; have K2 := (Kept.refl w1).drew.trans hk2; have d0 := (HV.out _ K2).1.c0; have d1 := (HV.out _ K2).1.c1; have d2 := (HV.out _ K2).1.c2; have d3 := (HV.out _ K2).1.c3; have d4 := (HV.out _ K2).2.1.c0; have d5 := (HV.out _ K2).2.1.c1; have d6 := (HV.out _ K2).2.1.c2; have d7 := (HV.out _ K2).2.1.c3)
    | (go_at_call 29; refine (sum_r m nA s nB a1 a2 b1 b2 k1 c1 k2 c2 k3 c3 k4 c4 an ad bn bd _ (HA.out.1.kept (HK.out.trans K2)) (HA.out.2.1.kept (HK.out.trans K2)) (HA.out.2.2.1.kept (HK.out.trans K2)) (HA.out.2.2.2.kept (HK.out.trans K2)) HR.out.1 HO.out.1).mono ?_; rw [HO.out.2]; rintro e w3 ⟨hk3, N, D, hs, hS⟩; obtain ⟨y0, y2, z1, z3, j1, e1, j3, e3, er, rfl⟩ := hS.form; have HSS := hid' (And.intro hs hS); clear hs hS; have K3 := K2.trans hk3; have HZ2 := hid' K2.size; have g0 := (HV.out _ K3).1.c0; have g1 := (HV.out _ K3).1.c1; have g2 := (HV.out _ K3).1.c2; have g3 := (HV.out _ K3).1.c3; have g4 := (HV.out _ K3).2.1.c0; have g5 := (HV.out _ K3).2.1.c1; have g6 := (HV.out _ K3).2.1.c2; have g7 := (HV.out _ K3).2.1.c3; have i0 := (HV.out _ K3).2.2.c0; have i1 := (HV.out _ K3).2.2.c1; have i2 := (HV.out _ K3).2.2.c2; have i3 := (HV.out _ K3).2.2.c3; have o0 := (HV.out _ K3).2.2.fz 0; have o1 := (HV.out _ K3).2.2.fz 1; have o2 := (HV.out _ K3).2.2.fz 2; have o3 := (HV.out _ K3).2.2.fz 3))
  have HK3 := hid' (HK.out.trans K3)
  clear f0 f1 f2 f3 f4 f5 f6 f7 d0 d1 d2 d3 d4 d5 d6 d7 g0 g1 g2 g3 g4 g5 g6 g7 hk2 hk3 K2 K3 HV
  go_wp2
  have hp := HP.out
  have hz := HZ2.out
  refine bodyPost_ret (v := .tuple #[.agg #[.bool y0, .slice z1 j1 e1, .bool y2, .slice z3 j3 e3], .int .i64 er]) (by simp [results, Try.results11, go_sem, i0, i1, i2, i3]) rfl ⟨?_, N, D, HSS.out.1, ?_⟩
  · exact (((HK3.out.setCell (by show w.heap.size ≤ p4; omega) _).setCell (by show w.heap.size ≤ p4; omega) _).setCell (by show w.heap.size ≤ p4; omega) _).setCell (by show w.heap.size ≤ p4; omega) _
  · exact (HSS.out.2.set4 (by omega) _ _ _ _).mono (by omega)

end F
end Go.Proofs.Ytbingbnndmmjbaa
