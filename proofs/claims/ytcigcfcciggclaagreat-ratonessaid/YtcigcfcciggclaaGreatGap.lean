/- rat.sum, of right fractions, told by what it is. rat.Add, of right fractions. -/
import Derived.Test.YtcigcfcciggclaaGreatFsum
import Derived.Test.YtcigcfcciggclaaGreatGan
namespace Go.Proofs.YtcigcfcciggclaaGreat
open Go.RowKit
namespace F

/-- The sum xA / yA + xB / yB is N / D, in lowest terms. -/
structure IsSum (xA : Int) (yA : Nat) (xB : Int) (yB : Nat) (N : Int) (D : Nat) : Prop where
  pos : 0 < D
  low : Nat.Coprime N.natAbs D
  eq : N * (yA * yB) = (xA * yB + xB * yA) * D

theorem sum_r (m nA n nB : Bool) (a1 a2 b1 b2 : Option Addr) (k1 c1 k2 c2 k3 c3 k4 c4 : Nat) (an ad bn bd : List Nat) (w : World)
    (ha : Sl w (.slice a1 k1 c1) an) (had : Sl w (.slice a2 k2 c2) ad) (hb : Sl w (.slice b1 k3 c3) bn) (hbd : Sl w (.slice b2 k4 c4) bd) (hA : RatR m nA an ad) (hB : RatR n nB bn bd) :
    Calls Tryz.prog 29 #[.agg #[.bool m, .slice a1 k1 c1, .bool nA, .slice a2 k2 c2], .agg #[.bool n, .slice b1 k3 c3, .bool nB, .slice b2 k4 c4]] w fun e w' => Kept w w' ∧ ∃ N D, IsSum (M.int m an) (M.val ad) (M.int n bn) (M.val bd) N D ∧ SumIs w.heap.size w' e N D := by
  obtain rfl := hA.sgn
  obtain rfl := hB.sgn
  obtain ⟨g, hg⟩ : ∃ g, Nat.gcd (M.val ad) (M.val bd) = g := ⟨_, rfl⟩
  have g0 : 0 < g := by rw [← hg]; exact Nat.gcd_pos_of_pos_left _ hA.vpos
  obtain ⟨oA, hoA⟩ : g ∣ M.val ad := by rw [← hg]; exact Nat.gcd_dvd_left _ _
  obtain ⟨oB, hoB⟩ : g ∣ M.val bd := by rw [← hg]; exact Nat.gcd_dvd_right _ _
  have a0 : 0 < oA := by
    rcases Nat.eq_zero_or_pos oA with h | h
    · have := hA.vpos; rw [hoA, h] at this; simp at this
    · exact h
  have b0 : 0 < oB := by
    rcases Nat.eq_zero_or_pos oB with h | h
    · have := hB.vpos; rw [hoB, h] at this; simp at this
    · exact h
  have co : Nat.Coprime oA oB := by
    have h := Nat.coprime_div_gcd_div_gcd (m := M.val ad) (n := M.val bd) (by rw [hg]; exact g0)
    rw [hg] at h
    rw [hoA, hoB, Nat.mul_div_cancel_left _ g0, Nat.mul_div_cancel_left _ g0] at h
    exact h
  have par : FM.Par (M.int m an) (M.int n bn) g oA oB := ⟨g0, a0, b0, co, by rw [M.natAbs_int, ← hoA]; exact hA.low, by rw [M.natAbs_int, ← hoB]; exact hB.low⟩
  obtain ⟨t, g', N, ht, ht0, hgt, hS, hD, hc, he⟩ := par.reduced
  refine (sum_q m n a1 a2 b1 b2 k1 c1 k2 c2 k3 c3 k4 c4 an ad bn bd w g oA oB t g' N ha had hb hbd hA.ra hA.rd hB.ra hB.rd par hg hoA hoB ht ht0 hgt hS hD).mono ?_
  rintro e w' ⟨h1, h2⟩
  refine ⟨h1, N, _, ⟨hD, hc, ?_⟩, h2⟩
  rw [hoA, hoB]
  simp only [Int.natCast_mul]
  rw [← Int.mul_assoc]
  exact he

end F
end Go.Proofs.YtcigcfcciggclaaGreat

namespace Go.Proofs.YtcigcfcciggclaaGreat
open Go.RowKit
namespace F

set_option maxHeartbeats 4000000 in
theorem Add_ok (m nA n nB : Bool) (a1 a2 b1 b2 : Option Addr) (k1 c1 k2 c2 k3 c3 k4 c4 : Nat) (an ad bn bd : List Nat) (w : World)
    (ha : Sl w (.slice a1 k1 c1) an) (had : Sl w (.slice a2 k2 c2) ad) (hb : Sl w (.slice b1 k3 c3) bn) (hbd : Sl w (.slice b2 k4 c4) bd) (hA : RatR m nA an ad) (hB : RatR n nB bn bd) :
    Calls Tryz.prog 8 #[.agg #[.bool m, .slice a1 k1 c1, .bool nA, .slice a2 k2 c2], .agg #[.bool n, .slice b1 k3 c3, .bool nB, .slice b2 k4 c4]] w fun e w' => Kept w w' ∧ ∃ N D, IsSum (M.int m an) (M.val ad) (M.int n bn) (M.val bd) N D ∧ SumIs w.heap.size w' e N D := by
  have HA : Hid (Sl w (.slice a1 k1 c1) an ∧ Sl w (.slice a2 k2 c2) ad ∧ Sl w (.slice b1 k3 c3) bn ∧ Sl w (.slice b2 k4 c4) bd) := ⟨ha, had, hb, hbd⟩
  have HR : Hid (RatR m nA an ad ∧ RatR n nB bn bd) := ⟨hA, hB⟩
  have HL : Hid (an.length ≤ 72 ∧ ad.length ≤ 72 ∧ bn.length ≤ 72 ∧ bd.length ≤ 72) := ⟨hA.ra.1, hA.rd.1, hB.ra.1, hB.rd.1⟩
  clear ha had hb hbd hA hB
  have K4 : ∀ x y t u, Kept w ((((w.alloc x).alloc y).alloc t).alloc u) := fun x y t u => ((((Kept.refl w).alloc x).alloc y).alloc t).alloc u
  go_enter Tryz.func8, Tryz.ntmps8
  go_wp2_with fail
  refine (refusal_any _ (w.heap.size + 1 + 1 + 1) 0 2 2 _ _ _ _ _ _ _ _ _ _ _ (fun _ => rfl) (by omega) (RatAll.two (m := m) (n := nA) (p := n) (q := nB) (a1 := a1) (a2 := a2) (b1 := b1) (b2 := b2) (k1 := k1) (c1 := c1) (k2 := k2) (c2 := c2) (k3 := k3) (c3 := c3) (k4 := k4) (c4 := c4) (by rw [World.cell?_alloc_at _ _ _ _ (by simp)]; rfl) (by rw [World.cell?_alloc_at _ _ _ _ (by simp)]; rfl) (by rw [World.cell?_alloc_at _ _ _ _ (by simp)]; rfl) (by rw [World.cell?_alloc_at _ _ _ _ (by simp)]; rfl) (by rw [World.cell?_alloc_at _ _ _ _ (by simp)]; rfl) (by rw [World.cell?_alloc_at _ _ _ _ (by simp)]; rfl) (by rw [World.cell?_alloc_at _ _ _ _ (by simp)]; rfl) (by rw [World.cell?_alloc_at _ _ _ _ (by simp)]; rfl) (HA.out.1.kept (K4 _ _ _ _)) (HA.out.2.1.kept (K4 _ _ _ _)) (HA.out.2.2.1.kept (K4 _ _ _ _)) (HA.out.2.2.2.kept (K4 _ _ _ _)) (by have := HL.out; omega) (by have := HL.out; omega) (by have := HL.out; omega) (by have := HL.out; omega))).mono ?_
  rintro e w1 ⟨hk, c, rfl, hc⟩
  obtain rfl : c = 0 := Refused.two HR.out.1 HR.out.2 hc
  clear hc
  have rA := (RRow.alloc w (.bool m) (.slice a1 k1 c1) (.bool nA) (.slice a2 k2 c2))
  have rB := (RRow.alloc (w.alloc (.cells #[.bool m, .slice a1 k1 c1, .bool nA, .slice a2 k2 c2] 26)) (.bool n) (.slice b1 k3 c3) (.bool nB) (.slice b2 k4 c4))
  have rZ := (RRow.alloc ((w.alloc (.cells #[.bool m, .slice a1 k1 c1, .bool nA, .slice a2 k2 c2] 26)).alloc (.cells #[.bool n, .slice b1 k3 c3, .bool nB, .slice b2 k4 c4] 26)) (.bool false) (.slice none 0 0) (.bool false) (.slice none 0 0))
  have rA := rA.kept (((((Kept.refl _).alloc _).alloc _).alloc _).trans hk)
  have rB := rB.kept ((((Kept.refl _).alloc _).alloc _).trans hk)
  have rZ := rZ.kept (((Kept.refl _).alloc _).trans hk)
  simp only [World.size_alloc] at rB rZ
  have HK : Hid (Kept w w1) := (K4 _ _ _ _).trans hk
  have a0 := rA.c0
  have a1' := rA.c1
  have a2' := rA.c2
  have a3 := rA.c3
  have b0 := rB.c0
  have b1' := rB.c1
  have b2' := rB.c2
  have b3 := rB.c3
  clear rA rB hk K4
  go_wp2_with fail
  refine (sum_r m nA n nB a1 a2 b1 b2 k1 c1 k2 c2 k3 c3 k4 c4 an ad bn bd _ (HA.out.1.kept HK.out) (HA.out.2.1.kept HK.out) (HA.out.2.2.1.kept HK.out) (HA.out.2.2.2.kept HK.out) HR.out.1 HR.out.2).mono ?_
  rintro e w2 ⟨hk2, N, D, hs, hS⟩
  have HS := hid hs
  have HZ : Hid (w.heap.size + 1 + 1 < w1.heap.size) := rZ.lt
  have rZ := rZ.kept hk2
  have i0 := rZ.c0
  have i1 := rZ.c1
  have i2 := rZ.c2
  have i3 := rZ.c3
  have o0 := rZ.fz 0
  have o1 := rZ.fz 1
  have o2 := rZ.fz 2
  have o3 := rZ.fz 3
  have HK2 : Hid (Kept w w2) := HK.out.trans hk2
  clear hs hk2 rZ a0 a1' a2' a3 b0 b1' b2' b3
  rcases hS with ⟨v, rfl, s, ao, k, c, l, t, ap, k', c', l', rfl, n1, r1, v1, n2, r2, v2⟩ | ⟨rfl, hw⟩
  · have HN : Hid (New w1.heap.size w2 (.slice ao k c) l ∧ M.Right s l ∧ M.int s l = N ∧ New w1.heap.size w2 (.slice ap k' c') l' ∧ M.Right t l' ∧ M.int t l' = D) := ⟨n1, r1, v1, n2, r2, v2⟩
    clear n1 r1 v1 n2 r2 v2
    go_wp2
    have hz := HZ.out
    obtain ⟨n1, r1, v1, n2, r2, v2⟩ := HN.out
    refine bodyPost_ret (v := .tuple #[.agg #[.bool s, .slice ao k c, .bool t, .slice ap k' c'], .int .i64 0]) (by simp [results, Tryz.results8, go_sem, i0, i1, i2, i3]) rfl ⟨?_, N, D, HS.out, .inl ⟨_, rfl, s, ao, k, c, l, t, ap, k', c', l', rfl, (set4 n1 (by omega) _ _ _ _).mono (by omega), r1, v1, (set4 n2 (by omega) _ _ _ _).mono (by omega), r2, v2⟩⟩
    exact (((HK2.out.setCell (by show w.heap.size ≤ w.heap.size + 1 + 1; omega) _).setCell (by show w.heap.size ≤ w.heap.size + 1 + 1; omega) _).setCell (by show w.heap.size ≤ w.heap.size + 1 + 1; omega) _).setCell (by show w.heap.size ≤ w.heap.size + 1 + 1; omega) _
  · have HX := hid hw
    clear hw
    go_wp2
    refine bodyPost_ret (v := .tuple #[.agg #[.bool false, .slice none 0 0, .bool false, .slice none 0 0], .int .i64 13]) (by simp [results, Tryz.results8, go_sem, i0, i1, i2, i3]) rfl ⟨?_, N, D, HS.out, .inr ⟨rfl, HX.out⟩⟩
    exact (((HK2.out.setCell (by show w.heap.size ≤ w.heap.size + 1 + 1; omega) _).setCell (by show w.heap.size ≤ w.heap.size + 1 + 1; omega) _).setCell (by show w.heap.size ≤ w.heap.size + 1 + 1; omega) _).setCell (by show w.heap.size ≤ w.heap.size + 1 + 1; omega) _

end F
end Go.Proofs.YtcigcfcciggclaaGreat
