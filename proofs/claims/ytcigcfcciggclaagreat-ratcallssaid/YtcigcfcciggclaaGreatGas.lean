/- shuntref02.Cmp, of whatever is handed in. rat's Add, Sub, Mul, Div, Cmp of whatever is handed in, and their answers without a world. The answers of calls of two fractions, without a world: they are one. -/
import Derived.Test.YtcigcfcciggclaaGreatGtwo2
import Derived.Test.YtcigcfcciggclaaGreatGar
namespace Go.Proofs.YtcigcfcciggclaaGreat
open Go.RowKit
namespace F

set_option maxRecDepth 100000 in
set_option maxHeartbeats 8000000 in
theorem RCmp_any (m nA n nB : Bool) (a1 a2 b1 b2 : Option Addr) (k1 c1 k2 c2 k3 c3 k4 c4 : Nat) (an ad bn bd : List Nat) (w : World) (ha : Sl w (.slice a1 k1 c1) an) (had : Sl w (.slice a2 k2 c2) ad) (hb : Sl w (.slice b1 k3 c3) bn) (hbd : Sl w (.slice b2 k4 c4) bd) (l1 : an.length ≤ 9223372036854775807) (l2 : ad.length ≤ 9223372036854775807) (l3 : bn.length ≤ 9223372036854775807) (l4 : bd.length ≤ 9223372036854775807) :
    Calls Tryz.prog 14 #[.agg #[.bool m, .slice a1 k1 c1, .bool nA, .slice a2 k2 c2], .agg #[.bool n, .slice b1 k3 c3, .bool nB, .slice b2 k4 c4]] w fun e w' => Kept w w' ∧ ∃ c, Refused2 m nA n nB an ad bn bd c ∧ ((c ≠ 0 ∧ e = .returned (.tuple #[.int .i64 0, .int .i64 c])) ∨ (c = 0 ∧ e = .returned (.tuple #[.int .i64 (isgn (M.int m an * M.int nB bd) (M.int n bn * M.int nA ad)), .int .i64 0]))) := by
  have HA : Hid (Sl w (.slice a1 k1 c1) an ∧ Sl w (.slice a2 k2 c2) ad ∧ Sl w (.slice b1 k3 c3) bn ∧ Sl w (.slice b2 k4 c4) bd ∧ an.length ≤ 9223372036854775807 ∧ ad.length ≤ 9223372036854775807 ∧ bn.length ≤ 9223372036854775807 ∧ bd.length ≤ 9223372036854775807) := ⟨ha, had, hb, hbd, l1, l2, l3, l4⟩
  clear ha had hb hbd l1 l2 l3 l4
  have K3 : ∀ x y t, Kept w (((w.alloc x).alloc y).alloc t) := fun x y t => (((Kept.refl w).alloc x).alloc y).alloc t
  go_enter Tryz.func14, Tryz.ntmps14
  go_wp2_with fail
  refine (Faults_x _ (w.heap.size + 1 + 1) 0 2 2 _ _ _ _ _ _ _ _ _ _ _ (fun _ => rfl) (by omega) (RatAll.two (m := m) (n := nA) (p := n) (q := nB) (a1 := a1) (a2 := a2) (b1 := b1) (b2 := b2) (k1 := k1) (c1 := c1) (k2 := k2) (c2 := c2) (k3 := k3) (c3 := c3) (k4 := k4) (c4 := c4) (by rw [World.cell?_alloc_at _ _ _ _ (by simp)]; rfl) (by rw [World.cell?_alloc_at _ _ _ _ (by simp)]; rfl) (by rw [World.cell?_alloc_at _ _ _ _ (by simp)]; rfl) (by rw [World.cell?_alloc_at _ _ _ _ (by simp)]; rfl) (by rw [World.cell?_alloc_at _ _ _ _ (by simp)]; rfl) (by rw [World.cell?_alloc_at _ _ _ _ (by simp)]; rfl) (by rw [World.cell?_alloc_at _ _ _ _ (by simp)]; rfl) (by rw [World.cell?_alloc_at _ _ _ _ (by simp)]; rfl) (HA.out.1.kept (K3 _ _ _)) (HA.out.2.1.kept (K3 _ _ _)) (HA.out.2.2.1.kept (K3 _ _ _)) (HA.out.2.2.2.1.kept (K3 _ _ _)) HA.out.2.2.2.2.1 HA.out.2.2.2.2.2.1 HA.out.2.2.2.2.2.2.1 HA.out.2.2.2.2.2.2.2)).mono ?_
  rintro e w1 ⟨hk1, c, rfl, hc⟩
  have HC := hid' (refused2_of hc)
  have r2 := (RRow.alloc w (.bool m) (.slice a1 k1 c1) (.bool nA) (.slice a2 k2 c2)).kept ((((Kept.refl _).alloc _).alloc _).trans hk1)
  have r3 := (RRow.alloc (w.alloc (.cells #[.bool m, .slice a1 k1 c1, .bool nA, .slice a2 k2 c2] 26)) (.bool n) (.slice b1 k3 c3) (.bool nB) (.slice b2 k4 c4)).kept (((Kept.refl _).alloc _).trans hk1)
  simp only [World.size_alloc] at r3
  have HK1 := hid' ((K3 _ _ _).trans hk1)
  clear hk1 hc K3
  by_cases hc0 : c = 0
  · subst hc0
    have HR := hid' HC.out.rats
    have HQ : Hid (an.length ≤ 72 ∧ ad.length ≤ 72 ∧ bn.length ≤ 72 ∧ bd.length ≤ 72) := ⟨HR.out.1.ra.1, HR.out.1.rd.1, HR.out.2.ra.1, HR.out.2.rd.1⟩
    obtain ⟨p3, hp3⟩ : ∃ p, p = w.heap.size + 1 := ⟨_, rfl⟩
    obtain ⟨p2, hp2⟩ : ∃ p, p = w.heap.size := ⟨_, rfl⟩
    go_upto_region 4 with fail
    rw [← hp3] at r3 ⊢
    rw [← hp2] at r2 ⊢
    have HV : Hid (∀ V, Kept w1 V → RRow V p2 (.bool m) (.slice a1 k1 c1) (.bool nA) (.slice a2 k2 c2) ∧ RRow V p3 (.bool n) (.slice b1 k3 c3) (.bool nB) (.slice b2 k4 c4) ∧ Kept w V) := fun V hV => ⟨r2.kept hV, r3.kept hV, HK1.out.trans hV⟩
    obtain ⟨q0, q1, q2, q3⟩ := rrow_all r2
    obtain ⟨r0', r1', r2', r3'⟩ := rrow_all r3
    clear hp2 hp3 r2 r3
    go_region_held3 (fun w' => w'.cell? ⟨p2, 0, none⟩ = some (.bool m) ∧ w'.cell? ⟨p2, 1, none⟩ = some (.slice a1 k1 c1) ∧ w'.cell? ⟨p2, 2, none⟩ = some (.bool nA) ∧ w'.cell? ⟨p2, 3, none⟩ = some (.slice a2 k2 c2) ∧ w'.cell? ⟨p3, 0, none⟩ = some (.bool n) ∧ w'.cell? ⟨p3, 1, none⟩ = some (.slice b1 k3 c3) ∧ w'.cell? ⟨p3, 2, none⟩ = some (.bool nB) ∧ w'.cell? ⟨p3, 3, none⟩ = some (.slice b2 k4 c4)) (go_keep) (first
      | (go_at_call_of 37 (Value.agg #[.bool m, .slice a1 k1 c1, .bool nA, .slice a2 k2 c2]); refine (FTake_any m nA a1 a2 k1 c1 k2 c2 an ad _ (HA.out.1.kept (HV.out _ (Kept.refl _).drew).2.2) (HA.out.2.1.kept (HV.out _ (Kept.refl _).drew).2.2) (by have := HQ.out; omega) (by have := HQ.out; omega)).mono ?_; rintro e w3 ⟨hk3, v3, rfl, s3, a3, k3', c3', t3, a4, k4', c4', rfl, n3, n4, l3, l4⟩; have K3 := (Kept.refl w1).drew.trans hk3; have H3 : Hid (D.NIs w3 s3 (.slice a3 k3' c3') (M.int m an) ∧ D.NIs w3 t3 (.slice a4 k4' c4') (M.int nA ad) ∧ k3' ≤ 300 ∧ k4' ≤ 300) := ⟨n3, n4, by have := HQ.out; omega, by have := HQ.out; omega⟩; clear n3 n4 l3 l4; obtain ⟨d0, d1, d2, d3⟩ := rrow_all (HV.out _ K3).1; obtain ⟨d4, d5, d6, d7⟩ := rrow_all (HV.out _ K3).2.1)
      | (go_at_call_of 37 (Value.agg #[.bool n, .slice b1 k3 c3, .bool nB, .slice b2 k4 c4]); refine (FTake_any n nB b1 b2 k3 c3 k4 c4 bn bd _ (HA.out.2.2.1.kept (HV.out _ K3).2.2) (HA.out.2.2.2.1.kept (HV.out _ K3).2.2) (by have := HQ.out; omega) (by have := HQ.out; omega)).mono ?_; rintro e w5 ⟨hk5, v5, rfl, s5, a5, k5', c5', t5, a6, k6', c6', rfl, n5, n6, l5, l6⟩; have K5 := K3.trans hk5; have H5 : Hid (D.NIs w5 s5 (.slice a5 k5' c5') (M.int n bn) ∧ D.NIs w5 t5 (.slice a6 k6' c6') (M.int nB bd) ∧ k5' ≤ 300 ∧ k6' ≤ 300) := ⟨n5, n6, by have := HQ.out; omega, by have := HQ.out; omega⟩; clear n5 n6 l5 l6; obtain ⟨g0, g1, g2, g3⟩ := rrow_all (HV.out _ K5).1; obtain ⟨g4, g5, g6, g7⟩ := rrow_all (HV.out _ K5).2.1)
      | (go_at_call 44; refine (FHeld_any s3 t3 s5 t5 a3 a4 a5 a6 k3' c3' k4' c4' k5' c5' k6' c6' _ _ _ _ _ (H3.out.1.kept hk5) (H3.out.2.1.kept hk5) H5.out.1 H5.out.2.1 (by have h1 := H3.out.2.2; have h2 := H5.out.2.2; omega)).mono ?_; rintro e w6 ⟨hk6, rfl⟩; have K6 := K5.trans hk6; obtain ⟨i0, i1, i2, i3⟩ := rrow_all (HV.out _ K6).1; obtain ⟨i4, i5, i6, i7⟩ := rrow_all (HV.out _ K6).2.1))
    have HZ := hid' (HV.out _ K6).2.2
    clear q0 q1 q2 q3 r0' r1' r2' r3' d0 d1 d2 d3 d4 d5 d6 d7 g0 g1 g2 g3 g4 g5 g6 g7 i0 i1 i2 i3 i4 i5 i6 i7 hk3 hk5 hk6 K3 K5 K6 HV
    generalize hgi : isgn (M.int m an * M.int nB bd) (M.int n bn * M.int nA ad) = gi
    have HGI := hid' hgi
    clear hgi
    go_wp2
    go_ret2
    exact ⟨HZ.out, 0, HC.out, .inr ⟨rfl, by rw [HGI.out]; rfl⟩⟩
  · have hcb : ((c : Int) == 0) = false := by simpa using hc0
    have H0 := hid' hc0
    clear hc0 r2 r3
    go_wp2
    go_ret2
    exact ⟨HK1.out, c, HC.out, .inl ⟨H0.out, rfl⟩⟩

end F
end Go.Proofs.YtcigcfcciggclaaGreat

namespace Go.Proofs.YtcigcfcciggclaaGreat
open Go.RowKit
namespace F

/-- What a call of two fractions answers; num over den is what is asked for. -/
def OpIs (B : Nat) (w : World) (e : Ending) (m nA n nB : Bool) (an ad bn bd : List Nat) (num den : Int) : Prop :=
  ∃ c, Refused2 m nA n nB an ad bn bd c ∧ ((c ≠ 0 ∧ e = .returned (.tuple #[.agg #[.bool false, .slice none 0 0, .bool false, .slice none 0 0], .int .i64 c])) ∨ (c = 0 ∧ ∃ N Q, Low num den N Q ∧ ToldIs B w e N Q))

/-- What Div answers. -/
def DivIs (B : Nat) (w : World) (e : Ending) (m nA n nB : Bool) (an ad bn bd : List Nat) : Prop :=
  ∃ c, Refused2 m nA n nB an ad bn bd c ∧ ((c ≠ 0 ∧ e = .returned (.tuple #[.agg #[.bool false, .slice none 0 0, .bool false, .slice none 0 0], .int .i64 c])) ∨ (c = 0 ∧ ((M.int n bn = 0 ∧ e = .returned (.tuple #[.agg #[.bool false, .slice none 0 0, .bool false, .slice none 0 0], .int .i64 11])) ∨ (M.int n bn ≠ 0 ∧ ∃ N Q, Low (M.int m an * M.int nB bd) (M.int nA ad * M.int n bn) N Q ∧ ToldIs B w e N Q))))

theorem SumIs.told {B : Nat} {w : World} {e : Ending} {N : Int} {Q : Nat} (h : SumIs B w e N Q) : ToldIs B w e N Q := by
  rcases h with ⟨v, rfl, s, ao, k, c, l, t, ap, k', c', l', rfl, h⟩ | ⟨rfl, h⟩
  · exact .inl ⟨s, ao, k, c, l, t, ap, k', c', l', rfl, h⟩
  · refine .inr ⟨rfl, ?_⟩
    rw [Int.natAbs_natCast]
    omega

theorem IsSum.lows {xA xB N : Int} {yA yB Q : Nat} (h : IsSum xA yA xB yB N Q) {YA YB : Int} (eA : YA = yA) (eB : YB = yB) : Low (xA * YB + xB * YA) (YA * YB) N Q := by
  subst eA eB
  exact ⟨by have := h.pos; omega, by rw [Int.natAbs_natCast]; exact h.low, h.eq⟩

theorem IsProd.lows {xA xB N : Int} {yA yB Q : Nat} (h : IsProd xA yA xB yB N Q) {YA YB : Int} (eA : YA = yA) (eB : YB = yB) : Low (xA * xB) (YA * YB) N Q := by
  subst eA eB
  exact ⟨by have := h.pos; omega, by rw [Int.natAbs_natCast]; exact h.low, h.eq⟩

theorem r2_ok {m nA n nB : Bool} {an ad bn bd : List Nat} (h : RatR m nA an ad ∧ RatR n nB bn bd) : Refused2 m nA n nB an ad bn bd 0 := .inr (.inr ⟨rfl, h⟩)

theorem div_eq {N X : Int} {Q y : Nat} {bn bd : List Nat} (e : N * ((y : Int) * (M.val bn : Nat)) = (X * M.int true bd) * Q) : N * ((y : Int) * M.int true bn) = X * (M.val bd : Nat) * Q := by
  have h1 : M.int true bd = -(M.val bd : Int) := by simp [M.int]
  have h2 : M.int true bn = -(M.val bn : Int) := by simp [M.int]
  rw [h1] at e
  rw [h2]
  generalize (M.val bd : Int) = d at *
  generalize (M.val bn : Int) = b at *
  have e1 : N * ((y : Int) * -b) = -(N * ((y : Int) * b)) := by grind
  rw [e1, e]
  grind

section
variable (m nA n nB : Bool) (a1 a2 b1 b2 : Option Addr) (k1 c1 k2 c2 k3 c3 k4 c4 : Nat) (an ad bn bd : List Nat) (w : World) (ha : Sl w (.slice a1 k1 c1) an) (had : Sl w (.slice a2 k2 c2) ad) (hb : Sl w (.slice b1 k3 c3) bn) (hbd : Sl w (.slice b2 k4 c4) bd) (l1 : an.length ≤ 9223372036854775807) (l2 : ad.length ≤ 9223372036854775807) (l3 : bn.length ≤ 9223372036854775807) (l4 : bd.length ≤ 9223372036854775807)
include ha had hb hbd l1 l2 l3 l4

theorem Add_all : Calls Tryz.prog 8 #[.agg #[.bool m, .slice a1 k1 c1, .bool nA, .slice a2 k2 c2], .agg #[.bool n, .slice b1 k3 c3, .bool nB, .slice b2 k4 c4]] w fun e w' => Kept w w' ∧ OpIs w.heap.size w' e m nA n nB an ad bn bd (M.int m an * M.int nB bd + M.int n bn * M.int nA ad) (M.int nA ad * M.int nB bd) := by
  by_cases h : RatR m nA an ad ∧ RatR n nB bn bd
  · refine (Add_ok m nA n nB a1 a2 b1 b2 k1 c1 k2 c2 k3 c3 k4 c4 an ad bn bd w ha had hb hbd h.1 h.2).mono ?_
    rintro e w' ⟨hk, N, Q, hS, hT⟩
    exact ⟨hk, 0, r2_ok h, .inr ⟨rfl, N, Q, hS.lows h.1.val h.2.val, hT.told⟩⟩
  · refine (Add_bad m nA n nB a1 a2 b1 b2 k1 c1 k2 c2 k3 c3 k4 c4 an ad bn bd w ha had hb hbd l1 l2 l3 l4 h).mono ?_
    rintro e w' ⟨hk, c, hc, h0, rfl⟩
    exact ⟨hk, c, hc, .inl ⟨h0, rfl⟩⟩

theorem Sub_all : Calls Tryz.prog 9 #[.agg #[.bool m, .slice a1 k1 c1, .bool nA, .slice a2 k2 c2], .agg #[.bool n, .slice b1 k3 c3, .bool nB, .slice b2 k4 c4]] w fun e w' => Kept w w' ∧ OpIs w.heap.size w' e m nA n nB an ad bn bd (M.int m an * M.int nB bd + -(M.int n bn) * M.int nA ad) (M.int nA ad * M.int nB bd) := by
  by_cases h : RatR m nA an ad ∧ RatR n nB bn bd
  · refine (Sub_ok m nA n nB a1 a2 b1 b2 k1 c1 k2 c2 k3 c3 k4 c4 an ad bn bd w ha had hb hbd h.1 h.2).mono ?_
    rintro e w' ⟨hk, N, Q, hS, hT⟩
    exact ⟨hk, 0, r2_ok h, .inr ⟨rfl, N, Q, hS.lows h.1.val h.2.val, hT.told⟩⟩
  · refine (Sub_bad m nA n nB a1 a2 b1 b2 k1 c1 k2 c2 k3 c3 k4 c4 an ad bn bd w ha had hb hbd l1 l2 l3 l4 h).mono ?_
    rintro e w' ⟨hk, c, hc, h0, rfl⟩
    exact ⟨hk, c, hc, .inl ⟨h0, rfl⟩⟩

theorem Mul_all : Calls Tryz.prog 10 #[.agg #[.bool m, .slice a1 k1 c1, .bool nA, .slice a2 k2 c2], .agg #[.bool n, .slice b1 k3 c3, .bool nB, .slice b2 k4 c4]] w fun e w' => Kept w w' ∧ OpIs w.heap.size w' e m nA n nB an ad bn bd (M.int m an * M.int n bn) (M.int nA ad * M.int nB bd) := by
  by_cases h : RatR m nA an ad ∧ RatR n nB bn bd
  · refine (Mul_ok m nA n nB a1 a2 b1 b2 k1 c1 k2 c2 k3 c3 k4 c4 an ad bn bd w ha had hb hbd h.1 h.2).mono ?_
    rintro e w' ⟨hk, N, Q, hS, hT⟩
    exact ⟨hk, 0, r2_ok h, .inr ⟨rfl, N, Q, hS.lows h.1.val h.2.val, hT.told⟩⟩
  · refine (Mul_bad m nA n nB a1 a2 b1 b2 k1 c1 k2 c2 k3 c3 k4 c4 an ad bn bd w ha had hb hbd l1 l2 l3 l4 h).mono ?_
    rintro e w' ⟨hk, c, hc, h0, rfl⟩
    exact ⟨hk, c, hc, .inl ⟨h0, rfl⟩⟩

theorem Div_all : Calls Tryz.prog 11 #[.agg #[.bool m, .slice a1 k1 c1, .bool nA, .slice a2 k2 c2], .agg #[.bool n, .slice b1 k3 c3, .bool nB, .slice b2 k4 c4]] w fun e w' => Kept w w' ∧ DivIs w.heap.size w' e m nA n nB an ad bn bd := by
  by_cases h : RatR m nA an ad ∧ RatR n nB bn bd
  · by_cases hz : M.int n bn = 0
    · refine (Div_zero m nA n nB a1 a2 b1 b2 k1 c1 k2 c2 k3 c3 k4 c4 an ad bn bd w ha had hb hbd h.1 h.2 hz).mono ?_
      rintro e w' ⟨hk, rfl⟩
      exact ⟨hk, 0, r2_ok h, .inr ⟨rfl, .inl ⟨hz, rfl⟩⟩⟩
    · refine (Div_ok m nA n nB a1 a2 b1 b2 k1 c1 k2 c2 k3 c3 k4 c4 an ad bn bd w ha had hb hbd h.1 h.2 hz).mono ?_
      rintro e w' ⟨hk, N, Q, hS, hT⟩
      refine ⟨hk, 0, r2_ok h, .inr ⟨rfl, .inr ⟨hz, N, Q, ⟨by have := hS.pos; omega, by rw [Int.natAbs_natCast]; exact hS.low, ?_⟩, hT.told⟩⟩⟩
      have e := hS.eq
      rw [h.1.val, h.2.val]
      cases n with
      | false => exact e
      | true => exact div_eq e
  · refine (Div_bad m nA n nB a1 a2 b1 b2 k1 c1 k2 c2 k3 c3 k4 c4 an ad bn bd w ha had hb hbd l1 l2 l3 l4 h).mono ?_
    rintro e w' ⟨hk, c, hc, h0, rfl⟩
    exact ⟨hk, c, hc, .inl ⟨h0, rfl⟩⟩

theorem Cmp_all : Calls Tryz.prog 12 #[.agg #[.bool m, .slice a1 k1 c1, .bool nA, .slice a2 k2 c2], .agg #[.bool n, .slice b1 k3 c3, .bool nB, .slice b2 k4 c4]] w fun e w' => Kept w w' ∧ ∃ c, Refused2 m nA n nB an ad bn bd c ∧ ((c ≠ 0 ∧ e = .returned (.tuple #[.int .i64 0, .int .i64 c])) ∨ (c = 0 ∧ e = .returned (.tuple #[.int .i64 (isgn (M.int m an * M.int nB bd) (M.int n bn * M.int nA ad)), .int .i64 0]))) := by
  by_cases h : RatR m nA an ad ∧ RatR n nB bn bd
  · refine (Cmp_ok m nA n nB a1 a2 b1 b2 k1 c1 k2 c2 k3 c3 k4 c4 an ad bn bd w ha had hb hbd h.1 h.2).mono ?_
    rintro e w' ⟨rfl, hk⟩
    exact ⟨hk, 0, r2_ok h, .inr ⟨rfl, by rw [h.1.val, h.2.val]⟩⟩
  · refine (Cmp_bad m nA n nB a1 a2 b1 b2 k1 c1 k2 c2 k3 c3 k4 c4 an ad bn bd w ha had hb hbd l1 l2 l3 l4 h).mono ?_
    rintro e w' ⟨hk, c, hc, h0, rfl⟩
    exact ⟨hk, c, hc, .inl ⟨h0, rfl⟩⟩
end

/-- An answer without a world. -/
def OpC (num den : Int) (s : Bool) (l : List Nat) (t : Bool) (l' : List Nat) (ec : Int) : Prop :=
  (ec ≠ 0 ∧ ec ≠ 13 ∧ s = false ∧ l = [] ∧ t = false ∧ l' = []) ∨ (∃ N Q, Low num den N Q ∧ ((ec = 0 ∧ M.Right s l ∧ M.int s l = N ∧ M.Right t l' ∧ M.int t l' = Q) ∨ (ec = 13 ∧ s = false ∧ l = [] ∧ t = false ∧ l' = [] ∧ (M.W72 ≤ N.natAbs ∨ M.W72 ≤ Q.natAbs))))

end F
end Go.Proofs.YtcigcfcciggclaaGreat

namespace Go.Proofs.YtcigcfcciggclaaGreat
open Go.RowKit
namespace F

/-- Nothing. -/
def Nil2 (s : Bool) (l : List Nat) (t : Bool) (l' : List Nat) : Prop := s = false ∧ l = [] ∧ t = false ∧ l' = []

def ValQ (num den : Int) (s : Bool) (l : List Nat) (t : Bool) (l' : List Nat) (ec : Int) : Prop :=
  ∃ N Q, Low num den N Q ∧ ((ec = 0 ∧ M.Right s l ∧ M.int s l = N ∧ M.Right t l' ∧ M.int t l' = Q) ∨ (ec = 13 ∧ Nil2 s l t l' ∧ (M.W72 ≤ N.natAbs ∨ M.W72 ≤ Q.natAbs)))

theorem w72_lt {s : Bool} {l : List Nat} (h : M.Right s l) : (M.int s l).natAbs < M.W72 := by rw [M.natAbs_int]; exact M.lt_W72 h.bd h.len

theorem ValQ.one {num den : Int} {s s2 t t2 : Bool} {l l2 l' l2' : List Nat} {ec ec2 : Int} (hd : den ≠ 0) (h : ValQ num den s l t l' ec) (h' : ValQ num den s2 l2 t2 l2' ec2) : s2 = s ∧ l2 = l ∧ t2 = t ∧ l2' = l' ∧ ec2 = ec := by
  obtain ⟨N, Q, hL, h⟩ := h
  obtain ⟨N', Q', hL', h'⟩ := h'
  obtain ⟨rfl, rfl⟩ := hL.one hL' hd
  rcases h with ⟨rfl, r1, i1, r2, i2⟩ | ⟨rfl, ⟨rfl, rfl, rfl, rfl⟩, hw⟩ <;> rcases h' with ⟨rfl, r1', i1', r2', i2'⟩ | ⟨rfl, ⟨rfl, rfl, rfl, rfl⟩, hw'⟩
  · obtain ⟨e1, e2⟩ := M.int_inj r1' r1 (by rw [i1, i1'])
    obtain ⟨e3, e4⟩ := M.int_inj r2' r2 (by rw [i2, i2'])
    exact ⟨e1, e2, e3, e4, rfl⟩
  · have a1 := w72_lt r1
    have a2 := w72_lt r2
    rw [i1] at a1
    rw [i2] at a2
    omega
  · have a1 := w72_lt r1'
    have a2 := w72_lt r2'
    rw [i1'] at a1
    rw [i2'] at a2
    omega
  · exact ⟨rfl, rfl, rfl, rfl, rfl⟩

/-- A sum, a difference, a product. -/
def OpQ (m nA n nB : Bool) (an ad bn bd : List Nat) (num den : Int) (s : Bool) (l : List Nat) (t : Bool) (l' : List Nat) (ec : Int) : Prop :=
  ∃ c, Refused2 m nA n nB an ad bn bd c ∧ ((c ≠ 0 ∧ ec = c ∧ Nil2 s l t l') ∨ (c = 0 ∧ ValQ num den s l t l' ec))

theorem OpQ.one {m nA n nB : Bool} {an ad bn bd : List Nat} {num den : Int} {s s2 t t2 : Bool} {l l2 l' l2' : List Nat} {ec ec2 : Int} (hd : RatR m nA an ad ∧ RatR n nB bn bd → den ≠ 0) (h : OpQ m nA n nB an ad bn bd num den s l t l' ec) (h' : OpQ m nA n nB an ad bn bd num den s2 l2 t2 l2' ec2) : s2 = s ∧ l2 = l ∧ t2 = t ∧ l2' = l' ∧ ec2 = ec := by
  obtain ⟨c, h1, h⟩ := h
  obtain ⟨c', h1', h'⟩ := h'
  obtain rfl := h1.one h1'
  rcases h with ⟨h0, rfl, rfl, rfl, rfl, rfl⟩ | ⟨h0, h⟩ <;> rcases h' with ⟨h0', rfl, rfl, rfl, rfl, rfl⟩ | ⟨h0', h'⟩
  · exact ⟨rfl, rfl, rfl, rfl, rfl⟩
  · exact absurd h0' h0
  · exact absurd h0 h0'
  · subst h0
    exact ValQ.one (hd h1.rats) h h'

/-- A quotient. -/
def DivQ (m nA n nB : Bool) (an ad bn bd : List Nat) (s : Bool) (l : List Nat) (t : Bool) (l' : List Nat) (ec : Int) : Prop :=
  ∃ c, Refused2 m nA n nB an ad bn bd c ∧ ((c ≠ 0 ∧ ec = c ∧ Nil2 s l t l') ∨ (c = 0 ∧ ((M.int n bn = 0 ∧ ec = 11 ∧ Nil2 s l t l') ∨ (M.int n bn ≠ 0 ∧ ValQ (M.int m an * M.int nB bd) (M.int nA ad * M.int n bn) s l t l' ec))))

theorem DivQ.one {m nA n nB : Bool} {an ad bn bd : List Nat} {s s2 t t2 : Bool} {l l2 l' l2' : List Nat} {ec ec2 : Int} (h : DivQ m nA n nB an ad bn bd s l t l' ec) (h' : DivQ m nA n nB an ad bn bd s2 l2 t2 l2' ec2) : s2 = s ∧ l2 = l ∧ t2 = t ∧ l2' = l' ∧ ec2 = ec := by
  obtain ⟨c, h1, h⟩ := h
  obtain ⟨c', h1', h'⟩ := h'
  obtain rfl := h1.one h1'
  rcases h with ⟨h0, rfl, rfl, rfl, rfl, rfl⟩ | ⟨h0, h⟩ <;> rcases h' with ⟨h0', rfl, rfl, rfl, rfl, rfl⟩ | ⟨h0', h'⟩
  · exact ⟨rfl, rfl, rfl, rfl, rfl⟩
  · exact absurd h0' h0
  · exact absurd h0 h0'
  · subst h0
    rcases h with ⟨hz, rfl, rfl, rfl, rfl, rfl⟩ | ⟨hz, h⟩ <;> rcases h' with ⟨hz', rfl, rfl, rfl, rfl, rfl⟩ | ⟨hz', h'⟩
    · exact ⟨rfl, rfl, rfl, rfl, rfl⟩
    · exact absurd hz hz'
    · exact absurd hz' hz
    · exact ValQ.one (Int.mul_ne_zero (by have := h1.rats.1.pos; omega) hz) h h'

/-- The answer as it lies. -/
def Res (B : Nat) (w : World) (e : Ending) (P : Bool → List Nat → Bool → List Nat → Int → Prop) : Prop :=
  ∃ s ao k c t ap k' c' ec l l', e = .returned (.tuple #[.agg #[.bool s, .slice ao k c, .bool t, .slice ap k' c'], .int .i64 ec]) ∧ New B w (.slice ao k c) l ∧ New B w (.slice ap k' c') l' ∧ l.length ≤ 72 ∧ l'.length ≤ 72 ∧ P s l t l' ec

theorem New.nil' (B : Nat) (w : World) : New B w (.slice none 0 0) [] := ⟨M.Bd_nil, .inl ⟨rfl, rfl⟩⟩

theorem ToldIs.res {B : Nat} {w : World} {e : Ending} {num den N Q : Int} (hL : Low num den N Q) (h : ToldIs B w e N Q) : Res B w e (ValQ num den) := by
  rcases h with ⟨s, ao, k, c, l, t, ap, k', c', l', rfl, n1, r1, i1, n2, r2, i2⟩ | ⟨rfl, hw⟩
  · exact ⟨s, ao, k, c, t, ap, k', c', 0, l, l', rfl, n1, n2, r1.len, r2.len, N, Q, hL, .inl ⟨rfl, r1, i1, r2, i2⟩⟩
  · exact ⟨false, none, 0, 0, false, none, 0, 0, 13, [], [], rfl, New.nil' _ _, New.nil' _ _, by simp, by simp, N, Q, hL, .inr ⟨rfl, ⟨rfl, rfl, rfl, rfl⟩, hw⟩⟩

theorem Res.imp {B : Nat} {w : World} {e : Ending} {P P' : Bool → List Nat → Bool → List Nat → Int → Prop} (h : Res B w e P) (f : ∀ s l t l' ec, P s l t l' ec → P' s l t l' ec) : Res B w e P' := by
  obtain ⟨s, ao, k, c, t, ap, k', c', ec, l, l', h1, h2, h3, h4, h5, h6⟩ := h
  exact ⟨s, ao, k, c, t, ap, k', c', ec, l, l', h1, h2, h3, h4, h5, f _ _ _ _ _ h6⟩

theorem OpIs.res {B : Nat} {w : World} {e : Ending} {m nA n nB : Bool} {an ad bn bd : List Nat} {num den : Int} (h : OpIs B w e m nA n nB an ad bn bd num den) : Res B w e (OpQ m nA n nB an ad bn bd num den) := by
  obtain ⟨c, hc, ⟨h0, rfl⟩ | ⟨h0, N, Q, hL, hT⟩⟩ := h
  · exact ⟨false, none, 0, 0, false, none, 0, 0, c, [], [], rfl, New.nil' _ _, New.nil' _ _, by simp, by simp, c, hc, .inl ⟨h0, rfl, rfl, rfl, rfl, rfl⟩⟩
  · exact (hT.res hL).imp fun _ _ _ _ _ q => ⟨c, hc, .inr ⟨h0, q⟩⟩

theorem DivIs.res {B : Nat} {w : World} {e : Ending} {m nA n nB : Bool} {an ad bn bd : List Nat} (h : DivIs B w e m nA n nB an ad bn bd) : Res B w e (DivQ m nA n nB an ad bn bd) := by
  obtain ⟨c, hc, ⟨h0, rfl⟩ | ⟨h0, ⟨hz, rfl⟩ | ⟨hz, N, Q, hL, hT⟩⟩⟩ := h
  · exact ⟨false, none, 0, 0, false, none, 0, 0, c, [], [], rfl, New.nil' _ _, New.nil' _ _, by simp, by simp, c, hc, .inl ⟨h0, rfl, rfl, rfl, rfl, rfl⟩⟩
  · exact ⟨false, none, 0, 0, false, none, 0, 0, 11, [], [], rfl, New.nil' _ _, New.nil' _ _, by simp, by simp, c, hc, .inr ⟨h0, .inl ⟨hz, rfl, rfl, rfl, rfl, rfl⟩⟩⟩
  · exact (hT.res hL).imp fun _ _ _ _ _ q => ⟨c, hc, .inr ⟨h0, .inr ⟨hz, q⟩⟩⟩

/-- What Cmp answers. -/
def CmpIs (e : Ending) (m nA n nB : Bool) (an ad bn bd : List Nat) : Prop :=
  ∃ c, Refused2 m nA n nB an ad bn bd c ∧ ((c ≠ 0 ∧ e = .returned (.tuple #[.int .i64 0, .int .i64 c])) ∨ (c = 0 ∧ e = .returned (.tuple #[.int .i64 (isgn (M.int m an * M.int nB bd) (M.int n bn * M.int nA ad)), .int .i64 0])))

theorem CmpIs.split {e : Ending} {m nA n nB : Bool} {an ad bn bd : List Nat} (h : CmpIs e m nA n nB an ad bn bd) : ∃ v c, e = .returned (.tuple #[.int .i64 v, .int .i64 c]) ∧ CmpIs e m nA n nB an ad bn bd := by
  obtain ⟨c, h1, ⟨h2, rfl⟩ | ⟨h2, rfl⟩⟩ := h
  · exact ⟨0, c, rfl, c, h1, .inl ⟨h2, rfl⟩⟩
  · exact ⟨_, _, rfl, c, h1, .inr ⟨h2, rfl⟩⟩

theorem CmpIs.one {e e' : Ending} {m nA n nB : Bool} {an ad bn bd : List Nat} (h : CmpIs e m nA n nB an ad bn bd) (h' : CmpIs e' m nA n nB an ad bn bd) : e = e' := by
  obtain ⟨c, h1, h2⟩ := h
  obtain ⟨c', h1', h2'⟩ := h'
  obtain rfl := h1.one h1'
  rcases h2 with ⟨h0, rfl⟩ | ⟨h0, rfl⟩ <;> rcases h2' with ⟨h0', rfl⟩ | ⟨h0', rfl⟩
  · rfl
  · exact absurd h0' h0
  · exact absurd h0 h0'
  · rfl

end F
end Go.Proofs.YtcigcfcciggclaaGreat
