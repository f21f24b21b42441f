/- Variables of type Rat; a reckoning's answer in one form. rat.reduced: two whole numbers without what they share. Lists of one and two fractions; a right fraction's parts. shuntlaw02's of and same; Check of whatever fraction. rat.Lcm: of every list of fractions. -/
import Derived.Test.YtfpcoolkkmnngaaGam
import Derived.Test.YtfpcoolkkmnngaaGan
import Derived.Test.YtfpcoolkkmnngaaGal
namespace Go.Proofs.Ytfpcoolkkmnngaa
open Go.RowKit
namespace F

/-- The variable at block p holds a Rat of these four. -/
def RRow (w : World) (p : Nat) (x0 x1 x2 x3 : Value) : Prop := w.rowIs p 26 4 (fun i => if i = 0 then x0 else if i = 1 then x1 else if i = 2 then x2 else x3)

theorem RRow.alloc (w : World) (x0 x1 x2 x3 : Value) : RRow (w.alloc (.cells #[x0, x1, x2, x3] 26)) w.heap.size x0 x1 x2 x3 :=
  World.rowIs_alloc w #[x0, x1, x2, x3] 26 _ (fun i hi => by
    match i, hi with
    | 0, _ => rfl
    | 1, _ => rfl
    | 2, _ => rfl
    | 3, _ => rfl)

section
variable {w w' : World} {p : Nat} {x0 x1 x2 x3 : Value}
theorem RRow.lt (h : RRow w p x0 x1 x2 x3) : p < w.heap.size := World.rowIs.lt h
theorem RRow.c0 (h : RRow w p x0 x1 x2 x3) : w.cell? ⟨p, 0, none⟩ = some x0 := World.rowIs.cell h (i := 0) (by omega)
theorem RRow.c1 (h : RRow w p x0 x1 x2 x3) : w.cell? ⟨p, 1, none⟩ = some x1 := World.rowIs.cell h (i := 1) (by omega)
theorem RRow.c2 (h : RRow w p x0 x1 x2 x3) : w.cell? ⟨p, 2, none⟩ = some x2 := World.rowIs.cell h (i := 2) (by omega)
theorem RRow.c3 (h : RRow w p x0 x1 x2 x3) : w.cell? ⟨p, 3, none⟩ = some x3 := World.rowIs.cell h (i := 3) (by omega)
theorem RRow.fz (h : RRow w p x0 x1 x2 x3) (o : Nat) : w.frozen? ⟨p, o, none⟩ = false := World.rowIs.frozen h o
theorem RRow.kept (h : RRow w p x0 x1 x2 x3) (k : Kept w w') : RRow w' p x0 x1 x2 x3 := World.rowIs.of_block h (k.block p h.lt)
theorem RRow.keptK {kb : Nat} (h : RRow w p x0 x1 x2 x3) (hne : p ≠ kb) (k : KeptK kb w w') : RRow w' p x0 x1 x2 x3 := World.rowIs.of_block h (k.block p h.lt hne)
end

theorem Flag.alloc (w : World) (x : Bool) : Flag (w.alloc (.cells #[.bool x] 77)) w.heap.size x :=
  World.rowIs_alloc w #[.bool x] 77 _ (fun i hi => by
    match i, hi with
    | 0, _ => rfl)

theorem pos_false {s : Bool} {l : List Nat} (h : M.Right s l) (hp : 0 < M.int s l) : s = false := by
  cases s
  · rfl
  · have := int_neg_lt (R.of_right h); omega

theorem len_pos {s : Bool} {l : List Nat} (hp : 0 < M.int s l) : 0 < l.length := by
  apply Classical.byContradiction
  intro h
  have : l = [] := List.length_eq_zero_iff.1 (by omega)
  subst this
  cases s <;> simp [M.int, M.val] at hp

theorem answer_q (kb : Nat) (x s t : Bool) (ao ap : Option Addr) (k c k' c' : Nat) (w : World) (hF : Flag w kb x) :
    Calls Try.prog 58 #[.pointer (some ⟨kb, 0, none⟩), .agg #[.bool s, .slice ao k c], .agg #[.bool t, .slice ap k' c']] w fun e w' => Kept w w' ∧ ∃ (y0 y2 : Bool) (z1 z3 : Option Addr) (j1 e1 j3 e3 : Nat) (er : Int), e = .returned (.tuple #[.agg #[.bool y0, .slice z1 j1 e1, .bool y2, .slice z3 j3 e3], .int .i64 er]) ∧ ((x = false ∧ er = 0 ∧ y0 = s ∧ z1 = ao ∧ j1 = k ∧ e1 = c ∧ y2 = t ∧ z3 = ap ∧ j3 = k' ∧ e3 = c') ∨ (x = true ∧ er = 13 ∧ y0 = false ∧ z1 = none ∧ j1 = 0 ∧ e1 = 0 ∧ y2 = false ∧ z3 = none ∧ j3 = 0 ∧ e3 = 0)) := by
  refine (answer_r kb x s t ao ap k c k' c' w hF).mono ?_
  rintro e w' ⟨h1, rfl⟩
  cases x
  · exact ⟨h1, s, t, ao, ap, k, c, k', c', 0, rfl, .inl ⟨rfl, rfl, rfl, rfl, rfl, rfl, rfl, rfl, rfl, rfl⟩⟩
  · exact ⟨h1, false, false, none, none, 0, 0, 0, 0, 13, rfl, .inr ⟨rfl, rfl, rfl, rfl, rfl, rfl, rfl, rfl, rfl, rfl⟩⟩

end F
end Go.Proofs.Ytfpcoolkkmnngaa

namespace Go.Proofs.Ytfpcoolkkmnngaa
open Go.RowKit
namespace F

theorem hidp {p : Prop} (h : p) : Hid p := h

set_option maxHeartbeats 4000000 in
theorem reduced_r (m n : Bool) (aoa aob : Option Addr) (ka ca kb cb : Nat) (a b : List Nat) (w : World) (ha : Sl w (.slice aoa ka ca) a) (hb : Sl w (.slice aob kb cb) b) (hra : R m a) (hrb : R n b) (hg0 : 0 < Nat.gcd (M.val a) (M.val b)) :
    Calls Try.prog 29 #[.agg #[.bool m, .slice aoa ka ca], .agg #[.bool n, .slice aob kb cb]] w fun e w' => Kept w w' ∧ ∃ s ao k c l t ap k' c' l', e = .returned (.tuple #[.agg #[.bool s, .slice ao k c], .agg #[.bool t, .slice ap k' c']]) ∧ New w.heap.size w' (.slice ao k c) l ∧ New w.heap.size w' (.slice ap k' c') l' ∧ M.Right s l ∧ M.Right t l' ∧ M.int s l * (Nat.gcd (M.val a) (M.val b) : Nat) = M.int m a ∧ M.int t l' * (Nat.gcd (M.val a) (M.val b) : Nat) = M.int n b := by
  obtain ⟨g, HG⟩ : ∃ g, Hid (Nat.gcd (M.val a) (M.val b) = g) := ⟨_, rfl⟩
  rw [HG.out] at hg0 ⊢
  have HR : Hid (R m a ∧ R n b ∧ 0 < g) := ⟨hra, hrb, hg0⟩
  have HA : Hid (Sl w (.slice aoa ka ca) a ∧ Sl w (.slice aob kb cb) b) := ⟨ha, hb⟩
  obtain ⟨x, HX⟩ : ∃ x : Int, Hid (x * (g : Int) = M.int m a) := by
    have h : (g : Int) ∣ M.int m a := by apply Int.natAbs_dvd_natAbs.1; rw [M.natAbs_int, Int.natAbs_natCast, ← HG.out]; exact Nat.gcd_dvd_left _ _
    obtain ⟨z, hz⟩ := h
    exact ⟨z, by show _ = _; rw [hz, Int.mul_comm]⟩
  obtain ⟨y, HY⟩ : ∃ y : Int, Hid (y * (g : Int) = M.int n b) := by
    have h : (g : Int) ∣ M.int n b := by apply Int.natAbs_dvd_natAbs.1; rw [M.natAbs_int, Int.natAbs_natCast, ← HG.out]; exact Nat.gcd_dvd_right _ _
    obtain ⟨z, hz⟩ := h
    exact ⟨z, by show _ = _; rw [hz, Int.mul_comm]⟩
  clear ha hb hra hrb hg0
  have K4 : ∀ x y t u, Kept w ((((w.alloc x).alloc y).alloc t).alloc u) := fun x y t u => ((((Kept.refl w).alloc x).alloc y).alloc t).alloc u
  go_enter Try.func29, Try.ntmps29
  go_wp2_with fail
  refine (gcd_r m n (.slice aoa ka ca) (.slice aob kb cb) a b _ (HA.out.1.kept (K4 _ _ _ _)) (HA.out.2.kept (K4 _ _ _ _)) HR.out.1 HR.out.2.1).mono ?_
  rw [HG.out]
  rintro e w1 ⟨hk, sg, ag, kg, cg, lg, rfl, ng, rg, vg⟩
  obtain rfl : sg = false := pos_false rg (by rw [vg]; have := HR.out.2.2; omega)
  have HQ : Hid (M.Right false lg ∧ M.int false lg = (g : Int) ∧ 0 < lg.length) := ⟨rg, vg, len_pos (s := false) (by rw [vg]; have := HR.out.2.2; omega)⟩
  obtain ⟨ha0, ha1, hb0, hb1⟩ := box_kept2 ((((Kept.refl _).alloc _).alloc _).trans hk)
  have Z4 : ZBox w1 (w.heap.size + 1 + 1) := by
    have h := ((ZBox.alloc ((w.alloc (.cells #[.bool m, .slice aoa ka ca] 24)).alloc (.cells #[.bool n, .slice aob kb cb] 24))).kept ((Kept.refl _).alloc _)).kept hk
    simp only [World.size_alloc] at h
    exact h
  have Z5 : ZBox w1 (w.heap.size + 1 + 1 + 1) := by
    have h := (ZBox.alloc (((w.alloc (.cells #[.bool m, .slice aoa ka ca] 24)).alloc (.cells #[.bool n, .slice aob kb cb] 24)).alloc (.cells #[.bool false, .slice none 0 0] 24))).kept hk
    simp only [World.size_alloc] at h
    exact h
  have hKw := (K4 _ _ _ _).trans hk
  have HC : Hid ((w1.cell? ⟨w.heap.size, 0, none⟩ = some (.bool m) ∧ w1.cell? ⟨w.heap.size, 1, none⟩ = some (.slice aoa ka ca)) ∧ (w1.cell? ⟨w.heap.size + 1, 0, none⟩ = some (.bool n) ∧ w1.cell? ⟨w.heap.size + 1, 1, none⟩ = some (.slice aob kb cb)) ∧ ZBox w1 (w.heap.size + 1 + 1) ∧ ZBox w1 (w.heap.size + 1 + 1 + 1) ∧ Kept w w1 ∧ New w.heap.size w1 (.slice ag kg cg) lg) := ⟨⟨ha0, ha1⟩, ⟨hb0, hb1⟩, Z4, Z5, hKw, ng.mono (by simp; omega)⟩
  clear hk ng rg vg ha0 ha1 hb0 hb1 Z4 Z5 hKw K4
  go_upto_region 2 with fail
  have hK : Kept w1 (w1.alloc (.cells #[.bool false, .slice ag kg cg] 24)) := (Kept.refl w1).alloc _
  have hY := box_kept (Kept.refl (w1.alloc (.cells #[.bool false, .slice ag kg cg] 24)))
  generalize w1.alloc (.cells #[.bool false, .slice ag kg cg] 24) = W at hK hY ⊢
  obtain ⟨hy0, hy1⟩ := hY
  obtain ⟨⟨i1, i2⟩, ⟨i3, i4⟩, i5, i6, i7, i8⟩ := HC.out
  have z4 := i5.lt
  have z5 := i6.lt
  obtain ⟨p6, hp6⟩ : ∃ p, p = w1.heap.size := ⟨_, rfl⟩
  rw [← hp6] at hy0 hy1 z4 z5 ⊢
  obtain ⟨p5, hp5⟩ : ∃ p, p = w.heap.size + 1 + 1 + 1 := ⟨_, rfl⟩
  rw [← hp5] at i6 z5 ⊢
  obtain ⟨p4, hp4⟩ : ∃ p, p = w.heap.size + 1 + 1 := ⟨_, rfl⟩
  rw [← hp4] at i5 z4 ⊢
  obtain ⟨p3, hp3⟩ : ∃ p, p = w.heap.size + 1 := ⟨_, rfl⟩
  rw [← hp3] at i3 i4 ⊢
  obtain ⟨p2, hp2⟩ : ∃ p, p = w.heap.size := ⟨_, rfl⟩
  rw [← hp2] at i1 i2 ⊢
  have n1 : ¬ (p4 = p2) := by omega
  have n2 : ¬ (p4 = p3) := by omega
  have n3 : ¬ (p4 = p6) := by omega
  have n4 : ¬ (p5 = p2) := by omega
  have n5 : ¬ (p5 = p3) := by omega
  have n6 : ¬ (p5 = p6) := by omega
  have n7 : ¬ (p4 = p5) := by omega
  have n8 : ¬ (p5 = p4) := by omega
  have HP : Hid (w.heap.size ≤ p4 ∧ w.heap.size ≤ p5 ∧ p4 < W.heap.size ∧ p5 < W.heap.size ∧ w.heap.size ≤ W.heap.size) := ⟨by omega, by omega, (i5.kept hK).lt, (i6.kept hK).lt, (i7.trans hK).size⟩
  have HV : Hid (∀ V, Kept W V → (V.cell? ⟨p2, 0, none⟩ = some (.bool m) ∧ V.cell? ⟨p2, 1, none⟩ = some (.slice aoa ka ca)) ∧ (V.cell? ⟨p3, 0, none⟩ = some (.bool n) ∧ V.cell? ⟨p3, 1, none⟩ = some (.slice aob kb cb)) ∧ (V.cell? ⟨p6, 0, none⟩ = some (.bool false) ∧ V.cell? ⟨p6, 1, none⟩ = some (.slice ag kg cg)) ∧ ZBox V p4 ∧ ZBox V p5 ∧ Sl V (.slice aoa ka ca) a ∧ Sl V (.slice aob kb cb) b ∧ Sl V (.slice ag kg cg) lg) := fun V hV =>
    ⟨⟨cell_kept (hK.trans hV) i1, cell_kept (hK.trans hV) i2⟩, ⟨cell_kept (hK.trans hV) i3, cell_kept (hK.trans hV) i4⟩, ⟨cell_kept hV hy0, cell_kept hV hy1⟩, i5.kept (hK.trans hV), i6.kept (hK.trans hV), HA.out.1.kept ((i7.trans hK).trans hV), HA.out.2.kept ((i7.trans hK).trans hV), (i8.kept (hK.trans hV)).sl⟩
  have HKW := hidp (i7.trans hK)
  obtain ⟨⟨q0, q1⟩, ⟨q2, q3⟩, ⟨q4, q5⟩, _⟩ := HV.out _ (Kept.refl W)
  clear hK hy0 hy1 i1 i2 i3 i4 i5 i6 i7 i8 hp2 hp3 hp4 hp5 hp6 HC z4 z5 HA
  go_region_held3 (fun w' => w'.cell? ⟨p2, 0, none⟩ = some (.bool m) ∧ w'.cell? ⟨p2, 1, none⟩ = some (.slice aoa ka ca) ∧ w'.cell? ⟨p3, 0, none⟩ = some (.bool n) ∧ w'.cell? ⟨p3, 1, none⟩ = some (.slice aob kb cb) ∧ w'.cell? ⟨p6, 0, none⟩ = some (.bool false) ∧ w'.cell? ⟨p6, 1, none⟩ = some (.slice ag kg cg)) (go_keep) (first
    | (go_at_call_of 52 (Value.slice aoa ka ca); refine (exact_r m false (.slice aoa ka ca) (.slice ag kg cg) a lg x _ (HV.out _ (Kept.refl _).drew).2.2.2.2.2.1 (HV.out _ (Kept.refl _).drew).2.2.2.2.2.2.2 HR.out.1 (R.of_right HQ.out.1) HQ.out.2.2 (by rw [HQ.out.2.1]; exact HX.out)).mono ?_; rintro e w3 ⟨hk3, s3, a3, k3, c3, l3, rfl, n3', r3, v3⟩; have K3 := (Kept.refl W).drew.trans hk3; obtain ⟨⟨d0, d1⟩, ⟨d2, d3⟩, ⟨d4, d5⟩, _⟩ := HV.out _ K3; have H3 := hidp (And.intro n3' (And.intro r3 v3)); clear n3' r3 v3)
    | (go_at_call_of 52 (Value.slice aob kb cb); refine (exact_r n false (.slice aob kb cb) (.slice ag kg cg) b lg y _ (HV.out _ K3).2.2.2.2.2.2.1 (HV.out _ K3).2.2.2.2.2.2.2 HR.out.2.1 (R.of_right HQ.out.1) HQ.out.2.2 (by rw [HQ.out.2.1]; exact HY.out)).mono ?_; rintro e w4 ⟨hk4, s4, a4, k4, c4, l4, rfl, n4', r4, v4⟩; have K4 := K3.trans hk4; obtain ⟨⟨g0, g1⟩, ⟨g2, g3⟩, ⟨g4, g5⟩, zz4, zz5, _⟩ := HV.out _ K4; have H4 := hidp (And.intro n4' (And.intro r4 (And.intro v4 (H3.out.1.kept hk4)))); have HZ3 := hidp K3.size; clear n4' r4 v4; have e0 := zz4.c0; have e1 := zz4.c1; have e2 := zz4.fz 0; have e3 := zz4.fz 1; have e4 := zz5.c0; have e5 := zz5.c1; have e6 := zz5.fz 0; have e7 := zz5.fz 1))
  have HK4 := hidp (HKW.out.trans K4)
  have HZ := hidp (And.intro zz4 zz5)
  have HZW := hidp ((Kept.refl W).drew).size
  clear q0 q1 q2 q3 q4 q5 d0 d1 d2 d3 d4 d5 g0 g1 g2 g3 g4 g5 hk3 hk4 K3 K4 HV zz4 zz5
  go_wp2
  obtain ⟨b1, b2, b3, b4, b5⟩ := HP.out
  have hz3 := HZ3.out
  have hzw := HZW.out
  refine bodyPost_ret (v := .tuple #[.agg #[.bool s3, .slice a3 k3 c3], .agg #[.bool s4, .slice a4 k4 c4]]) (by simp [results, Try.results29, go_sem, e0, e1, e4, e5]) rfl ⟨?_, s3, a3, k3, c3, l3, s4, a4, k4, c4, l4, rfl, ?_, ?_, H3.out.2.1, H4.out.2.1, ?_, ?_⟩
  · exact (((HK4.out.setCell b1 _).setCell b1 _).setCell b2 _).setCell b2 _
  · exact (New.box2 (New.box2 H4.out.2.2.2 HZ.out.1 _ _) (HZ.out.2.far n8 _ _) _ _).mono (by omega)
  · exact (New.box2 (New.box2 H4.out.1 HZ.out.1 _ _) (HZ.out.2.far n8 _ _) _ _).mono (by omega)
  · rw [H3.out.2.2]; exact HX.out
  · rw [H4.out.2.2.1]; exact HY.out

end F
end Go.Proofs.Ytfpcoolkkmnngaa

namespace Go.Proofs.Ytfpcoolkkmnngaa
open Go.RowKit
namespace F

/-- A right fraction in a world: its parts' values. -/
structure RatR (m n : Bool) (a d : List Nat) : Prop where
  ra : R m a
  rd : R n d
  pos : 0 < M.int n d
  low : Nat.gcd (M.val a) (M.val d) = 1

theorem RatR.sgn {m n : Bool} {a d : List Nat} (h : RatR m n a d) : n = false := by
  cases n
  · rfl
  · have := int_neg_lt h.rd; have := h.pos; omega

theorem RatR.val {m n : Bool} {a d : List Nat} (h : RatR m n a d) : M.int n d = (M.val d : Int) := by rw [h.sgn]; simp [M.int]

theorem RatR.vpos {m n : Bool} {a d : List Nat} (h : RatR m n a d) : 0 < M.val d := by have := h.pos; rw [h.val] at this; omega

/-- One or the other. -/
def two {α : Type} (x y : α) (i : Nat) : α := if i = 0 then x else y

theorem RatAll.two {w : World} {b : Nat} {m n p q : Bool} {a1 a2 b1 b2 : Option Addr} {k1 c1 k2 c2 k3 c3 k4 c4 : Nat} {an ad bn bd : List Nat}
    (h0 : w.cell? ⟨b, 0, none⟩ = some (.bool m)) (h1 : w.cell? ⟨b, 1, none⟩ = some (.slice a1 k1 c1)) (h2 : w.cell? ⟨b, 2, none⟩ = some (.bool n)) (h3 : w.cell? ⟨b, 3, none⟩ = some (.slice a2 k2 c2))
    (h4 : w.cell? ⟨b, 4, none⟩ = some (.bool p)) (h5 : w.cell? ⟨b, 5, none⟩ = some (.slice b1 k3 c3)) (h6 : w.cell? ⟨b, 6, none⟩ = some (.bool q)) (h7 : w.cell? ⟨b, 7, none⟩ = some (.slice b2 k4 c4))
    (s1 : Sl w (.slice a1 k1 c1) an) (s2 : Sl w (.slice a2 k2 c2) ad) (s3 : Sl w (.slice b1 k3 c3) bn) (s4 : Sl w (.slice b2 k4 c4) bd)
    (l1 : an.length ≤ 9223372036854775807) (l2 : ad.length ≤ 9223372036854775807) (l3 : bn.length ≤ 9223372036854775807) (l4 : bd.length ≤ 9223372036854775807) :
    RatAll w b 0 2 (F.two m p) (F.two n q) (F.two a1 b1) (F.two a2 b2) (F.two k1 k3) (F.two c1 c3) (F.two k2 k4) (F.two c2 c4) (F.two an bn) (F.two ad bd) := by
  intro i hi
  match i, hi with
  | 0, _ => exact ⟨⟨h0, h1, h2, h3⟩, s1, s2, l1, l2⟩
  | 1, _ => exact ⟨⟨h4, h5, h6, h7⟩, s3, s4, l3, l4⟩

theorem Refused.two {m n p q : Bool} {an ad bn bd : List Nat} {c : Int} (hA : RatR m n an ad) (hB : RatR p q bn bd) (h : Refused 2 (F.two m p) (F.two n q) (F.two an bn) (F.two ad bd) c) : c = 0 := by
  rcases h with ⟨_, i, hi, h⟩ | ⟨_, ⟨_, i, hi, h⟩ | ⟨h, _⟩⟩
  · exfalso
    match i, hi with
    | 0, _ => exact h ⟨hA.ra, hA.rd⟩
    | 1, _ => exact h ⟨hB.ra, hB.rd⟩
  · exfalso
    match i, hi with
    | 0, _ => exact h ⟨hA.pos, hA.low⟩
    | 1, _ => exact h ⟨hB.pos, hB.low⟩
  · exact h

theorem RatAll.single {w : World} {b : Nat} {m n : Bool} {a1 a2 : Option Addr} {k1 c1 k2 c2 : Nat} {an ad : List Nat}
    (h0 : w.cell? ⟨b, 0, none⟩ = some (.bool m)) (h1 : w.cell? ⟨b, 1, none⟩ = some (.slice a1 k1 c1)) (h2 : w.cell? ⟨b, 2, none⟩ = some (.bool n)) (h3 : w.cell? ⟨b, 3, none⟩ = some (.slice a2 k2 c2))
    (s1 : Sl w (.slice a1 k1 c1) an) (s2 : Sl w (.slice a2 k2 c2) ad) (l1 : an.length ≤ 9223372036854775807) (l2 : ad.length ≤ 9223372036854775807) :
    RatAll w b 0 1 (fun _ => m) (fun _ => n) (fun _ => a1) (fun _ => a2) (fun _ => k1) (fun _ => c1) (fun _ => k2) (fun _ => c2) (fun _ => an) (fun _ => ad) := by
  intro i hi
  match i, hi with
  | 0, _ => exact ⟨⟨h0, h1, h2, h3⟩, s1, s2, l1, l2⟩

theorem Refused.single {m n : Bool} {an ad : List Nat} {c : Int} (hA : RatR m n an ad) (h : Refused 1 (fun _ => m) (fun _ => n) (fun _ => an) (fun _ => ad) c) : c = 0 := by
  rcases h with ⟨_, i, hi, h⟩ | ⟨_, ⟨_, i, hi, h⟩ | ⟨h, _⟩⟩
  · exact absurd ⟨hA.ra, hA.rd⟩ h
  · exact absurd ⟨hA.pos, hA.low⟩ h
  · exact h

end F
end Go.Proofs.Ytfpcoolkkmnngaa

namespace Go.Proofs.Ytfpcoolkkmnngaa
open Go.RowKit
namespace F

/-- The variable at block p holds an Int of these two. -/
def IRow (w : World) (p : Nat) (x0 x1 : Value) : Prop := w.rowIs p 24 2 (fun i => if i = 0 then x0 else x1)

theorem IRow.alloc (w : World) (x0 x1 : Value) : IRow (w.alloc (.cells #[x0, x1] 24)) w.heap.size x0 x1 :=
  World.rowIs_alloc w #[x0, x1] 24 _ (fun i hi => by
    match i, hi with
    | 0, _ => rfl
    | 1, _ => rfl)

section
variable {w w' : World} {p : Nat} {x0 x1 : Value}
theorem IRow.lt (h : IRow w p x0 x1) : p < w.heap.size := World.rowIs.lt h
theorem IRow.c0 (h : IRow w p x0 x1) : w.cell? ⟨p, 0, none⟩ = some x0 := World.rowIs.cell h (i := 0) (by omega)
theorem IRow.c1 (h : IRow w p x0 x1) : w.cell? ⟨p, 1, none⟩ = some x1 := World.rowIs.cell h (i := 1) (by omega)
theorem IRow.kept (h : IRow w p x0 x1) (k : Kept w w') : IRow w' p x0 x1 := World.rowIs.of_block h (k.block p h.lt)
end

theorem set4' {B p : Nat} {w : World} {v : Value} {l : List Nat} (h : New B w v l) (hp : p < B) (x0 x1 x2 x3 : Value) : New B ((((w.setCell ⟨p, 0, none⟩ x0).setCell ⟨p, 1, none⟩ x1).setCell ⟨p, 2, none⟩ x2).setCell ⟨p, 3, none⟩ x3) v l :=
  (((h.other hp _).other hp _).other hp _).other hp _

set_option maxHeartbeats 1000000 in
theorem Check_any (m n : Bool) (aoa aob : Option Addr) (ka ca kb cb : Nat) (a d : List Nat) (w : World) (ha : Sl w (.slice aoa ka ca) a) (hd : Sl w (.slice aob kb cb) d) (hla : a.length ≤ 9223372036854775807) (hld : d.length ≤ 9223372036854775807) :
    Calls Try.prog 20 #[.agg #[.bool m, .slice aoa ka ca, .bool n, .slice aob kb cb]] w fun e w' => Kept w w' ∧ ∃ c : Int, e = .returned (.int .i64 c) ∧ Refused 1 (fun _ => m) (fun _ => n) (fun _ => a) (fun _ => d) c := by
  have HA : Hid (Sl w (.slice aoa ka ca) a ∧ Sl w (.slice aob kb cb) d ∧ a.length ≤ 9223372036854775807 ∧ d.length ≤ 9223372036854775807) := ⟨ha, hd, hla, hld⟩
  clear ha hd hla hld
  have K2 : ∀ x y, Kept w ((w.alloc x).alloc y) := fun x y => ((Kept.refl w).alloc x).alloc y
  go_enter Try.func20, Try.ntmps20
  go_wp2_with fail
  refine (refusal_any _ (w.heap.size + 1) 0 1 1 _ _ _ _ _ _ _ _ _ _ _ (fun _ => rfl) (by omega) (RatAll.single (m := m) (n := n) (a1 := aoa) (a2 := aob) (k1 := ka) (c1 := ca) (k2 := kb) (c2 := cb) (by simp) (by simp) (by simp) (by simp) (HA.out.1.kept (K2 _ _)) (HA.out.2.1.kept (K2 _ _)) HA.out.2.2.1 HA.out.2.2.2)).mono ?_
  rintro e w1 ⟨hk, c, rfl, hc⟩
  have HK : Hid (Kept w w1 ∧ Refused 1 (fun _ => m) (fun _ => n) (fun _ => a) (fun _ => d) c) := ⟨(K2 _ _).trans hk, hc⟩
  clear hk hc K2
  go_wp2
  go_ret
  exact ⟨HK.out.1, c, rfl, HK.out.2⟩

set_option maxHeartbeats 1000000 in
theorem Check_ok (m n : Bool) (aoa aob : Option Addr) (ka ca kb cb : Nat) (a d : List Nat) (w : World) (ha : Sl w (.slice aoa ka ca) a) (hd : Sl w (.slice aob kb cb) d) (hA : RatR m n a d) :
    Calls Try.prog 20 #[.agg #[.bool m, .slice aoa ka ca, .bool n, .slice aob kb cb]] w fun e w' => e = .returned (.int .i64 0) ∧ Kept w w' := by
  refine (Check_any m n aoa aob ka ca kb cb a d w ha hd (by have := hA.ra.1; omega) (by have := hA.rd.1; omega)).mono ?_
  rintro e w' ⟨h1, c, rfl, hc⟩
  exact ⟨by rw [Refused.single hA hc], h1⟩

theorem Check_zero (w : World) : Calls Try.prog 20 #[.agg #[.bool false, .slice none 0 0, .bool false, .slice none 0 0]] w fun e w' => e = .returned (.int .i64 20) ∧ Kept w w' := by
  refine (Check_any false false none none 0 0 0 0 [] [] w (Sl.nil _ _ _) (Sl.nil _ _ _) (by simp) (by simp)).mono ?_
  rintro e w' ⟨h1, c, rfl, hc⟩
  have hr : R false [] := ⟨by simp, fun _ => rfl, fun h => by simp at h⟩
  rcases hc with ⟨_, i, hi, h⟩ | ⟨_, ⟨h, _⟩ | ⟨_, h⟩⟩
  · exact absurd ⟨hr, hr⟩ h
  · exact ⟨by rw [h], h1⟩
  · have := (h 0 (by omega)).1
    simp [M.int, M.val] at this

/-- A fraction in new memory that is right, of values X over Y. -/
def RatN (B : Nat) (w : World) (v : Value) (X Y : Int) : Prop :=
  ∃ s ao k c l t ap k' c' l', v = .agg #[.bool s, .slice ao k c, .bool t, .slice ap k' c'] ∧ New B w (.slice ao k c) l ∧ M.Right s l ∧ M.int s l = X ∧ New B w (.slice ap k' c') l' ∧ M.Right t l' ∧ M.int t l' = Y ∧ RatR s t l l'

theorem made_low {a b : Nat} {x y g X Y : Int} (hg : g.natAbs = Nat.gcd a b) (ha : x.natAbs = a) (hb : y.natAbs = b) (hx : X * g = x) (hy : Y * g = y) (hy0 : y ≠ 0) (hs : g < 0 ↔ y < 0) : 0 < Y ∧ Nat.gcd X.natAbs Y.natAbs = 1 := by
  subst ha hb hx hy
  have g0 : g ≠ 0 := fun h => hy0 (by rw [h]; simp)
  refine ⟨?_, ?_⟩
  · rcases Int.lt_trichotomy Y 0 with h | h | h
    · exfalso
      rcases Int.lt_or_gt_of_ne g0 with h1 | h1
      · have := Int.mul_pos_of_neg_of_neg h h1
        have := hs.1 h1
        omega
      · have := Int.mul_neg_of_neg_of_pos h h1
        have := hs.2 this
        omega
    · exact absurd (by rw [h]; simp) hy0
    · exact h
  · rw [Int.natAbs_mul, Int.natAbs_mul, Nat.gcd_mul_right] at hg
    have hp : 0 < g.natAbs := by omega
    exact Nat.eq_of_mul_eq_mul_right hp (by omega)

theorem RatIs.right {B : Nat} {w : World} {v : Value} {X Y : Int} (h : RatIs B w v X Y) (h0 : 0 < Y) (h1 : Nat.gcd X.natAbs Y.natAbs = 1) : RatN B w v X Y := by
  obtain ⟨s, ao, k, c, l, t, ap, k', c', l', rfl, n1, r1, v1, n2, r2, v2⟩ := h
  refine ⟨s, ao, k, c, l, t, ap, k', c', l', rfl, n1, r1, v1, n2, r2, v2, R.of_right r1, R.of_right r2, by rw [v2]; exact h0, ?_⟩
  rw [← M.natAbs_int s l, ← M.natAbs_int t l', v1, v2]; exact h1

/-- Make of right parts, den not 0. -/
theorem Make_ok (m n : Bool) (aoa aob : Option Addr) (ka ca kb cb : Nat) (a b : List Nat) (w : World) (ha : Sl w (.slice aoa ka ca) a) (hb : Sl w (.slice aob kb cb) b) (hra : R m a) (hrb : R n b) (hb0 : 0 < b.length) :
    Calls Try.prog 41 #[.agg #[.bool m, .slice aoa ka ca], .agg #[.bool n, .slice aob kb cb]] w fun e w' => Kept w w' ∧ ∃ v X Y, e = .returned (.tuple #[v, .int .i64 0]) ∧ RatN w.heap.size w' v X Y ∧ ∃ g : Int, g.natAbs = Nat.gcd (M.val a) (M.val b) ∧ X * g = M.int m a ∧ Y * g = M.int n b ∧ (g < 0 ↔ M.int n b < 0) := by
  refine (make_r m n aoa aob ka ca kb cb a b w ha hb hra hrb hb0).mono ?_
  rintro e w' ⟨h1, v, X, Y, rfl, h2, g, h3, h4, h5, h6⟩
  have hp := M.val_pos hrb.tr (fun e => by rw [e] at hb0; simp at hb0)
  have hl := made_low h3 (M.natAbs_int m a) (M.natAbs_int n b) h4 h5 (fun h => by rw [← M.natAbs_int n b, h] at hp; simp at hp) h6
  exact ⟨h1, v, X, Y, rfl, h2.right hl.1 hl.2, g, h3, h4, h5, h6⟩

set_option maxHeartbeats 2000000 in
theorem of_ok (x y : Int) (w : World) (x1 : -9223372036854775808 ≤ x) (x2 : x ≤ 9223372036854775807) (y1 : -9223372036854775808 ≤ y) (y2 : y ≤ 9223372036854775807) (y0 : y ≠ 0) :
    Calls Try.prog 18 #[.int .i64 x, .int .i64 y] w fun e w' => Kept w w' ∧ ∃ v X Y, e = .returned v ∧ RatN w.heap.size w' v X Y ∧ ∃ g : Int, g.natAbs = Nat.gcd x.natAbs y.natAbs ∧ X * g = x ∧ Y * g = y ∧ (g < 0 ↔ y < 0) := by
  have HY : Hid (y ≠ 0) := y0
  have HX : Hid ((-9223372036854775808 ≤ x ∧ x ≤ 9223372036854775807) ∧ (-9223372036854775808 ≤ y ∧ y ≤ 9223372036854775807)) := ⟨⟨x1, x2⟩, y1, y2⟩
  clear x1 x2 y1 y2 y0
  go_enter Try.func18, Try.ntmps18
  go_wp2_with fail
  refine (of_any x _ HX.out.1.1 HX.out.1.2).mono ?_
  rintro e w1 ⟨hk1, s1, a1, k1, c1, l1, rfl, n1, r1, v1⟩
  have rZ := (RRow.alloc w (.bool false) (.slice none 0 0) (.bool false) (.slice none 0 0)).kept hk1
  have HK1 : Hid (Kept w w1 ∧ New w.heap.size w1 (.slice a1 k1 c1) l1 ∧ M.Right s1 l1 ∧ M.int s1 l1 = x) := ⟨((Kept.refl w).alloc _).trans hk1, n1.mono (by simp), r1, v1⟩
  have HZ := hid' rZ
  clear hk1 n1 r1 v1 rZ
  go_wp2_with fail
  refine (of_any y _ HX.out.2.1 HX.out.2.2).mono ?_
  rintro e w2 ⟨hk2, s2, a2, k2, c2, l2, rfl, n2, r2, v2⟩
  have HK2 : Hid (Kept w w2 ∧ Sl w2 (.slice a1 k1 c1) l1 ∧ Sl w2 (.slice a2 k2 c2) l2 ∧ M.Right s2 l2 ∧ M.int s2 l2 = y) := ⟨HK1.out.1.trans hk2, (HK1.out.2.1.kept hk2).sl, n2.sl, r2, v2⟩
  have HZ2 := hid' (HZ.out.kept hk2)
  clear hk2 n2 r2 v2
  go_wp2_with fail
  have hl2 : 0 < l2.length := by
    apply Classical.byContradiction
    intro h
    have h9 : l2 = [] := List.length_eq_zero_iff.1 (by omega)
    have h8 := HK2.out.2.2.2.2
    rw [h9] at h8
    apply HY.out
    rw [← h8]
    cases s2 <;> simp [M.int, M.val]
  have HL := hid' hl2
  clear hl2
  refine (Make_ok s1 s2 a1 a2 k1 c1 k2 c2 l1 l2 _ HK2.out.2.1 HK2.out.2.2.1 (R.of_right HK1.out.2.2.1) (R.of_right HK2.out.2.2.2.1) HL.out).mono ?_
  rintro e w3 ⟨hk3, v, X, Y, rfl, hR, hg⟩
  obtain ⟨s, ao, k, c, l, t, ap, k', c', l', rfl, q1, q2, q3, q4, q5, q6, q7⟩ := hR
  rw [HK1.out.2.2.2, HK2.out.2.2.2.2, ← M.natAbs_int s1 l1, ← M.natAbs_int s2 l2, HK1.out.2.2.2, HK2.out.2.2.2.2] at hg
  have HQ := hid' (And.intro q1 (And.intro q2 (And.intro q3 (And.intro q4 (And.intro q5 (And.intro q6 q7))))))
  have HG := hid' hg
  have rZ := HZ2.out.kept hk3
  have i0 := rZ.c0
  have i1 := rZ.c1
  have i2 := rZ.c2
  have i3 := rZ.c3
  have o0 := rZ.fz 0
  have o1 := rZ.fz 1
  have o2 := rZ.fz 2
  have o3 := rZ.fz 3
  have hz := rZ.lt
  have HKK : Hid (Kept w w3 ∧ w.heap.size < w2.heap.size) := ⟨HK2.out.1.trans hk3, HZ2.out.lt⟩
  clear hk3 q1 q2 q3 q4 q5 q6 q7 hg rZ
  go_wp2
  obtain ⟨q1, q2, q3, q4, q5, q6, q7⟩ := HQ.out
  have hz2 := HKK.out.2
  refine bodyPost_ret (v := .agg #[.bool s, .slice ao k c, .bool t, .slice ap k' c']) (by simp [results, Try.results18, go_sem, i0, i1, i2, i3, hz]) rfl ⟨?_, _, X, Y, rfl, ⟨s, ao, k, c, l, t, ap, k', c', l', rfl, ?_, q2, q3, ?_, q5, q6, q7⟩, HG.out⟩
  · exact ((((HKK.out.1.setCell (by show w.heap.size ≤ w.heap.size; omega) _).setCell (by show w.heap.size ≤ w.heap.size; omega) _).setCell (by show w.heap.size ≤ w.heap.size; omega) _).setCell (by show w.heap.size ≤ w.heap.size; omega) _).alloc _
  · exact ((set4' q1 hz2 _ _ _ _).kept ((Kept.refl _).alloc _)).mono (by omega)
  · exact ((set4' q4 hz2 _ _ _ _).kept ((Kept.refl _).alloc _)).mono (by omega)

set_option maxHeartbeats 1000000 in
theorem lsame_r (m n : Bool) (va vb vc vd : Value) (a b : List Nat) (w : World) (ha : Sl w va a) (hb : Sl w vb b) (hc : Sl w vc a) (hd : Sl w vd b) (hla : a.length ≤ 1000) (hlb : b.length ≤ 1000) :
    Calls Try.prog 10 #[.agg #[.bool m, va, .bool n, vb], .agg #[.bool m, vc, .bool n, vd]] w fun e w' => e = .returned (.bool true) ∧ Kept w w' := by
  have HA : Hid (Sl w va a ∧ Sl w vb b ∧ Sl w vc a ∧ Sl w vd b ∧ a.length ≤ 1000 ∧ b.length ≤ 1000) := ⟨ha, hb, hc, hd, hla, hlb⟩
  clear ha hb hc hd hla hlb
  have K2 : ∀ x y, Kept w ((w.alloc x).alloc y) := fun x y => ((Kept.refl w).alloc x).alloc y
  go_enter Try.func10, Try.ntmps10
  go_wp2_with fail
  refine (same_r m n va vb vc vd a b _ (HA.out.1.kept (K2 _ _)) (HA.out.2.1.kept (K2 _ _)) (HA.out.2.2.1.kept (K2 _ _)) (HA.out.2.2.2.1.kept (K2 _ _)) HA.out.2.2.2.2.1 HA.out.2.2.2.2.2).mono ?_
  rintro e w1 ⟨rfl, hk⟩
  have HK : Hid (Kept w w1) := (K2 _ _).trans hk
  clear hk K2
  go_wp2
  go_ret
  exact ⟨rfl, HK.out⟩

end F
end Go.Proofs.Ytfpcoolkkmnngaa

namespace Go.Proofs.Ytfpcoolkkmnngaa
open Go.RowKit
namespace F

theorem IRow.fz {w : World} {p : Nat} {x0 x1 : Value} (h : IRow w p x0 x1) (o : Nat) : w.frozen? ⟨p, o, none⟩ = false := World.rowIs.frozen h o
theorem IRow.set2 {w : World} {p : Nat} {x0 x1 : Value} (h : IRow w p x0 x1) (y0 y1 : Value) : IRow ((w.setCell ⟨p, 0, none⟩ y0).setCell ⟨p, 1, none⟩ y1) p y0 y1 :=
  ((World.rowIs.set (World.rowIs.set h 0 y0) 1 y1).congr fun i hi => by
    match i, hi with
    | 0, _ => rfl
    | 1, _ => rfl)
theorem IRow.far {w : World} {p q : Nat} {x0 x1 : Value} (h : IRow w p x0 x1) (hne : ¬ p = q) (x y : Value) : IRow ((w.setCell ⟨q, 0, none⟩ x).setCell ⟨q, 1, none⟩ y) p x0 x1 :=
  World.rowIs.setOther (World.rowIs.setOther h hne x) hne y
theorem ZBox.irow {w : World} {p : Nat} (h : ZBox w p) : IRow w p (.bool false) (.slice none 0 0) := h
theorem IRow.zbox {w : World} {p : Nat} (h : IRow w p (.bool false) (.slice none 0 0)) : ZBox w p := h

theorem New.ibox2 {B p : Nat} {w : World} {v : Value} {l : List Nat} {x0 x1 : Value} (h : New B w v l) (hz : IRow w p x0 x1) (x y : Value) : New B ((w.setCell ⟨p, 0, none⟩ x).setCell ⟨p, 1, none⟩ y) v l := by
  obtain ⟨hb, ⟨rfl, rfl⟩ | ⟨b, N, f, rfl, hB, hN, hr, hf⟩⟩ := h
  · exact ⟨hb, .inl ⟨rfl, rfl⟩⟩
  · have hne : b ≠ p := by
      intro e
      subst e
      obtain ⟨c, h1, _, _⟩ := hr
      obtain ⟨c', h2, _, _⟩ := hz
      rw [h1] at h2
      simp at h2
    exact ⟨hb, .inr ⟨b, N, f, rfl, hB, hN, World.rowIs.setOther (World.rowIs.setOther hr hne x) hne y, hf⟩⟩

/-- The least common multiple, or that it is too wide. -/
def LcmIs (B : Nat) (w : World) (e : Ending) (L : Nat) : Prop :=
  (∃ ao k c l, e = .returned (.tuple #[.agg #[.bool false, .slice ao k c], .int .i64 0]) ∧ New B w (.slice ao k c) l ∧ M.Right false l ∧ M.val l = L) ∨ (e = .returned (.tuple #[.agg #[.bool false, .slice none 0 0], .int .i64 13]) ∧ M.W72 ≤ L)

theorem RatAll.kept {w w' : World} {b off N : Nat} {m n : Nat → Bool} {aa ad : Nat → Option Addr} {ka ca kd cd : Nat → Nat} {a d : Nat → List Nat} (h : RatAll w b off N m n aa ad ka ca kd cd a d) (k : Kept w w') : RatAll w' b off N m n aa ad ka ca kd cd a d := fun i hi => by
  obtain ⟨⟨h0, h1, h2, h3⟩, h4, h5, h6⟩ := h i hi
  exact ⟨⟨cell_kept k h0, cell_kept k h1, cell_kept k h2, cell_kept k h3⟩, h4.kept k, h5.kept k, h6⟩

theorem int_val {l : List Nat} : M.int false l = (M.val l : Int) := by simp [M.int]

/-- A round: the multiple so far, the denominator, its own part, and the product. -/
theorem lcm_round {s t : Bool} {l l' : List Nat} {L : Nat} {m n : Bool} {a d : List Nat} (hs : s = false) (hL : M.val l = L) (hp : 0 < L) (hd : RatR m n a d) (ht : M.int t l' * (Nat.gcd (M.val l) (M.val d) : Nat) = M.int n d) : M.int s l * M.int t l' = ((Nat.lcm L (M.val d) : Nat) : Int) := by
  subst hs hL
  have hn := hd.sgn
  subst hn
  have hg : 0 < Nat.gcd (M.val l) (M.val d) := Nat.gcd_pos_of_pos_left _ hp
  rw [int_val] at ht ⊢
  have e : (M.int t l').natAbs * Nat.gcd (M.val l) (M.val d) = M.val d := by
    have := congrArg Int.natAbs ht
    rwa [Int.natAbs_mul, Int.natAbs_natCast, Int.natAbs_natCast] at this
  have hpos : 0 ≤ M.int t l' := by
    rcases Int.lt_or_le (M.int t l') 0 with h | h
    · have := Int.mul_neg_of_neg_of_pos h (show (0 : Int) < (Nat.gcd (M.val l) (M.val d) : Nat) by omega)
      omega
    · exact h
  have h2 := lcm_own hp e
  have h3 : M.int t l' = ((M.int t l').natAbs : Int) := by omega
  rw [← h2, h3]
  simp

theorem pos_sgn {s : Bool} {l : List Nat} {L : Nat} (h : M.Right s l) (hv : M.int s l = (L : Int)) (hp : 0 < L) : s = false ∧ M.val l = L := by
  have hs := pos_false h (by omega)
  subst hs
  rw [int_val] at hv
  exact ⟨rfl, by omega⟩

set_option maxRecDepth 100000 in
set_option maxHeartbeats 8000000 in
theorem Lcm_ok (ao : Option Addr) (b off N cap : Nat) (w : World) (m n : Nat → Bool) (aa ad : Nat → Option Addr) (ka ca kd cd : Nat → Nat) (a d : Nat → List Nat) (hao : 0 < N → ao = some ⟨b, off, none⟩) (hN : N ≤ 1000000) (H : RatAll w b off N m n aa ad ka ca kd cd a d) :
    Calls Try.prog 12 #[.slice ao N cap] w fun e w' => Kept w w' ∧ ∃ c : Int, Refused N m n a d c ∧ ((c ≠ 0 ∧ e = .returned (.tuple #[.agg #[.bool false, .slice none 0 0], .int .i64 c])) ∨ (c = 0 ∧ LcmIs w.heap.size w' e (lcmOf (fun i => M.val (d i)) N))) := by
  have HH : Hid (RatAll w b off N m n aa ad ka ca kd cd a d ∧ (0 < N → ao = some ⟨b, off, none⟩)) := ⟨H, hao⟩
  clear H hao
  go_enter Try.func12, Try.ntmps12
  go_wp2_with fail
  refine (refusal_any ao b off N cap _ m n aa ad ka ca kd cd a d HH.out.2 hN (HH.out.1.kept ((Kept.refl w).alloc _))).mono ?_
  rintro e w1 ⟨hk1, c, rfl, hc⟩
  have HC := hid' hc
  have Z2 := (ZBox.alloc w).kept hk1
  have HK1 : Hid (Kept w w1) := ((Kept.refl w).alloc _).trans hk1
  clear hk1 hc
  by_cases hc0 : c = 0
  · subst hc0
    have HR : Hid (∀ i, i < N → RatR (m i) (n i) (a i) (d i)) := fun i hi => by
      rcases HC.out with ⟨h, _⟩ | ⟨h1, ⟨h, _⟩ | ⟨_, h⟩⟩
      · exact absurd h (by decide)
      · exact absurd h (by decide)
      · exact ⟨(h1 i hi).1, (h1 i hi).2, (h i hi).1, (h i hi).2⟩
    have HD : Hid (∀ i, i < N → 0 < M.val (d i)) := fun i hi => (HR.out i hi).vpos
    go_wp2_with fail
    refine (of_any 1 _ (by omega) (by omega)).mono ?_
    rintro e w2 ⟨hk2, s, ao1, k1, c1, l1, rfl, n1, r1, v1⟩
    have Z2 := hid' (Z2.kept hk2)
    have HK2 := hid' (HK1.out.trans hk2)
    have HN1 := hid' (And.intro (n1.mono HK1.out.size) (And.intro r1 v1))
    clear hk2 n1 r1 v1 HK1
    go_upto_region 6 with fail
    have hI := IRow.alloc w2 (.bool s) (.slice ao1 k1 c1)
    have hK := (Kept.refl w2).alloc (.cells #[.bool s, .slice ao1 k1 c1] 24)
    generalize w2.alloc (.cells #[.bool s, .slice ao1 k1 c1] 24) = W at hI hK ⊢
    have HP : Hid (w.heap.size < w2.heap.size) := Nat.lt_of_lt_of_le Z2.out.lt (Nat.le_refl _)
    obtain ⟨p5, hp5⟩ : ∃ p, p = w2.heap.size := ⟨_, rfl⟩
    obtain ⟨p2, hp2⟩ : ∃ p, p = w.heap.size := ⟨_, rfl⟩
    rw [← hp5] at hI ⊢
    rw [← hp2] at ⊢
    have HP : Hid (p2 = w.heap.size ∧ p2 < p5) := ⟨hp2, by have := HP.out; omega⟩
    have h25 : ¬ p2 = p5 := by have := HP.out.2; omega
    have h52 : ¬ p5 = p2 := by have := HP.out.2; omega
    go_loopw [21] (fun vi wr => ∃ (k : Nat) (s : Bool) (ao1 : Option Addr) (k1 c1 : Nat), k ≤ N ∧ vi = .int .i64 (k : Int) ∧ Hid (Kept w wr ∧ ZBox wr p2 ∧ IRow wr p5 (.bool s) (.slice ao1 k1 c1) ∧ ∃ l, New w.heap.size wr (.slice ao1 k1 c1) l ∧ M.Right s l ∧ M.int s l = (lcmOf (fun i => M.val (d i)) k : Nat))) (fun vi _ => N - (intOf vi).toNat)
    case atStart => exact ⟨0, s, ao1, k1, c1, Nat.zero_le _, rfl, HK2.out.trans hK, by rw [HP.out.1]; exact Z2.out.kept hK, hI, l1, HN1.out.1.kept hK, HN1.out.2.1, HN1.out.2.2⟩
    case round =>
      clear hI hK hp5 hp2 HN1 HK2 Z2
      obtain ⟨k, s, ao1, k1, c1, hk, rfl, HI⟩ := hrel
      obtain ⟨-, -, i3, -⟩ := HI.out
      have f0 := i3.c0
      have f1 := i3.c1
      by_cases hlt : k < N
      · obtain ⟨⟨h0, h1, h2, h3⟩, h4⟩ := HH.out.1 k hlt
        obtain rfl := HH.out.2 (by omega)
        have h0 := cell_kept HI.out.1 h0
        have h1 := cell_kept HI.out.1 h1
        have h2 := cell_kept HI.out.1 h2
        have h3 := cell_kept HI.out.1 h3
        have H4 := hid' h4
        obtain ⟨-, -, -, l, hl⟩ := HI.out
        have HL := hid' hl
        have g0 := fun x => cell_kept ((Kept.refl wr).alloc x) f0
        have g1 := fun x => cell_kept ((Kept.refl wr).alloc x) f1
        have HG : Hid (0 < Nat.gcd (M.val l) (M.val (d k))) := Nat.gcd_pos_of_pos_right _ (HD.out k hlt)
        clear h4 hl i3
        go_wp2_with fail
        refine (reduced_r s (n k) ao1 (ad k) k1 c1 (kd k) (cd k) l (d k) _ ((HL.out.1.kept ((Kept.refl wr).alloc _)).sl) (H4.out.2.1.kept (HI.out.1.alloc _)) (R.of_right HL.out.2.1) (HR.out k hlt).rd HG.out).mono ?_
        rintro e w3 ⟨hk3, s3, a3, k3, c3, l3, s4, a4, k4, c4, l4, rfl, n3, n4, r3, r4, v3, v4⟩
        have HK3 := hid' (((Kept.refl wr).alloc _).trans hk3)
        have HX := hid' (And.intro n4 (And.intro r4 v4))
        clear hk3 n3 n4 r3 r4 v3 v4 h0 h1 h2 h3 f0 f1 g0 g1
        have f0 := fun x y => cell_kept (((Kept.refl w3).alloc x).alloc y) (cell_kept HK3.out HI.out.2.2.1.c0)
        have f1 := fun x y => cell_kept (((Kept.refl w3).alloc x).alloc y) (cell_kept HK3.out HI.out.2.2.1.c1)
        have KK : ∀ x y, Kept w3 ((w3.alloc x).alloc y) := fun x y => ((Kept.refl w3).alloc x).alloc y
        have HKK := hid' KK
        clear KK
        go_wp2_with fail
        refine (mul_any s s4 (.slice ao1 k1 c1) (.slice a4 k4 c4) l l4 _ ((HL.out.1.kept (HK3.out.trans (HKK.out _ _))).sl) ((HX.out.1.kept (HKK.out _ _)).sl) (R.of_right HL.out.2.1) (R.of_right HX.out.2.1)).mono ?_
        obtain ⟨Lk, HLk⟩ : ∃ L, Hid (lcmOf (fun i => M.val (d i)) k = L) := ⟨_, rfl⟩
        have hs := pos_sgn HL.out.2.1 HL.out.2.2 (lcmOf_pos fun i hi => HD.out i (by omega))
        rw [lcm_round hs.1 hs.2 (lcmOf_pos fun i hi => HD.out i (by omega)) (HR.out k hlt) HX.out.2.2]
        rintro e w5 ⟨hk5, s5, a5, k5, c5, e5, rfl, hf⟩
        have HK5 := hid' (HK3.out.trans ((HKK.out _ _).trans hk5))
        have HB := hid' (And.intro (HI.out.2.1.kept HK5.out) (HI.out.2.2.1.kept HK5.out))
        have HSZ : Hid (w.heap.size ≤ w3.heap.size + 1 + 1) := by have := HI.out.1.size; have := HK3.out.size; show _ ≤ _; omega
        rcases hf with ⟨rfl, l5, n5, r5, v5⟩ | ⟨rfl, rfl, hv, hw⟩
        · have HY := hid' (And.intro (n5.mono (by have := HSZ.out; simpa using this)) (And.intro r5 v5))
          clear hk5 n5 r5 v5 f0 f1 hs HK3 HX HKK HLk HG
          go_upto_region 12 with fail
          have hB := And.intro (HB.out.1.kept ((Kept.refl w5).alloc (.cells #[.bool s5, .slice a5 k5 c5] 24))) (HB.out.2.kept ((Kept.refl w5).alloc (.cells #[.bool s5, .slice a5 k5 c5] 24)))
          have hJ := IRow.alloc w5 (.bool s5) (.slice a5 k5 c5)
          have hK := (Kept.refl w5).alloc (.cells #[.bool s5, .slice a5 k5 c5] 24)
          generalize w5.alloc (.cells #[.bool s5, .slice a5 k5 c5] 24) = W6 at hB hJ hK ⊢
          have hlt5 := HB.out.2.lt
          obtain ⟨p10, hp10⟩ : ∃ p, p = w5.heap.size := ⟨_, rfl⟩
          rw [← hp10] at hJ hlt5 ⊢
          have n1 : ¬ p5 = p10 := by omega
          have HQ := hid' (And.intro hB hK)
          have q0 := hB.2.c0
          have q1 := hB.2.c1
          have q2 := hB.2.fz 0
          have q3 := hB.2.fz 1
          have q4 := hJ.c0
          have q5 := hJ.c1
          have HP5 : Hid (w.heap.size ≤ p5) := by have := HP.out; show _ ≤ _; omega
          clear hB hJ hK hlt5 hp10
          go_wp2_with fail
          go_roundw
          case rel =>
            refine ⟨k + 1, s5, a5, k5, c5, by omega, by go_num, (((HI.out.1.trans HK5.out).trans HQ.out.2).setCell HP5.out _).setCell HP5.out _, HQ.out.1.1.far h25 _ _, HQ.out.1.2.set2 _ _, l5, New.ibox2 (HY.out.1.kept HQ.out.2) HQ.out.1.2 _ _, HY.out.2.1, HY.out.2.2⟩
          case measure => simp [intOf]; omega
        · have HW := hid' hw
          simp only [Value.slice.injEq] at hv
          obtain ⟨rfl, rfl, rfl⟩ := hv
          have HP2 : Hid (w.heap.size ≤ p2) := by have := HP.out; show _ ≤ _; omega
          clear hk5 hw f0 f1 hs HK3 HX HKK HLk HG
          go_upto_region 11 with fail
          have hK := (Kept.refl w5).alloc (.cells #[.bool false, .slice none 0 0] 24)
          generalize w5.alloc (.cells #[.bool false, .slice none 0 0] 24) = W6 at hK ⊢
          have hZ := HB.out.1.kept hK
          have HKW := hid' ((HI.out.1.trans HK5.out).trans hK)
          have q0 := hZ.c0
          have q1 := hZ.c1
          have q2 := hZ.fz 0
          have q3 := hZ.fz 1
          clear hK hZ
          go_wp2
          refine bodyPost_ret (v := .tuple #[.agg #[.bool false, .slice none 0 0], .int .i64 13]) (by simp [results, Try.results12, go_sem, q0, q1]) rfl ⟨((HKW.out.setCell HP2.out _).setCell HP2.out _), 0, HC.out, .inr ⟨rfl, .inr ⟨rfl, ?_⟩⟩⟩
          have h1 := HW.out
          have h2 := lcmOf_le (d := fun i => M.val (d i)) (show k + 1 ≤ N by omega) HD.out
          simp only [Int.natAbs_natCast] at h1
          exact Nat.le_trans h1 h2
      · have hkN : k = N := by omega
        subst hkN
        obtain ⟨-, i2, -, l, hl⟩ := HI.out
        have HL := hid' hl
        have q0 := i2.c0
        have q1 := i2.c1
        have q2 := i2.fz 0
        have q3 := i2.fz 1
        have HP2 : Hid (w.heap.size ≤ p2) := by have := HP.out; show _ ≤ _; omega
        have hs := pos_sgn HL.out.2.1 HL.out.2.2 (lcmOf_pos HD.out)
        obtain ⟨rfl, hv⟩ := hs
        have HV := hid' hv
        have HZ := hid' i2
        clear hl hv i3 i2
        go_wp2
        refine bodyPost_ret (v := .tuple #[.agg #[.bool false, .slice ao1 k1 c1], .int .i64 0]) (by simp [results, Try.results12, go_sem, q0, q1]) rfl ⟨((HI.out.1.setCell HP2.out _).setCell HP2.out _), 0, HC.out, .inr ⟨rfl, .inl ⟨ao1, k1, c1, l, rfl, New.box2 HL.out.1 HZ.out _ _, HL.out.2.1, HV.out⟩⟩⟩
  · have q0 := Z2.c0
    have q1 := Z2.c1
    have q2 := Z2.fz 0
    have q3 := Z2.fz 1
    have hb : ((c : Int) == 0) = false := by simpa using hc0
    have HN0 := hid' hc0
    clear hc0 Z2
    go_wp2
    refine bodyPost_ret (v := .tuple #[.agg #[.bool false, .slice none 0 0], .int .i64 c]) (by simp [results, Try.results12, go_sem, q0, q1]) rfl ⟨((HK1.out.setCell (Nat.le_refl _) _).setCell (Nat.le_refl _) _), c, HC.out, .inl ⟨HN0.out, rfl⟩⟩

end F
end Go.Proofs.Ytfpcoolkkmnngaa
