/- Lists of one and two fractions; a right fraction's parts. shuntlaw02's of and same; Check of whatever fraction. -/
import Derived.Test.YtfpcoolkkmnngaaGan
import Derived.Test.YtfpcoolkkmnngaaGam
import Derived.Test.YtfpcoolkkmnngaaGal
namespace Go.Proofs.Ytfpcoolkkmnngaa
open Go.RowKit
namespace F

/-- A right fraction in a world: its parts' values. -/
structure RatR (m n : Bool) (a d : List Nat) : Prop where
  ra : R m a
  rd : R n d
  pos : 0 < M.int n d
  low : Nat.gcd (M.val a) (M.val d) = 1

theorem RatR.sgn {m n : Bool} {a d : List Nat} (h : RatR m n a d) : n = false := by
  cases n
  · rfl
  · have := int_neg_lt h.rd; have := h.pos; omega

theorem RatR.val {m n : Bool} {a d : List Nat} (h : RatR m n a d) : M.int n d = (M.val d : Int) := by rw [h.sgn]; simp [M.int]

theorem RatR.vpos {m n : Bool} {a d : List Nat} (h : RatR m n a d) : 0 < M.val d := by have := h.pos; rw [h.val] at this; omega

/-- One or the other. -/
def two {α : Type} (x y : α) (i : Nat) : α := if i = 0 then x else y

theorem RatAll.two {w : World} {b : Nat} {m n p q : Bool} {a1 a2 b1 b2 : Option Addr} {k1 c1 k2 c2 k3 c3 k4 c4 : Nat} {an ad bn bd : List Nat}
    (h0 : w.cell? ⟨b, 0, none⟩ = some (.bool m)) (h1 : w.cell? ⟨b, 1, none⟩ = some (.slice a1 k1 c1)) (h2 : w.cell? ⟨b, 2, none⟩ = some (.bool n)) (h3 : w.cell? ⟨b, 3, none⟩ = some (.slice a2 k2 c2))
    (h4 : w.cell? ⟨b, 4, none⟩ = some (.bool p)) (h5 : w.cell? ⟨b, 5, none⟩ = some (.slice b1 k3 c3)) (h6 : w.cell? ⟨b, 6, none⟩ = some (.bool q)) (h7 : w.cell? ⟨b, 7, none⟩ = some (.slice b2 k4 c4))
    (s1 : Sl w (.slice a1 k1 c1) an) (s2 : Sl w (.slice a2 k2 c2) ad) (s3 : Sl w (.slice b1 k3 c3) bn) (s4 : Sl w (.slice b2 k4 c4) bd)
    (l1 : an.length ≤ 9223372036854775807) (l2 : ad.length ≤ 9223372036854775807) (l3 : bn.length ≤ 9223372036854775807) (l4 : bd.length ≤ 9223372036854775807) :
    RatAll w b 0 2 (F.two m p) (F.two n q) (F.two a1 b1) (F.two a2 b2) (F.two k1 k3) (F.two c1 c3) (F.two k2 k4) (F.two c2 c4) (F.two an bn) (F.two ad bd) := by
  intro i hi
  match i, hi with
  | 0, _ => exact ⟨⟨h0, h1, h2, h3⟩, s1, s2, l1, l2⟩
  | 1, _ => exact ⟨⟨h4, h5, h6, h7⟩, s3, s4, l3, l4⟩

theorem Refused.two {m n p q : Bool} {an ad bn bd : List Nat} {c : Int} (hA : RatR m n an ad) (hB : RatR p q bn bd) (h : Refused 2 (F.two m p) (F.two n q) (F.two an bn) (F.two ad bd) c) : c = 0 := by
  rcases h with ⟨_, i, hi, h⟩ | ⟨_, ⟨_, i, hi, h⟩ | ⟨h, _⟩⟩
  · exfalso
    match i, hi with
    | 0, _ => exact h ⟨hA.ra, hA.rd⟩
    | 1, _ => exact h ⟨hB.ra, hB.rd⟩
  · exfalso
    match i, hi with
    | 0, _ => exact h ⟨hA.pos, hA.low⟩
    | 1, _ => exact h ⟨hB.pos, hB.low⟩
  · exact h

theorem RatAll.single {w : World} {b : Nat} {m n : Bool} {a1 a2 : Option Addr} {k1 c1 k2 c2 : Nat} {an ad : List Nat}
    (h0 : w.cell? ⟨b, 0, none⟩ = some (.bool m)) (h1 : w.cell? ⟨b, 1, none⟩ = some (.slice a1 k1 c1)) (h2 : w.cell? ⟨b, 2, none⟩ = some (.bool n)) (h3 : w.cell? ⟨b, 3, none⟩ = some (.slice a2 k2 c2))
    (s1 : Sl w (.slice a1 k1 c1) an) (s2 : Sl w (.slice a2 k2 c2) ad) (l1 : an.length ≤ 9223372036854775807) (l2 : ad.length ≤ 9223372036854775807) :
    RatAll w b 0 1 (fun _ => m) (fun _ => n) (fun _ => a1) (fun _ => a2) (fun _ => k1) (fun _ => c1) (fun _ => k2) (fun _ => c2) (fun _ => an) (fun _ => ad) := by
  intro i hi
  match i, hi with
  | 0, _ => exact ⟨⟨h0, h1, h2, h3⟩, s1, s2, l1, l2⟩

theorem Refused.single {m n : Bool} {an ad : List Nat} {c : Int} (hA : RatR m n an ad) (h : Refused 1 (fun _ => m) (fun _ => n) (fun _ => an) (fun _ => ad) c) : c = 0 := by
  rcases h with ⟨_, i, hi, h⟩ | ⟨_, ⟨_, i, hi, h⟩ | ⟨h, _⟩⟩
  · exact absurd ⟨hA.ra, hA.rd⟩ h
  · exact absurd ⟨hA.pos, hA.low⟩ h
  · exact h

end F
end Go.Proofs.Ytfpcoolkkmnngaa

namespace Go.Proofs.Ytfpcoolkkmnngaa
open Go.RowKit
namespace F

/-- The variable at block p holds an Int of these two. -/
def IRow (w : World) (p : Nat) (x0 x1 : Value) : Prop := w.rowIs p 24 2 (fun i => if i = 0 then x0 else x1)

theorem IRow.alloc (w : World) (x0 x1 : Value) : IRow (w.alloc (.cells #[x0, x1] 24)) w.heap.size x0 x1 :=
  World.rowIs_alloc w #[x0, x1] 24 _ (fun i hi => by
    match i, hi with
    | 0, _ => rfl
    | 1, _ => rfl)

section
variable {w w' : World} {p : Nat} {x0 x1 : Value}
theorem IRow.lt (h : IRow w p x0 x1) : p < w.heap.size := World.rowIs.lt h
theorem IRow.c0 (h : IRow w p x0 x1) : w.cell? ⟨p, 0, none⟩ = some x0 := World.rowIs.cell h (i := 0) (by omega)
theorem IRow.c1 (h : IRow w p x0 x1) : w.cell? ⟨p, 1, none⟩ = some x1 := World.rowIs.cell h (i := 1) (by omega)
theorem IRow.kept (h : IRow w p x0 x1) (k : Kept w w') : IRow w' p x0 x1 := World.rowIs.of_block h (k.block p h.lt)
end

theorem set4' {B p : Nat} {w : World} {v : Value} {l : List Nat} (h : New B w v l) (hp : p < B) (x0 x1 x2 x3 : Value) : New B ((((w.setCell ⟨p, 0, none⟩ x0).setCell ⟨p, 1, none⟩ x1).setCell ⟨p, 2, none⟩ x2).setCell ⟨p, 3, none⟩ x3) v l :=
  (((h.other hp _).other hp _).other hp _).other hp _

set_option maxHeartbeats 1000000 in
theorem Check_any (m n : Bool) (aoa aob : Option Addr) (ka ca kb cb : Nat) (a d : List Nat) (w : World) (ha : Sl w (.slice aoa ka ca) a) (hd : Sl w (.slice aob kb cb) d) (hla : a.length ≤ 9223372036854775807) (hld : d.length ≤ 9223372036854775807) :
    Calls Try.prog 20 #[.agg #[.bool m, .slice aoa ka ca, .bool n, .slice aob kb cb]] w fun e w' => Kept w w' ∧ ∃ c : Int, e = .returned (.int .i64 c) ∧ Refused 1 (fun _ => m) (fun _ => n) (fun _ => a) (fun _ => d) c := by
  have HA : Hid (Sl w (.slice aoa ka ca) a ∧ Sl w (.slice aob kb cb) d ∧ a.length ≤ 9223372036854775807 ∧ d.length ≤ 9223372036854775807) := ⟨ha, hd, hla, hld⟩
  clear ha hd hla hld
  have K2 : ∀ x y, Kept w ((w.alloc x).alloc y) := fun x y => ((Kept.refl w).alloc x).alloc y
  go_enter Try.func20, Try.ntmps20
  go_wp2_with fail
  refine (refusal_any _ (w.heap.size + 1) 0 1 1 _ _ _ _ _ _ _ _ _ _ _ (fun _ => rfl) (by omega) (RatAll.single (m := m) (n := n) (a1 := aoa) (a2 := aob) (k1 := ka) (c1 := ca) (k2 := kb) (c2 := cb) (by simp) (by simp) (by simp) (by simp) (HA.out.1.kept (K2 _ _)) (HA.out.2.1.kept (K2 _ _)) HA.out.2.2.1 HA.out.2.2.2)).mono ?_
  rintro e w1 ⟨hk, c, rfl, hc⟩
  have HK : Hid (Kept w w1 ∧ Refused 1 (fun _ => m) (fun _ => n) (fun _ => a) (fun _ => d) c) := ⟨(K2 _ _).trans hk, hc⟩
  clear hk hc K2
  go_wp2
  go_ret
  exact ⟨HK.out.1, c, rfl, HK.out.2⟩

set_option maxHeartbeats 1000000 in
theorem Check_ok (m n : Bool) (aoa aob : Option Addr) (ka ca kb cb : Nat) (a d : List Nat) (w : World) (ha : Sl w (.slice aoa ka ca) a) (hd : Sl w (.slice aob kb cb) d) (hA : RatR m n a d) :
    Calls Try.prog 20 #[.agg #[.bool m, .slice aoa ka ca, .bool n, .slice aob kb cb]] w fun e w' => e = .returned (.int .i64 0) ∧ Kept w w' := by
  refine (Check_any m n aoa aob ka ca kb cb a d w ha hd (by have := hA.ra.1; omega) (by have := hA.rd.1; omega)).mono ?_
  rintro e w' ⟨h1, c, rfl, hc⟩
  exact ⟨by rw [Refused.single hA hc], h1⟩

theorem Check_zero (w : World) : Calls Try.prog 20 #[.agg #[.bool false, .slice none 0 0, .bool false, .slice none 0 0]] w fun e w' => e = .returned (.int .i64 20) ∧ Kept w w' := by
  refine (Check_any false false none none 0 0 0 0 [] [] w (Sl.nil _ _ _) (Sl.nil _ _ _) (by simp) (by simp)).mono ?_
  rintro e w' ⟨h1, c, rfl, hc⟩
  have hr : R false [] := ⟨by simp, fun _ => rfl, fun h => by simp at h⟩
  rcases hc with ⟨_, i, hi, h⟩ | ⟨_, ⟨h, _⟩ | ⟨_, h⟩⟩
  · exact absurd ⟨hr, hr⟩ h
  · exact ⟨by rw [h], h1⟩
  · have := (h 0 (by omega)).1
    simp [M.int, M.val] at this

/-- A fraction in new memory that is right, of values X over Y. -/
def RatN (B : Nat) (w : World) (v : Value) (X Y : Int) : Prop :=
  ∃ s ao k c l t ap k' c' l', v = .agg #[.bool s, .slice ao k c, .bool t, .slice ap k' c'] ∧ New B w (.slice ao k c) l ∧ M.Right s l ∧ M.int s l = X ∧ New B w (.slice ap k' c') l' ∧ M.Right t l' ∧ M.int t l' = Y ∧ RatR s t l l'

theorem made_low {a b : Nat} {x y g X Y : Int} (hg : g.natAbs = Nat.gcd a b) (ha : x.natAbs = a) (hb : y.natAbs = b) (hx : X * g = x) (hy : Y * g = y) (hy0 : y ≠ 0) (hs : g < 0 ↔ y < 0) : 0 < Y ∧ Nat.gcd X.natAbs Y.natAbs = 1 := by
  subst ha hb hx hy
  have g0 : g ≠ 0 := fun h => hy0 (by rw [h]; simp)
  refine ⟨?_, ?_⟩
  · rcases Int.lt_trichotomy Y 0 with h | h | h
    · exfalso
      rcases Int.lt_or_gt_of_ne g0 with h1 | h1
      · have := Int.mul_pos_of_neg_of_neg h h1
        have := hs.1 h1
        omega
      · have := Int.mul_neg_of_neg_of_pos h h1
        have := hs.2 this
        omega
    · exact absurd (by rw [h]; simp) hy0
    · exact h
  · rw [Int.natAbs_mul, Int.natAbs_mul, Nat.gcd_mul_right] at hg
    have hp : 0 < g.natAbs := by omega
    exact Nat.eq_of_mul_eq_mul_right hp (by omega)

theorem RatIs.right {B : Nat} {w : World} {v : Value} {X Y : Int} (h : RatIs B w v X Y) (h0 : 0 < Y) (h1 : Nat.gcd X.natAbs Y.natAbs = 1) : RatN B w v X Y := by
  obtain ⟨s, ao, k, c, l, t, ap, k', c', l', rfl, n1, r1, v1, n2, r2, v2⟩ := h
  refine ⟨s, ao, k, c, l, t, ap, k', c', l', rfl, n1, r1, v1, n2, r2, v2, R.of_right r1, R.of_right r2, by rw [v2]; exact h0, ?_⟩
  rw [← M.natAbs_int s l, ← M.natAbs_int t l', v1, v2]; exact h1

/-- Make of right parts, den not 0. -/
theorem Make_ok (m n : Bool) (aoa aob : Option Addr) (ka ca kb cb : Nat) (a b : List Nat) (w : World) (ha : Sl w (.slice aoa ka ca) a) (hb : Sl w (.slice aob kb cb) b) (hra : R m a) (hrb : R n b) (hb0 : 0 < b.length) :
    Calls Try.prog 41 #[.agg #[.bool m, .slice aoa ka ca], .agg #[.bool n, .slice aob kb cb]] w fun e w' => Kept w w' ∧ ∃ v X Y, e = .returned (.tuple #[v, .int .i64 0]) ∧ RatN w.heap.size w' v X Y ∧ ∃ g : Int, g.natAbs = Nat.gcd (M.val a) (M.val b) ∧ X * g = M.int m a ∧ Y * g = M.int n b ∧ (g < 0 ↔ M.int n b < 0) := by
  refine (make_r m n aoa aob ka ca kb cb a b w ha hb hra hrb hb0).mono ?_
  rintro e w' ⟨h1, v, X, Y, rfl, h2, g, h3, h4, h5, h6⟩
  have hp := M.val_pos hrb.tr (fun e => by rw [e] at hb0; simp at hb0)
  have hl := made_low h3 (M.natAbs_int m a) (M.natAbs_int n b) h4 h5 (fun h => by rw [← M.natAbs_int n b, h] at hp; simp at hp) h6
  exact ⟨h1, v, X, Y, rfl, h2.right hl.1 hl.2, g, h3, h4, h5, h6⟩

set_option maxHeartbeats 2000000 in
theorem of_ok (x y : Int) (w : World) (x1 : -9223372036854775808 ≤ x) (x2 : x ≤ 9223372036854775807) (y1 : -9223372036854775808 ≤ y) (y2 : y ≤ 9223372036854775807) (y0 : y ≠ 0) :
    Calls Try.prog 18 #[.int .i64 x, .int .i64 y] w fun e w' => Kept w w' ∧ ∃ v X Y, e = .returned v ∧ RatN w.heap.size w' v X Y ∧ ∃ g : Int, g.natAbs = Nat.gcd x.natAbs y.natAbs ∧ X * g = x ∧ Y * g = y ∧ (g < 0 ↔ y < 0) := by
  have HY : Hid (y ≠ 0) := y0
  have HX : Hid ((-9223372036854775808 ≤ x ∧ x ≤ 9223372036854775807) ∧ (-9223372036854775808 ≤ y ∧ y ≤ 9223372036854775807)) := ⟨⟨x1, x2⟩, y1, y2⟩
  clear x1 x2 y1 y2 y0
  go_enter Try.func18, Try.ntmps18
  go_wp2_with fail
  refine (of_any x _ HX.out.1.1 HX.out.1.2).mono ?_
  rintro e w1 ⟨hk1, s1, a1, k1, c1, l1, rfl, n1, r1, v1⟩
  have rZ := (RRow.alloc w (.bool false) (.slice none 0 0) (.bool false) (.slice none 0 0)).kept hk1
  have HK1 : Hid (Kept w w1 ∧ New w.heap.size w1 (.slice a1 k1 c1) l1 ∧ M.Right s1 l1 ∧ M.int s1 l1 = x) := ⟨((Kept.refl w).alloc _).trans hk1, n1.mono (by simp), r1, v1⟩
  have HZ := hid' rZ
  clear hk1 n1 r1 v1 rZ
  go_wp2_with fail
  refine (of_any y _ HX.out.2.1 HX.out.2.2).mono ?_
  rintro e w2 ⟨hk2, s2, a2, k2, c2, l2, rfl, n2, r2, v2⟩
  have HK2 : Hid (Kept w w2 ∧ Sl w2 (.slice a1 k1 c1) l1 ∧ Sl w2 (.slice a2 k2 c2) l2 ∧ M.Right s2 l2 ∧ M.int s2 l2 = y) := ⟨HK1.out.1.trans hk2, (HK1.out.2.1.kept hk2).sl, n2.sl, r2, v2⟩
  have HZ2 := hid' (HZ.out.kept hk2)
  clear hk2 n2 r2 v2
  go_wp2_with fail
  have hl2 : 0 < l2.length := by
    apply Classical.byContradiction
    intro h
    have h9 : l2 = [] := List.length_eq_zero_iff.1 (by omega)
    have h8 := HK2.out.2.2.2.2
    rw [h9] at h8
    apply HY.out
    rw [← h8]
    cases s2 <;> simp [M.int, M.val]
  have HL := hid' hl2
  clear hl2
  refine (Make_ok s1 s2 a1 a2 k1 c1 k2 c2 l1 l2 _ HK2.out.2.1 HK2.out.2.2.1 (R.of_right HK1.out.2.2.1) (R.of_right HK2.out.2.2.2.1) HL.out).mono ?_
  rintro e w3 ⟨hk3, v, X, Y, rfl, hR, hg⟩
  obtain ⟨s, ao, k, c, l, t, ap, k', c', l', rfl, q1, q2, q3, q4, q5, q6, q7⟩ := hR
  rw [HK1.out.2.2.2, HK2.out.2.2.2.2, ← M.natAbs_int s1 l1, ← M.natAbs_int s2 l2, HK1.out.2.2.2, HK2.out.2.2.2.2] at hg
  have HQ := hid' (And.intro q1 (And.intro q2 (And.intro q3 (And.intro q4 (And.intro q5 (And.intro q6 q7))))))
  have HG := hid' hg
  have rZ := HZ2.out.kept hk3
  have i0 := rZ.c0
  have i1 := rZ.c1
  have i2 := rZ.c2
  have i3 := rZ.c3
  have o0 := rZ.fz 0
  have o1 := rZ.fz 1
  have o2 := rZ.fz 2
  have o3 := rZ.fz 3
  have hz := rZ.lt
  have HKK : Hid (Kept w w3 ∧ w.heap.size < w2.heap.size) := ⟨HK2.out.1.trans hk3, HZ2.out.lt⟩
  clear hk3 q1 q2 q3 q4 q5 q6 q7 hg rZ
  go_wp2
  obtain ⟨q1, q2, q3, q4, q5, q6, q7⟩ := HQ.out
  have hz2 := HKK.out.2
  refine bodyPost_ret (v := .agg #[.bool s, .slice ao k c, .bool t, .slice ap k' c']) (by simp [results, Try.results18, go_sem, i0, i1, i2, i3, hz]) rfl ⟨?_, _, X, Y, rfl, ⟨s, ao, k, c, l, t, ap, k', c', l', rfl, ?_, q2, q3, ?_, q5, q6, q7⟩, HG.out⟩
  · exact ((((HKK.out.1.setCell (by show w.heap.size ≤ w.heap.size; omega) _).setCell (by show w.heap.size ≤ w.heap.size; omega) _).setCell (by show w.heap.size ≤ w.heap.size; omega) _).setCell (by show w.heap.size ≤ w.heap.size; omega) _).alloc _
  · exact ((set4' q1 hz2 _ _ _ _).kept ((Kept.refl _).alloc _)).mono (by omega)
  · exact ((set4' q4 hz2 _ _ _ _).kept ((Kept.refl _).alloc _)).mono (by omega)

set_option maxHeartbeats 1000000 in
theorem lsame_r (m n : Bool) (va vb vc vd : Value) (a b : List Nat) (w : World) (ha : Sl w va a) (hb : Sl w vb b) (hc : Sl w vc a) (hd : Sl w vd b) (hla : a.length ≤ 1000) (hlb : b.length ≤ 1000) :
    Calls Try.prog 10 #[.agg #[.bool m, va, .bool n, vb], .agg #[.bool m, vc, .bool n, vd]] w fun e w' => e = .returned (.bool true) ∧ Kept w w' := by
  have HA : Hid (Sl w va a ∧ Sl w vb b ∧ Sl w vc a ∧ Sl w vd b ∧ a.length ≤ 1000 ∧ b.length ≤ 1000) := ⟨ha, hb, hc, hd, hla, hlb⟩
  clear ha hb hc hd hla hlb
  have K2 : ∀ x y, Kept w ((w.alloc x).alloc y) := fun x y => ((Kept.refl w).alloc x).alloc y
  go_enter Try.func10, Try.ntmps10
  go_wp2_with fail
  refine (same_r m n va vb vc vd a b _ (HA.out.1.kept (K2 _ _)) (HA.out.2.1.kept (K2 _ _)) (HA.out.2.2.1.kept (K2 _ _)) (HA.out.2.2.2.1.kept (K2 _ _)) HA.out.2.2.2.2.1 HA.out.2.2.2.2.2).mono ?_
  rintro e w1 ⟨rfl, hk⟩
  have HK : Hid (Kept w w1) := (K2 _ _).trans hk
  clear hk K2
  go_wp2
  go_ret
  exact ⟨rfl, HK.out⟩

end F
end Go.Proofs.Ytfpcoolkkmnngaa
