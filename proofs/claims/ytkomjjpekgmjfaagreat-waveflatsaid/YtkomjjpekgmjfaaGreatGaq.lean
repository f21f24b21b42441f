/- Lists of one and two fractions; a right fraction's parts. shuntlaw02's of and same; Check of whatever fraction. rat.compare: two fractions above 0, held against one another by whole parts and rests. rat.compare: the walk. rat.Cmp of right fractions. -/
import Derived.Test.YtkomjjpekgmjfaaGreatGap
import Derived.Test.YtkomjjpekgmjfaaGreatGam
import Derived.Test.YtkomjjpekgmjfaaGreatGal
import Derived.Test.YtkomjjpekgmjfaaGreatGad
namespace Go.Proofs.YtkomjjpekgmjfaaGreat
open Go.RowKit
namespace F
structure RatR (m n : Bool) (a d : List Nat) : Prop where
 ra : R m a
 rd : R n d
 pos : 0 < M.int n d
 low : Nat.gcd (M.val a) (M.val d) = 1
theorem RatR.sgn {m n : Bool} {a d : List Nat} (h : RatR m n a d) : n = false := by
 cases n
 ·
  rfl
 ·
  have := int_neg_lt h.rd; have := h.pos; omega
theorem RatR.val {m n : Bool} {a d : List Nat} (h : RatR m n a d) : M.int n d = (M.val d : Int) := by rw [h.sgn]; simp [M.int]
theorem RatR.vpos {m n : Bool} {a d : List Nat} (h : RatR m n a d) : 0 < M.val d := by have := h.pos; rw [h.val] at this; omega
def two {α : Type} (x y : α) (i : Nat) : α := if i = 0 then x else y
theorem RatAll.two {w : World} {b : Nat} {m n p q : Bool} {a1 a2 b1 b2 : Option Addr} {k1 c1 k2 c2 k3 c3 k4 c4 : Nat} {an ad bn bd : List Nat}
  (h0 : w.cell? ⟨b, 0, none⟩ = some (.bool m)) (h1 : w.cell? ⟨b, 1, none⟩ = some (.slice a1 k1 c1)) (h2 : w.cell? ⟨b, 2, none⟩ = some (.bool n)) (h3 : w.cell? ⟨b, 3, none⟩ = some (.slice a2 k2 c2))
  (h4 : w.cell? ⟨b, 4, none⟩ = some (.bool p)) (h5 : w.cell? ⟨b, 5, none⟩ = some (.slice b1 k3 c3)) (h6 : w.cell? ⟨b, 6, none⟩ = some (.bool q)) (h7 : w.cell? ⟨b, 7, none⟩ = some (.slice b2 k4 c4))
  (s1 : Sl w (.slice a1 k1 c1) an) (s2 : Sl w (.slice a2 k2 c2) ad) (s3 : Sl w (.slice b1 k3 c3) bn) (s4 : Sl w (.slice b2 k4 c4) bd)
  (l1 : an.length ≤ 9223372036854775807) (l2 : ad.length ≤ 9223372036854775807) (l3 : bn.length ≤ 9223372036854775807) (l4 : bd.length ≤ 9223372036854775807) :
  RatAll w b 0 2 (F.two m p) (F.two n q) (F.two a1 b1) (F.two a2 b2) (F.two k1 k3) (F.two c1 c3) (F.two k2 k4) (F.two c2 c4) (F.two an bn) (F.two ad bd) := by
 intro i hi
 match i, hi with
 | 0, _ => exact ⟨⟨h0, h1, h2, h3⟩, s1, s2, l1, l2⟩
 | 1, _ => exact ⟨⟨h4, h5, h6, h7⟩, s3, s4, l3, l4⟩
theorem Refused.two {m n p q : Bool} {an ad bn bd : List Nat} {c : Int} (hA : RatR m n an ad) (hB : RatR p q bn bd) (h : Refused 2 (F.two m p) (F.two n q) (F.two an bn) (F.two ad bd) c) : c = 0 := by
 rcases h with ⟨_, i, hi, h⟩ | ⟨_, ⟨_, i, hi, h⟩ | ⟨h, _⟩⟩
 ·
  exfalso
  match i, hi with
  | 0, _ => exact h ⟨hA.ra, hA.rd⟩
  | 1, _ => exact h ⟨hB.ra, hB.rd⟩
 ·
  exfalso
  match i, hi with
  | 0, _ => exact h ⟨hA.pos, hA.low⟩
  | 1, _ => exact h ⟨hB.pos, hB.low⟩
 ·
  exact h
theorem RatAll.single {w : World} {b : Nat} {m n : Bool} {a1 a2 : Option Addr} {k1 c1 k2 c2 : Nat} {an ad : List Nat}
  (h0 : w.cell? ⟨b, 0, none⟩ = some (.bool m)) (h1 : w.cell? ⟨b, 1, none⟩ = some (.slice a1 k1 c1)) (h2 : w.cell? ⟨b, 2, none⟩ = some (.bool n)) (h3 : w.cell? ⟨b, 3, none⟩ = some (.slice a2 k2 c2))
  (s1 : Sl w (.slice a1 k1 c1) an) (s2 : Sl w (.slice a2 k2 c2) ad) (l1 : an.length ≤ 9223372036854775807) (l2 : ad.length ≤ 9223372036854775807) :
  RatAll w b 0 1 (fun _ => m) (fun _ => n) (fun _ => a1) (fun _ => a2) (fun _ => k1) (fun _ => c1) (fun _ => k2) (fun _ => c2) (fun _ => an) (fun _ => ad) := by
 intro i hi
 match i, hi with
 | 0, _ => exact ⟨⟨h0, h1, h2, h3⟩, s1, s2, l1, l2⟩
theorem Refused.single {m n : Bool} {an ad : List Nat} {c : Int} (hA : RatR m n an ad) (h : Refused 1 (fun _ => m) (fun _ => n) (fun _ => an) (fun _ => ad) c) : c = 0 := by
 rcases h with ⟨_, i, hi, h⟩ | ⟨_, ⟨_, i, hi, h⟩ | ⟨h, _⟩⟩
 ·
  exact absurd ⟨hA.ra, hA.rd⟩ h
 ·
  exact absurd ⟨hA.pos, hA.low⟩ h
 ·
  exact h
end F
end Go.Proofs.YtkomjjpekgmjfaaGreat

namespace Go.Proofs.YtkomjjpekgmjfaaGreat
open Go.RowKit
namespace F
def IRow (w : World) (p : Nat) (x0 x1 : Value) : Prop := w.rowIs p 64 2 (fun i => if i = 0 then x0 else x1)
theorem IRow.alloc (w : World) (x0 x1 : Value) : IRow (w.alloc (.cells #[x0, x1] 64)) w.heap.size x0 x1 :=
 World.rowIs_alloc w #[x0, x1] 64 _ (fun i hi => by
  match i, hi with
  | 0, _ => rfl
  | 1, _ => rfl)
section
variable {w w' : World} {p : Nat} {x0 x1 : Value}
theorem IRow.lt (h : IRow w p x0 x1) : p < w.heap.size := World.rowIs.lt h
theorem IRow.c0 (h : IRow w p x0 x1) : w.cell? ⟨p, 0, none⟩ = some x0 := World.rowIs.cell h (i := 0) (by omega)
theorem IRow.c1 (h : IRow w p x0 x1) : w.cell? ⟨p, 1, none⟩ = some x1 := World.rowIs.cell h (i := 1) (by omega)
theorem IRow.kept (h : IRow w p x0 x1) (k : Kept w w') : IRow w' p x0 x1 := World.rowIs.of_block h (k.block p h.lt)
end
def RatN (B : Nat) (w : World) (v : Value) (X Y : Int) : Prop :=
 ∃ s ao k c l t ap k' c' l', v = .agg #[.bool s, .slice ao k c, .bool t, .slice ap k' c'] ∧ New B w (.slice ao k c) l ∧ M.Right s l ∧ M.int s l = X ∧ New B w (.slice ap k' c') l' ∧ M.Right t l' ∧ M.int t l' = Y ∧ RatR s t l l'
theorem made_low {a b : Nat} {x y g X Y : Int} (hg : g.natAbs = Nat.gcd a b) (ha : x.natAbs = a) (hb : y.natAbs = b) (hx : X * g = x) (hy : Y * g = y) (hy0 : y ≠ 0) (hs : g < 0 ↔ y < 0) : 0 < Y ∧ Nat.gcd X.natAbs Y.natAbs = 1 := by
 subst ha hb hx hy
 have g0 : g ≠ 0 := fun h => hy0 (by rw [h]; simp)
 refine ⟨?_, ?_⟩
 ·
  rcases Int.lt_trichotomy Y 0 with h | h | h
  ·
   exfalso
   rcases Int.lt_or_gt_of_ne g0 with h1 | h1
   ·
    have := Int.mul_pos_of_neg_of_neg h h1
    have := hs.1 h1
    omega
   ·
    have := Int.mul_neg_of_neg_of_pos h h1
    have := hs.2 this
    omega
  ·
   exact absurd (by rw [h]; simp) hy0
  ·
   exact h
 ·
  rw [Int.natAbs_mul, Int.natAbs_mul, Nat.gcd_mul_right] at hg
  have hp : 0 < g.natAbs := by omega
  exact Nat.eq_of_mul_eq_mul_right hp (by omega)
theorem RatIs.right {B : Nat} {w : World} {v : Value} {X Y : Int} (h : RatIs B w v X Y) (h0 : 0 < Y) (h1 : Nat.gcd X.natAbs Y.natAbs = 1) : RatN B w v X Y := by
 obtain ⟨s, ao, k, c, l, t, ap, k', c', l', rfl, n1, r1, v1, n2, r2, v2⟩ := h
 refine ⟨s, ao, k, c, l, t, ap, k', c', l', rfl, n1, r1, v1, n2, r2, v2, R.of_right r1, R.of_right r2, by rw [v2]; exact h0, ?_⟩
 rw [← M.natAbs_int s l, ← M.natAbs_int t l', v1, v2]; exact h1
theorem Make_ok (m n : Bool) (aoa aob : Option Addr) (ka ca kb cb : Nat) (a b : List Nat) (w : World) (ha : Sl w (.slice aoa ka ca) a) (hb : Sl w (.slice aob kb cb) b) (hra : R m a) (hrb : R n b) (hb0 : 0 < b.length) :
  Calls Tryz.prog 78 #[.agg #[.bool m, .slice aoa ka ca], .agg #[.bool n, .slice aob kb cb]] w fun e w' => Kept w w' ∧ ∃ v X Y, e = .returned (.tuple #[v, .int .i64 0]) ∧ RatN w.heap.size w' v X Y ∧ ∃ g : Int, g.natAbs = Nat.gcd (M.val a) (M.val b) ∧ X * g = M.int m a ∧ Y * g = M.int n b ∧ (g < 0 ↔ M.int n b < 0) := by
 refine (make_r m n aoa aob ka ca kb cb a b w ha hb hra hrb hb0).mono ?_
 rintro e w' ⟨h1, v, X, Y, rfl, h2, g, h3, h4, h5, h6⟩
 have hp := M.val_pos hrb.tr (fun e => by rw [e] at hb0; simp at hb0)
 have hl := made_low h3 (M.natAbs_int m a) (M.natAbs_int n b) h4 h5 (fun h => by rw [← M.natAbs_int n b, h] at hp; simp at hp) h6
 exact ⟨h1, v, X, Y, rfl, h2.right hl.1 hl.2, g, h3, h4, h5, h6⟩
end F
end Go.Proofs.YtkomjjpekgmjfaaGreat

namespace Go.Proofs.YtkomjjpekgmjfaaGreat
open Go.RowKit
namespace F
def Ok (w V : World) (v : Value) (l : List Nat) : Prop := Sl w v l ∨ New w.heap.size V v l
section
variable {w V V' : World} {v : Value} {l : List Nat}
theorem Ok.sl (h : Ok w V v l) (k : Kept w V) : Sl V v l := h.elim (fun h => h.kept k) (fun h => h.sl)
theorem Ok.kept (h : Ok w V v l) (k : Kept V V') : Ok w V' v l := h.elim .inl (fun h => .inr (h.kept k))
end
theorem RRow.set {w : World} {p : Nat} {x0 x1 x2 x3 : Value} (h : RRow w p x0 x1 x2 x3) (y0 y1 y2 y3 : Value) : RRow ((((w.setCell ⟨p, 0, none⟩ y0).setCell ⟨p, 1, none⟩ y1).setCell ⟨p, 2, none⟩ y2).setCell ⟨p, 3, none⟩ y3) p y0 y1 y2 y3 :=
 World.rowIs.congr (World.rowIs.set (World.rowIs.set (World.rowIs.set (World.rowIs.set h 0 y0) 1 y1) 2 y2) 3 y3) (fun i hi => by
  match i, hi with
  | 0, _ => simp
  | 1, _ => simp
  | 2, _ => simp
  | 3, _ => simp)
theorem RRow.far {w : World} {p q : Nat} {x0 x1 x2 x3 : Value} (h : RRow w p x0 x1 x2 x3) (hne : p ≠ q) (y0 y1 y2 y3 : Value) : RRow ((((w.setCell ⟨q, 0, none⟩ y0).setCell ⟨q, 1, none⟩ y1).setCell ⟨q, 2, none⟩ y2).setCell ⟨q, 3, none⟩ y3) p x0 x1 x2 x3 :=
 World.rowIs.setOther (World.rowIs.setOther (World.rowIs.setOther (World.rowIs.setOther h hne _) hne _) hne _) hne _
def rdd (w : World) (p : Nat) : Nat := match w.cell? ⟨p, 3, none⟩ with | some v => rdv w v | none => 0
end F
end Go.Proofs.YtkomjjpekgmjfaaGreat

namespace Go.Proofs.YtkomjjpekgmjfaaGreat
open Go.RowKit
namespace F
def AtHead (w wr : World) (T : Int) (ao1 ao2 ao3 ao4 : Option Addr) (k1 c1 k2 c2 k3 c3 k4 c4 : Nat) (x y u v : List Nat) : Prop :=
 Kept w wr ∧ RRow wr w.heap.size (.bool false) (.slice ao1 k1 c1) (.bool false) (.slice ao2 k2 c2) ∧ RRow wr (w.heap.size + 1) (.bool false) (.slice ao3 k3 c3) (.bool false) (.slice ao4 k4 c4) ∧
 Ok w wr (.slice ao1 k1 c1) x ∧ Ok w wr (.slice ao2 k2 c2) y ∧ Ok w wr (.slice ao3 k3 c3) u ∧ Ok w wr (.slice ao4 k4 c4) v ∧ R false x ∧ R false y ∧ R false u ∧ R false v ∧ 0 < M.val y ∧ 0 < M.val v ∧
 isgn ((M.val x * M.val v : Nat) : Int) ((M.val u * M.val y : Nat) : Int) = T
def next8 (V : World) (p2 p3 : Nat) (ao4 ar2 ao2 ar1 : Option Addr) (k4 c4 kr2 cr2 k2 c2 kr1 cr1 : Nat) : World :=
 ((((((((V.setCell ⟨p2, 0, none⟩ (.bool false)).setCell ⟨p2, 1, none⟩ (.slice ao4 k4 c4)).setCell ⟨p2, 2, none⟩ (.bool false)).setCell ⟨p2, 3, none⟩ (.slice ar2 kr2 cr2)).setCell ⟨p3, 0, none⟩ (.bool false)).setCell ⟨p3, 1, none⟩ (.slice ao2 k2 c2)).setCell ⟨p3, 2, none⟩ (.bool false)).setCell ⟨p3, 3, none⟩ (.slice ar1 kr1 cr1)).drew
theorem Kept.set4 {a b : World} {p : Nat} (h : Kept a b) (hp : a.heap.size ≤ p) (x0 x1 x2 x3 : Value) : Kept a ((((b.setCell ⟨p, 0, none⟩ x0).setCell ⟨p, 1, none⟩ x1).setCell ⟨p, 2, none⟩ x2).setCell ⟨p, 3, none⟩ x3) :=
 (((h.setCell (p := ⟨p, 0, none⟩) hp x0).setCell (p := ⟨p, 1, none⟩) hp x1).setCell (p := ⟨p, 2, none⟩) hp x2).setCell (p := ⟨p, 3, none⟩) hp x3
end F
end Go.Proofs.YtkomjjpekgmjfaaGreat

namespace Go.Proofs.YtkomjjpekgmjfaaGreat
open Go.RowKit
namespace F
end F
end Go.Proofs.YtkomjjpekgmjfaaGreat
