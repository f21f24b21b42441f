/- Boxes: variables on the heap, and what they hold in every world behind, but for a reckoning's block. Variables of type Rat; a reckoning's answer in one form. Lists of one and two fractions; a right fraction's parts. shuntlaw02's of and same; Check of whatever fraction. The reference's fractions (package shuntref02): variables on the heap, values, lowest terms. shuntref02.Lowest: a fraction in lowest terms. shuntref02: Take, Give, told, Times, Held. shuntref02: Take, Give, told. -/
import Derived.Test.YtcigcfcciggclaaGreatGam
import Derived.Deep.DeepCutAuto
import Derived.Deep.RegionHeld3
import Derived.Test.YtcigcfcciggclaaGreatGal
import Derived.Test.YtcigcfcciggclaaGreatRset2
import Derived.Test.YtcigcfcciggclaaGreatGai
import Derived.Test.YtcigcfcciggclaaGreatGaj
import Derived.Test.YtcigcfcciggclaaGreatGah
namespace Go.Proofs.YtcigcfcciggclaaGreat
open Go.RowKit
namespace F

/-- A new variable of type Int at block p, still zero. -/
def ZBox (w : World) (p : Nat) : Prop := w.rowIs p 24 2 (fun i => if i = 0 then .bool false else .slice none 0 0)

theorem ZBox.alloc (w : World) : ZBox (w.alloc (.cells #[.bool false, .slice none 0 0] 24)) w.heap.size :=
  World.rowIs_alloc w #[.bool false, .slice none 0 0] 24 _ (fun i hi => by
    match i, hi with
    | 0, _ => rfl
    | 1, _ => rfl)

theorem ZBox.lt {w : World} {p : Nat} (h : ZBox w p) : p < w.heap.size := World.rowIs.lt h
theorem ZBox.c0 {w : World} {p : Nat} (h : ZBox w p) : w.cell? ⟨p, 0, none⟩ = some (.bool false) := World.rowIs.cell h (i := 0) (by omega)
theorem ZBox.c1 {w : World} {p : Nat} (h : ZBox w p) : w.cell? ⟨p, 1, none⟩ = some (.slice none 0 0) := World.rowIs.cell h (i := 1) (by omega)
theorem ZBox.fz {w : World} {p : Nat} (h : ZBox w p) (o : Nat) : w.frozen? ⟨p, o, none⟩ = false := World.rowIs.frozen h o
theorem ZBox.keptK {kb p : Nat} {w w' : World} (h : ZBox w p) (hne : p ≠ kb) (k : KeptK kb w w') : ZBox w' p := World.rowIs.of_block h (k.block p h.lt hne)
theorem ZBox.kept {p : Nat} {w w' : World} (h : ZBox w p) (k : Kept w w') : ZBox w' p := World.rowIs.of_block h (k.block p h.lt)
theorem ZBox.far {w : World} {p q : Nat} (h : ZBox w p) (hne : p ≠ q) (x y : Value) : ZBox ((w.setCell ⟨q, 0, none⟩ x).setCell ⟨q, 1, none⟩ y) p :=
  World.rowIs.setOther (World.rowIs.setOther h hne x) hne y

theorem KeptK.set2 {kb p : Nat} {a b : World} (h : KeptK kb a b) (hp : a.heap.size ≤ p) (x y : Value) : KeptK kb a ((b.setCell ⟨p, 0, none⟩ x).setCell ⟨p, 1, none⟩ y) := (h.setNew hp x).setNew hp y

theorem Flag.set2 {w : World} {kb p : Nat} {x : Bool} (h : Flag w kb x) (hp : p ≠ kb) (u v : Value) : Flag ((w.setCell ⟨p, 0, Option.none⟩ u).setCell ⟨p, 1, Option.none⟩ v) kb x :=
  (h.other (fun e => hp e.symm) u).other (fun e => hp e.symm) v

theorem New.box2 {B p : Nat} {w : World} {v : Value} {l : List Nat} (h : New B w v l) (hz : ZBox w p) (x y : Value) : New B ((w.setCell ⟨p, 0, none⟩ x).setCell ⟨p, 1, none⟩ y) v l := by
  obtain ⟨hb, ⟨rfl, rfl⟩ | ⟨b, N, f, rfl, hB, hN, hr, hf⟩⟩ := h
  · exact ⟨hb, .inl ⟨rfl, rfl⟩⟩
  · have hne : b ≠ p := by
      intro e
      subst e
      obtain ⟨c, h1, _, _⟩ := hr
      obtain ⟨c', h2, _, _⟩ := hz
      rw [h1] at h2
      simp at h2
    exact ⟨hb, .inr ⟨b, N, f, rfl, hB, hN, World.rowIs.setOther (World.rowIs.setOther hr hne x) hne y, hf⟩⟩

theorem set2_far {W : World} {p c o : Nat} {v x y : Value} (h : W.cell? ⟨c, o, none⟩ = some v) (hne : ¬ p = c) : ((W.setCell ⟨p, 0, none⟩ x).setCell ⟨p, 1, none⟩ y).cell? ⟨c, o, none⟩ = some v := by
  rw [World.cell?_setCell_far _ _ _ _ hne, World.cell?_setCell_far _ _ _ _ hne]; exact h

theorem set2_at {W : World} {p : Nat} {u v x y : Value} (h0 : W.cell? ⟨p, 0, none⟩ = some u) (h1 : W.cell? ⟨p, 1, none⟩ = some v) : ((W.setCell ⟨p, 0, none⟩ x).setCell ⟨p, 1, none⟩ y).cell? ⟨p, 0, none⟩ = some x ∧ ((W.setCell ⟨p, 0, none⟩ x).setCell ⟨p, 1, none⟩ y).cell? ⟨p, 1, none⟩ = some y :=
  ⟨by rw [World.cell?_setCell_other _ _ _ _ (by simp)]; exact World.cell?_setCell_same _ _ _ h0, World.cell?_setCell_same _ _ _ (by rw [World.cell?_setCell_other _ _ _ _ (by simp)]; exact h1)⟩

/-- The variable at block p holds an Int that reads as l, in W and in every world behind. -/
def Box (kb : Nat) (W : World) (p : Nat) (s : Bool) (ao : Option Addr) (k c : Nat) (l : List Nat) : Prop :=
  ∀ V, KeptK kb W V → (V.cell? ⟨p, 0, none⟩ = some (.bool s) ∧ V.cell? ⟨p, 1, none⟩ = some (.slice ao k c)) ∧ Sl V (.slice ao k c) l

section
variable {kb p k c : Nat} {W V : World} {s x : Bool} {ao : Option Addr} {l : List Nat}
theorem Box.mv {W' : World} (h : Box kb W p s ao k c l) (hk : KeptK kb W W') : Box kb W' p s ao k c l := fun V hV => h V (hk.trans hV)
theorem Box.c0 (h : Box kb W p s ao k c l) (hk : KeptK kb W V) : V.cell? ⟨p, 0, none⟩ = some (.bool s) := (h V hk).1.1
theorem Box.c1 (h : Box kb W p s ao k c l) (hk : KeptK kb W V) : V.cell? ⟨p, 1, none⟩ = some (.slice ao k c) := (h V hk).1.2
theorem Box.sl (h : Box kb W p s ao k c l) (hk : KeptK kb W V) : Sl V (.slice ao k c) l := (h V hk).2
theorem Box.mk (hF : Flag W kb x) (hne : p ≠ kb) (h0 : W.cell? ⟨p, 0, none⟩ = some (.bool s)) (h1 : W.cell? ⟨p, 1, none⟩ = some (.slice ao k c)) (hs : Sl W (.slice ao k c) l) : Box kb W p s ao k c l :=
  fun _ hV => ⟨⟨cell_keptK hV hne h0, cell_keptK hV hne h1⟩, Sl.keptK hF hs hV⟩
end

/-- The variable at block p holds a Rat whose parts read as a and d. -/
def RBox (kb : Nat) (W : World) (p : Nat) (m : Bool) (ao : Option Addr) (k c : Nat) (n : Bool) (ap : Option Addr) (k' c' : Nat) (a d : List Nat) : Prop :=
  ∀ V, KeptK kb W V → (V.cell? ⟨p, 0, none⟩ = some (.bool m) ∧ V.cell? ⟨p, 1, none⟩ = some (.slice ao k c) ∧ V.cell? ⟨p, 2, none⟩ = some (.bool n) ∧ V.cell? ⟨p, 3, none⟩ = some (.slice ap k' c')) ∧ Sl V (.slice ao k c) a ∧ Sl V (.slice ap k' c') d

section
variable {kb p k c k' c' : Nat} {W V : World} {m n x : Bool} {ao ap : Option Addr} {a d : List Nat}
theorem RBox.mv {W' : World} (h : RBox kb W p m ao k c n ap k' c' a d) (hk : KeptK kb W W') : RBox kb W' p m ao k c n ap k' c' a d := fun V hV => h V (hk.trans hV)
theorem RBox.c0 (h : RBox kb W p m ao k c n ap k' c' a d) (hk : KeptK kb W V) : V.cell? ⟨p, 0, none⟩ = some (.bool m) := (h V hk).1.1
theorem RBox.c1 (h : RBox kb W p m ao k c n ap k' c' a d) (hk : KeptK kb W V) : V.cell? ⟨p, 1, none⟩ = some (.slice ao k c) := (h V hk).1.2.1
theorem RBox.c2 (h : RBox kb W p m ao k c n ap k' c' a d) (hk : KeptK kb W V) : V.cell? ⟨p, 2, none⟩ = some (.bool n) := (h V hk).1.2.2.1
theorem RBox.c3 (h : RBox kb W p m ao k c n ap k' c' a d) (hk : KeptK kb W V) : V.cell? ⟨p, 3, none⟩ = some (.slice ap k' c') := (h V hk).1.2.2.2
theorem RBox.sn (h : RBox kb W p m ao k c n ap k' c' a d) (hk : KeptK kb W V) : Sl V (.slice ao k c) a := (h V hk).2.1
theorem RBox.sd (h : RBox kb W p m ao k c n ap k' c' a d) (hk : KeptK kb W V) : Sl V (.slice ap k' c') d := (h V hk).2.2
theorem RBox.mk (hF : Flag W kb x) (hne : p ≠ kb) (h0 : W.cell? ⟨p, 0, none⟩ = some (.bool m)) (h1 : W.cell? ⟨p, 1, none⟩ = some (.slice ao k c)) (h2 : W.cell? ⟨p, 2, none⟩ = some (.bool n)) (h3 : W.cell? ⟨p, 3, none⟩ = some (.slice ap k' c')) (ha : Sl W (.slice ao k c) a) (hd : Sl W (.slice ap k' c') d) : RBox kb W p m ao k c n ap k' c' a d :=
  fun _ hV => ⟨⟨cell_keptK hV hne h0, cell_keptK hV hne h1, cell_keptK hV hne h2, cell_keptK hV hne h3⟩, Sl.keptK hF ha hV, Sl.keptK hF hd hV⟩
end

end F
end Go.Proofs.YtcigcfcciggclaaGreat

namespace Go.Proofs.YtcigcfcciggclaaGreat
open Go.RowKit
namespace F

/-- The variable at block p holds a Rat of these four. -/
def RRow (w : World) (p : Nat) (x0 x1 x2 x3 : Value) : Prop := w.rowIs p 26 4 (fun i => if i = 0 then x0 else if i = 1 then x1 else if i = 2 then x2 else x3)

theorem RRow.alloc (w : World) (x0 x1 x2 x3 : Value) : RRow (w.alloc (.cells #[x0, x1, x2, x3] 26)) w.heap.size x0 x1 x2 x3 :=
  World.rowIs_alloc w #[x0, x1, x2, x3] 26 _ (fun i hi => by
    match i, hi with
    | 0, _ => rfl
    | 1, _ => rfl
    | 2, _ => rfl
    | 3, _ => rfl)

section
variable {w w' : World} {p : Nat} {x0 x1 x2 x3 : Value}
theorem RRow.lt (h : RRow w p x0 x1 x2 x3) : p < w.heap.size := World.rowIs.lt h
theorem RRow.c0 (h : RRow w p x0 x1 x2 x3) : w.cell? ⟨p, 0, none⟩ = some x0 := World.rowIs.cell h (i := 0) (by omega)
theorem RRow.c1 (h : RRow w p x0 x1 x2 x3) : w.cell? ⟨p, 1, none⟩ = some x1 := World.rowIs.cell h (i := 1) (by omega)
theorem RRow.c2 (h : RRow w p x0 x1 x2 x3) : w.cell? ⟨p, 2, none⟩ = some x2 := World.rowIs.cell h (i := 2) (by omega)
theorem RRow.c3 (h : RRow w p x0 x1 x2 x3) : w.cell? ⟨p, 3, none⟩ = some x3 := World.rowIs.cell h (i := 3) (by omega)
theorem RRow.fz (h : RRow w p x0 x1 x2 x3) (o : Nat) : w.frozen? ⟨p, o, none⟩ = false := World.rowIs.frozen h o
theorem RRow.kept (h : RRow w p x0 x1 x2 x3) (k : Kept w w') : RRow w' p x0 x1 x2 x3 := World.rowIs.of_block h (k.block p h.lt)
theorem RRow.keptK {kb : Nat} (h : RRow w p x0 x1 x2 x3) (hne : p ≠ kb) (k : KeptK kb w w') : RRow w' p x0 x1 x2 x3 := World.rowIs.of_block h (k.block p h.lt hne)
end

theorem Flag.alloc (w : World) (x : Bool) : Flag (w.alloc (.cells #[.bool x] 94)) w.heap.size x :=
  World.rowIs_alloc w #[.bool x] 94 _ (fun i hi => by
    match i, hi with
    | 0, _ => rfl)

theorem pos_false {s : Bool} {l : List Nat} (h : M.Right s l) (hp : 0 < M.int s l) : s = false := by
  cases s
  · rfl
  · have := int_neg_lt (R.of_right h); omega

theorem len_pos {s : Bool} {l : List Nat} (hp : 0 < M.int s l) : 0 < l.length := by
  apply Classical.byContradiction
  intro h
  have : l = [] := List.length_eq_zero_iff.1 (by omega)
  subst this
  cases s <;> simp [M.int, M.val] at hp

theorem answer_q (kb : Nat) (x s t : Bool) (ao ap : Option Addr) (k c k' c' : Nat) (w : World) (hF : Flag w kb x) :
    Calls Tryz.prog 72 #[.pointer (some ⟨kb, 0, none⟩), .agg #[.bool s, .slice ao k c], .agg #[.bool t, .slice ap k' c']] w fun e w' => Kept w w' ∧ ∃ (y0 y2 : Bool) (z1 z3 : Option Addr) (j1 e1 j3 e3 : Nat) (er : Int), e = .returned (.tuple #[.agg #[.bool y0, .slice z1 j1 e1, .bool y2, .slice z3 j3 e3], .int .i64 er]) ∧ ((x = false ∧ er = 0 ∧ y0 = s ∧ z1 = ao ∧ j1 = k ∧ e1 = c ∧ y2 = t ∧ z3 = ap ∧ j3 = k' ∧ e3 = c') ∨ (x = true ∧ er = 13 ∧ y0 = false ∧ z1 = none ∧ j1 = 0 ∧ e1 = 0 ∧ y2 = false ∧ z3 = none ∧ j3 = 0 ∧ e3 = 0)) := by
  refine (answer_r kb x s t ao ap k c k' c' w hF).mono ?_
  rintro e w' ⟨h1, rfl⟩
  cases x
  · exact ⟨h1, s, t, ao, ap, k, c, k', c', 0, rfl, .inl ⟨rfl, rfl, rfl, rfl, rfl, rfl, rfl, rfl, rfl, rfl⟩⟩
  · exact ⟨h1, false, false, none, none, 0, 0, 0, 0, 13, rfl, .inr ⟨rfl, rfl, rfl, rfl, rfl, rfl, rfl, rfl, rfl, rfl⟩⟩

end F
end Go.Proofs.YtcigcfcciggclaaGreat

namespace Go.Proofs.YtcigcfcciggclaaGreat
open Go.RowKit
namespace F

/-- A right fraction in a world: its parts' values. -/
structure RatR (m n : Bool) (a d : List Nat) : Prop where
  ra : R m a
  rd : R n d
  pos : 0 < M.int n d
  low : Nat.gcd (M.val a) (M.val d) = 1

theorem RatR.sgn {m n : Bool} {a d : List Nat} (h : RatR m n a d) : n = false := by
  cases n
  · rfl
  · have := int_neg_lt h.rd; have := h.pos; omega

theorem RatR.val {m n : Bool} {a d : List Nat} (h : RatR m n a d) : M.int n d = (M.val d : Int) := by rw [h.sgn]; simp [M.int]

theorem RatR.vpos {m n : Bool} {a d : List Nat} (h : RatR m n a d) : 0 < M.val d := by have := h.pos; rw [h.val] at this; omega

/-- One or the other. -/
def two {α : Type} (x y : α) (i : Nat) : α := if i = 0 then x else y

theorem RatAll.two {w : World} {b : Nat} {m n p q : Bool} {a1 a2 b1 b2 : Option Addr} {k1 c1 k2 c2 k3 c3 k4 c4 : Nat} {an ad bn bd : List Nat}
    (h0 : w.cell? ⟨b, 0, none⟩ = some (.bool m)) (h1 : w.cell? ⟨b, 1, none⟩ = some (.slice a1 k1 c1)) (h2 : w.cell? ⟨b, 2, none⟩ = some (.bool n)) (h3 : w.cell? ⟨b, 3, none⟩ = some (.slice a2 k2 c2))
    (h4 : w.cell? ⟨b, 4, none⟩ = some (.bool p)) (h5 : w.cell? ⟨b, 5, none⟩ = some (.slice b1 k3 c3)) (h6 : w.cell? ⟨b, 6, none⟩ = some (.bool q)) (h7 : w.cell? ⟨b, 7, none⟩ = some (.slice b2 k4 c4))
    (s1 : Sl w (.slice a1 k1 c1) an) (s2 : Sl w (.slice a2 k2 c2) ad) (s3 : Sl w (.slice b1 k3 c3) bn) (s4 : Sl w (.slice b2 k4 c4) bd)
    (l1 : an.length ≤ 9223372036854775807) (l2 : ad.length ≤ 9223372036854775807) (l3 : bn.length ≤ 9223372036854775807) (l4 : bd.length ≤ 9223372036854775807) :
    RatAll w b 0 2 (F.two m p) (F.two n q) (F.two a1 b1) (F.two a2 b2) (F.two k1 k3) (F.two c1 c3) (F.two k2 k4) (F.two c2 c4) (F.two an bn) (F.two ad bd) := by
  intro i hi
  match i, hi with
  | 0, _ => exact ⟨⟨h0, h1, h2, h3⟩, s1, s2, l1, l2⟩
  | 1, _ => exact ⟨⟨h4, h5, h6, h7⟩, s3, s4, l3, l4⟩

theorem Refused.two {m n p q : Bool} {an ad bn bd : List Nat} {c : Int} (hA : RatR m n an ad) (hB : RatR p q bn bd) (h : Refused 2 (F.two m p) (F.two n q) (F.two an bn) (F.two ad bd) c) : c = 0 := by
  rcases h with ⟨_, i, hi, h⟩ | ⟨_, ⟨_, i, hi, h⟩ | ⟨h, _⟩⟩
  · exfalso
    match i, hi with
    | 0, _ => exact h ⟨hA.ra, hA.rd⟩
    | 1, _ => exact h ⟨hB.ra, hB.rd⟩
  · exfalso
    match i, hi with
    | 0, _ => exact h ⟨hA.pos, hA.low⟩
    | 1, _ => exact h ⟨hB.pos, hB.low⟩
  · exact h

theorem RatAll.single {w : World} {b : Nat} {m n : Bool} {a1 a2 : Option Addr} {k1 c1 k2 c2 : Nat} {an ad : List Nat}
    (h0 : w.cell? ⟨b, 0, none⟩ = some (.bool m)) (h1 : w.cell? ⟨b, 1, none⟩ = some (.slice a1 k1 c1)) (h2 : w.cell? ⟨b, 2, none⟩ = some (.bool n)) (h3 : w.cell? ⟨b, 3, none⟩ = some (.slice a2 k2 c2))
    (s1 : Sl w (.slice a1 k1 c1) an) (s2 : Sl w (.slice a2 k2 c2) ad) (l1 : an.length ≤ 9223372036854775807) (l2 : ad.length ≤ 9223372036854775807) :
    RatAll w b 0 1 (fun _ => m) (fun _ => n) (fun _ => a1) (fun _ => a2) (fun _ => k1) (fun _ => c1) (fun _ => k2) (fun _ => c2) (fun _ => an) (fun _ => ad) := by
  intro i hi
  match i, hi with
  | 0, _ => exact ⟨⟨h0, h1, h2, h3⟩, s1, s2, l1, l2⟩

theorem Refused.single {m n : Bool} {an ad : List Nat} {c : Int} (hA : RatR m n an ad) (h : Refused 1 (fun _ => m) (fun _ => n) (fun _ => an) (fun _ => ad) c) : c = 0 := by
  rcases h with ⟨_, i, hi, h⟩ | ⟨_, ⟨_, i, hi, h⟩ | ⟨h, _⟩⟩
  · exact absurd ⟨hA.ra, hA.rd⟩ h
  · exact absurd ⟨hA.pos, hA.low⟩ h
  · exact h

end F
end Go.Proofs.YtcigcfcciggclaaGreat

namespace Go.Proofs.YtcigcfcciggclaaGreat
open Go.RowKit
namespace F

/-- The variable at block p holds an Int of these two. -/
def IRow (w : World) (p : Nat) (x0 x1 : Value) : Prop := w.rowIs p 24 2 (fun i => if i = 0 then x0 else x1)

theorem IRow.alloc (w : World) (x0 x1 : Value) : IRow (w.alloc (.cells #[x0, x1] 24)) w.heap.size x0 x1 :=
  World.rowIs_alloc w #[x0, x1] 24 _ (fun i hi => by
    match i, hi with
    | 0, _ => rfl
    | 1, _ => rfl)

section
variable {w w' : World} {p : Nat} {x0 x1 : Value}
theorem IRow.lt (h : IRow w p x0 x1) : p < w.heap.size := World.rowIs.lt h
theorem IRow.c0 (h : IRow w p x0 x1) : w.cell? ⟨p, 0, none⟩ = some x0 := World.rowIs.cell h (i := 0) (by omega)
theorem IRow.c1 (h : IRow w p x0 x1) : w.cell? ⟨p, 1, none⟩ = some x1 := World.rowIs.cell h (i := 1) (by omega)
theorem IRow.kept (h : IRow w p x0 x1) (k : Kept w w') : IRow w' p x0 x1 := World.rowIs.of_block h (k.block p h.lt)
end

theorem set4' {B p : Nat} {w : World} {v : Value} {l : List Nat} (h : New B w v l) (hp : p < B) (x0 x1 x2 x3 : Value) : New B ((((w.setCell ⟨p, 0, none⟩ x0).setCell ⟨p, 1, none⟩ x1).setCell ⟨p, 2, none⟩ x2).setCell ⟨p, 3, none⟩ x3) v l :=
  (((h.other hp _).other hp _).other hp _).other hp _

set_option maxHeartbeats 1000000 in
theorem Check_any (m n : Bool) (aoa aob : Option Addr) (ka ca kb cb : Nat) (a d : List Nat) (w : World) (ha : Sl w (.slice aoa ka ca) a) (hd : Sl w (.slice aob kb cb) d) (hla : a.length ≤ 9223372036854775807) (hld : d.length ≤ 9223372036854775807) :
    Calls Tryz.prog 24 #[.agg #[.bool m, .slice aoa ka ca, .bool n, .slice aob kb cb]] w fun e w' => Kept w w' ∧ ∃ c : Int, e = .returned (.int .i64 c) ∧ Refused 1 (fun _ => m) (fun _ => n) (fun _ => a) (fun _ => d) c := by
  have HA : Hid (Sl w (.slice aoa ka ca) a ∧ Sl w (.slice aob kb cb) d ∧ a.length ≤ 9223372036854775807 ∧ d.length ≤ 9223372036854775807) := ⟨ha, hd, hla, hld⟩
  clear ha hd hla hld
  have K2 : ∀ x y, Kept w ((w.alloc x).alloc y) := fun x y => ((Kept.refl w).alloc x).alloc y
  go_enter Tryz.func24, Tryz.ntmps24
  go_wp2_with fail
  refine (refusal_any _ (w.heap.size + 1) 0 1 1 _ _ _ _ _ _ _ _ _ _ _ (fun _ => rfl) (by omega) (RatAll.single (m := m) (n := n) (a1 := aoa) (a2 := aob) (k1 := ka) (c1 := ca) (k2 := kb) (c2 := cb) (by simp) (by simp) (by simp) (by simp) (HA.out.1.kept (K2 _ _)) (HA.out.2.1.kept (K2 _ _)) HA.out.2.2.1 HA.out.2.2.2)).mono ?_
  rintro e w1 ⟨hk, c, rfl, hc⟩
  have HK : Hid (Kept w w1 ∧ Refused 1 (fun _ => m) (fun _ => n) (fun _ => a) (fun _ => d) c) := ⟨(K2 _ _).trans hk, hc⟩
  clear hk hc K2
  go_wp2
  go_ret
  exact ⟨HK.out.1, c, rfl, HK.out.2⟩

set_option maxHeartbeats 1000000 in
theorem Check_ok (m n : Bool) (aoa aob : Option Addr) (ka ca kb cb : Nat) (a d : List Nat) (w : World) (ha : Sl w (.slice aoa ka ca) a) (hd : Sl w (.slice aob kb cb) d) (hA : RatR m n a d) :
    Calls Tryz.prog 24 #[.agg #[.bool m, .slice aoa ka ca, .bool n, .slice aob kb cb]] w fun e w' => e = .returned (.int .i64 0) ∧ Kept w w' := by
  refine (Check_any m n aoa aob ka ca kb cb a d w ha hd (by have := hA.ra.1; omega) (by have := hA.rd.1; omega)).mono ?_
  rintro e w' ⟨h1, c, rfl, hc⟩
  exact ⟨by rw [Refused.single hA hc], h1⟩

theorem Check_zero (w : World) : Calls Tryz.prog 24 #[.agg #[.bool false, .slice none 0 0, .bool false, .slice none 0 0]] w fun e w' => e = .returned (.int .i64 20) ∧ Kept w w' := by
  refine (Check_any false false none none 0 0 0 0 [] [] w (Sl.nil _ _ _) (Sl.nil _ _ _) (by simp) (by simp)).mono ?_
  rintro e w' ⟨h1, c, rfl, hc⟩
  have hr : R false [] := ⟨by simp, fun _ => rfl, fun h => by simp at h⟩
  rcases hc with ⟨_, i, hi, h⟩ | ⟨_, ⟨h, _⟩ | ⟨_, h⟩⟩
  · exact absurd ⟨hr, hr⟩ h
  · exact ⟨by rw [h], h1⟩
  · have := (h 0 (by omega)).1
    simp [M.int, M.val] at this

/-- A fraction in new memory that is right, of values X over Y. -/
def RatN (B : Nat) (w : World) (v : Value) (X Y : Int) : Prop :=
  ∃ s ao k c l t ap k' c' l', v = .agg #[.bool s, .slice ao k c, .bool t, .slice ap k' c'] ∧ New B w (.slice ao k c) l ∧ M.Right s l ∧ M.int s l = X ∧ New B w (.slice ap k' c') l' ∧ M.Right t l' ∧ M.int t l' = Y ∧ RatR s t l l'

theorem made_low {a b : Nat} {x y g X Y : Int} (hg : g.natAbs = Nat.gcd a b) (ha : x.natAbs = a) (hb : y.natAbs = b) (hx : X * g = x) (hy : Y * g = y) (hy0 : y ≠ 0) (hs : g < 0 ↔ y < 0) : 0 < Y ∧ Nat.gcd X.natAbs Y.natAbs = 1 := by
  subst ha hb hx hy
  have g0 : g ≠ 0 := fun h => hy0 (by rw [h]; simp)
  refine ⟨?_, ?_⟩
  · rcases Int.lt_trichotomy Y 0 with h | h | h
    · exfalso
      rcases Int.lt_or_gt_of_ne g0 with h1 | h1
      · have := Int.mul_pos_of_neg_of_neg h h1
        have := hs.1 h1
        omega
      · have := Int.mul_neg_of_neg_of_pos h h1
        have := hs.2 this
        omega
    · exact absurd (by rw [h]; simp) hy0
    · exact h
  · rw [Int.natAbs_mul, Int.natAbs_mul, Nat.gcd_mul_right] at hg
    have hp : 0 < g.natAbs := by omega
    exact Nat.eq_of_mul_eq_mul_right hp (by omega)

theorem RatIs.right {B : Nat} {w : World} {v : Value} {X Y : Int} (h : RatIs B w v X Y) (h0 : 0 < Y) (h1 : Nat.gcd X.natAbs Y.natAbs = 1) : RatN B w v X Y := by
  obtain ⟨s, ao, k, c, l, t, ap, k', c', l', rfl, n1, r1, v1, n2, r2, v2⟩ := h
  refine ⟨s, ao, k, c, l, t, ap, k', c', l', rfl, n1, r1, v1, n2, r2, v2, R.of_right r1, R.of_right r2, by rw [v2]; exact h0, ?_⟩
  rw [← M.natAbs_int s l, ← M.natAbs_int t l', v1, v2]; exact h1

/-- Make of right parts, den not 0. -/
theorem Make_ok (m n : Bool) (aoa aob : Option Addr) (ka ca kb cb : Nat) (a b : List Nat) (w : World) (ha : Sl w (.slice aoa ka ca) a) (hb : Sl w (.slice aob kb cb) b) (hra : R m a) (hrb : R n b) (hb0 : 0 < b.length) :
    Calls Tryz.prog 17 #[.agg #[.bool m, .slice aoa ka ca], .agg #[.bool n, .slice aob kb cb]] w fun e w' => Kept w w' ∧ ∃ v X Y, e = .returned (.tuple #[v, .int .i64 0]) ∧ RatN w.heap.size w' v X Y ∧ ∃ g : Int, g.natAbs = Nat.gcd (M.val a) (M.val b) ∧ X * g = M.int m a ∧ Y * g = M.int n b ∧ (g < 0 ↔ M.int n b < 0) := by
  refine (make_r m n aoa aob ka ca kb cb a b w ha hb hra hrb hb0).mono ?_
  rintro e w' ⟨h1, v, X, Y, rfl, h2, g, h3, h4, h5, h6⟩
  have hp := M.val_pos hrb.tr (fun e => by rw [e] at hb0; simp at hb0)
  have hl := made_low h3 (M.natAbs_int m a) (M.natAbs_int n b) h4 h5 (fun h => by rw [← M.natAbs_int n b, h] at hp; simp at hp) h6
  exact ⟨h1, v, X, Y, rfl, h2.right hl.1 hl.2, g, h3, h4, h5, h6⟩

set_option maxHeartbeats 2000000 in
theorem of_ok (x y : Int) (w : World) (x1 : -9223372036854775808 ≤ x) (x2 : x ≤ 9223372036854775807) (y1 : -9223372036854775808 ≤ y) (y2 : y ≤ 9223372036854775807) (y0 : y ≠ 0) :
    Calls Tryz.prog 26 #[.int .i64 x, .int .i64 y] w fun e w' => Kept w w' ∧ ∃ v X Y, e = .returned v ∧ RatN w.heap.size w' v X Y ∧ ∃ g : Int, g.natAbs = Nat.gcd x.natAbs y.natAbs ∧ X * g = x ∧ Y * g = y ∧ (g < 0 ↔ y < 0) := by
  have HY : Hid (y ≠ 0) := y0
  have HX : Hid ((-9223372036854775808 ≤ x ∧ x ≤ 9223372036854775807) ∧ (-9223372036854775808 ≤ y ∧ y ≤ 9223372036854775807)) := ⟨⟨x1, x2⟩, y1, y2⟩
  clear x1 x2 y1 y2 y0
  go_enter Tryz.func26, Tryz.ntmps26
  go_wp2_with fail
  refine (of_any x _ HX.out.1.1 HX.out.1.2).mono ?_
  rintro e w1 ⟨hk1, s1, a1, k1, c1, l1, rfl, n1, r1, v1⟩
  have rZ := (RRow.alloc w (.bool false) (.slice none 0 0) (.bool false) (.slice none 0 0)).kept hk1
  have HK1 : Hid (Kept w w1 ∧ New w.heap.size w1 (.slice a1 k1 c1) l1 ∧ M.Right s1 l1 ∧ M.int s1 l1 = x) := ⟨((Kept.refl w).alloc _).trans hk1, n1.mono (by simp), r1, v1⟩
  have HZ := hid' rZ
  clear hk1 n1 r1 v1 rZ
  go_wp2_with fail
  refine (of_any y _ HX.out.2.1 HX.out.2.2).mono ?_
  rintro e w2 ⟨hk2, s2, a2, k2, c2, l2, rfl, n2, r2, v2⟩
  have HK2 : Hid (Kept w w2 ∧ Sl w2 (.slice a1 k1 c1) l1 ∧ Sl w2 (.slice a2 k2 c2) l2 ∧ M.Right s2 l2 ∧ M.int s2 l2 = y) := ⟨HK1.out.1.trans hk2, (HK1.out.2.1.kept hk2).sl, n2.sl, r2, v2⟩
  have HZ2 := hid' (HZ.out.kept hk2)
  clear hk2 n2 r2 v2
  go_wp2_with fail
  have hl2 : 0 < l2.length := by
    apply Classical.byContradiction
    intro h
    have h9 : l2 = [] := List.length_eq_zero_iff.1 (by omega)
    have h8 := HK2.out.2.2.2.2
    rw [h9] at h8
    apply HY.out
    rw [← h8]
    cases s2 <;> simp [M.int, M.val]
  have HL := hid' hl2
  clear hl2
  refine (Make_ok s1 s2 a1 a2 k1 c1 k2 c2 l1 l2 _ HK2.out.2.1 HK2.out.2.2.1 (R.of_right HK1.out.2.2.1) (R.of_right HK2.out.2.2.2.1) HL.out).mono ?_
  rintro e w3 ⟨hk3, v, X, Y, rfl, hR, hg⟩
  obtain ⟨s, ao, k, c, l, t, ap, k', c', l', rfl, q1, q2, q3, q4, q5, q6, q7⟩ := hR
  rw [HK1.out.2.2.2, HK2.out.2.2.2.2, ← M.natAbs_int s1 l1, ← M.natAbs_int s2 l2, HK1.out.2.2.2, HK2.out.2.2.2.2] at hg
  have HQ := hid' (And.intro q1 (And.intro q2 (And.intro q3 (And.intro q4 (And.intro q5 (And.intro q6 q7))))))
  have HG := hid' hg
  have rZ := HZ2.out.kept hk3
  have i0 := rZ.c0
  have i1 := rZ.c1
  have i2 := rZ.c2
  have i3 := rZ.c3
  have o0 := rZ.fz 0
  have o1 := rZ.fz 1
  have o2 := rZ.fz 2
  have o3 := rZ.fz 3
  have hz := rZ.lt
  have HKK : Hid (Kept w w3 ∧ w.heap.size < w2.heap.size) := ⟨HK2.out.1.trans hk3, HZ2.out.lt⟩
  clear hk3 q1 q2 q3 q4 q5 q6 q7 hg rZ
  go_wp2
  obtain ⟨q1, q2, q3, q4, q5, q6, q7⟩ := HQ.out
  have hz2 := HKK.out.2
  refine bodyPost_ret (v := .agg #[.bool s, .slice ao k c, .bool t, .slice ap k' c']) (by simp [results, Tryz.results26, go_sem, i0, i1, i2, i3, hz]) rfl ⟨?_, _, X, Y, rfl, ⟨s, ao, k, c, l, t, ap, k', c', l', rfl, ?_, q2, q3, ?_, q5, q6, q7⟩, HG.out⟩
  · exact ((((HKK.out.1.setCell (by show w.heap.size ≤ w.heap.size; omega) _).setCell (by show w.heap.size ≤ w.heap.size; omega) _).setCell (by show w.heap.size ≤ w.heap.size; omega) _).setCell (by show w.heap.size ≤ w.heap.size; omega) _).alloc _
  · exact ((set4' q1 hz2 _ _ _ _).kept ((Kept.refl _).alloc _)).mono (by omega)
  · exact ((set4' q4 hz2 _ _ _ _).kept ((Kept.refl _).alloc _)).mono (by omega)

set_option maxHeartbeats 1000000 in
theorem lsame_r (m n : Bool) (va vb vc vd : Value) (a b : List Nat) (w : World) (ha : Sl w va a) (hb : Sl w vb b) (hc : Sl w vc a) (hd : Sl w vd b) (hla : a.length ≤ 1000) (hlb : b.length ≤ 1000) :
    Calls Tryz.prog 15 #[.agg #[.bool m, va, .bool n, vb], .agg #[.bool m, vc, .bool n, vd]] w fun e w' => e = .returned (.bool true) ∧ Kept w w' := by
  have HA : Hid (Sl w va a ∧ Sl w vb b ∧ Sl w vc a ∧ Sl w vd b ∧ a.length ≤ 1000 ∧ b.length ≤ 1000) := ⟨ha, hb, hc, hd, hla, hlb⟩
  clear ha hb hc hd hla hlb
  have K2 : ∀ x y, Kept w ((w.alloc x).alloc y) := fun x y => ((Kept.refl w).alloc x).alloc y
  go_enter Tryz.func15, Tryz.ntmps15
  go_wp2_with fail
  refine (same_r m n va vb vc vd a b _ (HA.out.1.kept (K2 _ _)) (HA.out.2.1.kept (K2 _ _)) (HA.out.2.2.1.kept (K2 _ _)) (HA.out.2.2.2.1.kept (K2 _ _)) HA.out.2.2.2.2.1 HA.out.2.2.2.2.2).mono ?_
  rintro e w1 ⟨rfl, hk⟩
  have HK : Hid (Kept w w1) := (K2 _ _).trans hk
  clear hk K2
  go_wp2
  go_ret
  exact ⟨rfl, HK.out⟩

end F
end Go.Proofs.YtcigcfcciggclaaGreat

namespace Go.Proofs.YtcigcfcciggclaaGreat
open Go.RowKit
namespace F

/-- The variable at block p holds a number of the reference's of these two. -/
def NRow (w : World) (p : Nat) (x0 x1 : Value) : Prop := w.rowIs p 66 2 (fun i => if i = 0 then x0 else x1)
theorem NRow.alloc (w : World) (x0 x1 : Value) : NRow (w.alloc (.cells #[x0, x1] 66)) w.heap.size x0 x1 :=
  World.rowIs_alloc w #[x0, x1] 66 _ (fun i hi => by
    match i, hi with
    | 0, _ => rfl
    | 1, _ => rfl)
section
variable {w w' : World} {p q : Nat} {x0 x1 : Value}
theorem NRow.lt (h : NRow w p x0 x1) : p < w.heap.size := World.rowIs.lt h
theorem NRow.c0 (h : NRow w p x0 x1) : w.cell? ⟨p, 0, none⟩ = some x0 := World.rowIs.cell h (i := 0) (by omega)
theorem NRow.c1 (h : NRow w p x0 x1) : w.cell? ⟨p, 1, none⟩ = some x1 := World.rowIs.cell h (i := 1) (by omega)
theorem NRow.fz (h : NRow w p x0 x1) (o : Nat) : w.frozen? ⟨p, o, none⟩ = false := World.rowIs.frozen h o
theorem NRow.kept (h : NRow w p x0 x1) (k : Kept w w') : NRow w' p x0 x1 := World.rowIs.of_block h (k.block p h.lt)
theorem NRow.set2 (h : NRow w p x0 x1) (y0 y1 : Value) : NRow ((w.setCell ⟨p, 0, none⟩ y0).setCell ⟨p, 1, none⟩ y1) p y0 y1 :=
  ((World.rowIs.set (World.rowIs.set h 0 y0) 1 y1).congr fun i hi => by
    match i, hi with
    | 0, _ => rfl
    | 1, _ => rfl)
theorem NRow.far (h : NRow w p x0 x1) (hne : ¬ p = q) (x y : Value) : NRow ((w.setCell ⟨q, 0, none⟩ x).setCell ⟨q, 1, none⟩ y) p x0 x1 :=
  World.rowIs.setOther (World.rowIs.setOther h hne x) hne y
theorem NRow.alloc2 (w : World) (x0 x1 y0 y1 : Value) : NRow ((w.alloc (.cells #[x0, x1] 66)).alloc (.cells #[y0, y1] 66)) w.heap.size x0 x1 ∧ NRow ((w.alloc (.cells #[x0, x1] 66)).alloc (.cells #[y0, y1] 66)) (w.heap.size + 1) y0 y1 := by
  have h := NRow.alloc (w.alloc (.cells #[x0, x1] 66)) y0 y1
  rw [World.size_alloc] at h
  exact ⟨(NRow.alloc w x0 x1).kept ((Kept.refl _).alloc _), h⟩
end

/-- The variable at block p holds a fraction of the reference's of these four. -/
def FRow (w : World) (p : Nat) (x0 x1 x2 x3 : Value) : Prop := w.rowIs p 68 4 (fun i => if i = 0 then x0 else if i = 1 then x1 else if i = 2 then x2 else x3)
theorem FRow.alloc (w : World) (x0 x1 x2 x3 : Value) : FRow (w.alloc (.cells #[x0, x1, x2, x3] 68)) w.heap.size x0 x1 x2 x3 :=
  World.rowIs_alloc w #[x0, x1, x2, x3] 68 _ (fun i hi => by
    match i, hi with
    | 0, _ => rfl
    | 1, _ => rfl
    | 2, _ => rfl
    | 3, _ => rfl)
section
variable {w w' : World} {p q : Nat} {x0 x1 x2 x3 : Value}
theorem FRow.lt (h : FRow w p x0 x1 x2 x3) : p < w.heap.size := World.rowIs.lt h
theorem FRow.c0 (h : FRow w p x0 x1 x2 x3) : w.cell? ⟨p, 0, none⟩ = some x0 := World.rowIs.cell h (i := 0) (by omega)
theorem FRow.c1 (h : FRow w p x0 x1 x2 x3) : w.cell? ⟨p, 1, none⟩ = some x1 := World.rowIs.cell h (i := 1) (by omega)
theorem FRow.c2 (h : FRow w p x0 x1 x2 x3) : w.cell? ⟨p, 2, none⟩ = some x2 := World.rowIs.cell h (i := 2) (by omega)
theorem FRow.c3 (h : FRow w p x0 x1 x2 x3) : w.cell? ⟨p, 3, none⟩ = some x3 := World.rowIs.cell h (i := 3) (by omega)
theorem FRow.fz (h : FRow w p x0 x1 x2 x3) (o : Nat) : w.frozen? ⟨p, o, none⟩ = false := World.rowIs.frozen h o
theorem FRow.kept (h : FRow w p x0 x1 x2 x3) (k : Kept w w') : FRow w' p x0 x1 x2 x3 := World.rowIs.of_block h (k.block p h.lt)
end

theorem frow_two {w : World} {p q : Nat} {x0 x1 x2 x3 y0 y1 y2 y3 : Value} (h : FRow w p x0 x1 x2 x3) (h' : FRow w q y0 y1 y2 y3) : (w.cell? ⟨p, 0, none⟩ = some x0 ∧ w.cell? ⟨p, 1, none⟩ = some x1 ∧ w.cell? ⟨p, 2, none⟩ = some x2 ∧ w.cell? ⟨p, 3, none⟩ = some x3) ∧ w.cell? ⟨q, 0, none⟩ = some y0 ∧ w.cell? ⟨q, 1, none⟩ = some y1 ∧ w.cell? ⟨q, 2, none⟩ = some y2 ∧ w.cell? ⟨q, 3, none⟩ = some y3 :=
  ⟨⟨h.c0, h.c1, h.c2, h.c3⟩, h'.c0, h'.c1, h'.c2, h'.c3⟩

/-- Four cells of block p are set. -/
def put4 (w : World) (p : Nat) (x0 x1 x2 x3 : Value) : World := (((w.setCell ⟨p, 0, none⟩ x0).setCell ⟨p, 1, none⟩ x1).setCell ⟨p, 2, none⟩ x2).setCell ⟨p, 3, none⟩ x3
theorem Kept.put4 {a b : World} {p : Nat} (h : Kept a b) (hp : a.heap.size ≤ p) (x0 x1 x2 x3 : Value) : Kept a (put4 b p x0 x1 x2 x3) :=
  (((h.setCell (p := ⟨p, 0, none⟩) hp x0).setCell (p := ⟨p, 1, none⟩) hp x1).setCell (p := ⟨p, 2, none⟩) hp x2).setCell (p := ⟨p, 3, none⟩) hp x3

/-- Digits (int cells) don't lie where a bool or a slice is. -/
theorem nset {w : World} {s : Bool} {v : Value} {z : Int} {p o : Nat} {u x : Value} (h : D.NIs w s v z) (h0 : w.cell? ⟨p, o, none⟩ = some u) (hu : ∀ k n, u ≠ .int k n) : D.NIs (w.setCell ⟨p, o, none⟩ x) s v z := by
  obtain ⟨l, ⟨hb, ao, cap, rfl, hx⟩, h2⟩ := h
  refine ⟨l, ⟨hb, ao, cap, rfl, fun hl => ?_⟩, h2⟩
  obtain ⟨k1, b', off', rfl, hlt, hc⟩ := hx hl
  refine ⟨k1, b', off', rfl, by rw [World.size_setCell]; exact hlt, fun j hj => ?_⟩
  rw [World.cell?_setCell_other _ _ _ _ (fun e => by have := hc j hj; rw [← e, h0] at this; simp at this; exact hu _ _ this)]
  exact hc j hj

theorem nset4 {w : World} {s : Bool} {v : Value} {z : Int} {p : Nat} {b b' : Bool} {ao ao' : Option Addr} {n n' c c' : Nat} {y0 y1 y2 y3 : Value} (h : D.NIs w s v z) (hF : FRow w p (.bool b) (.slice ao n c) (.bool b') (.slice ao' n' c')) : D.NIs (put4 w p y0 y1 y2 y3) s v z := by
  have h0 := nset (p := p) (o := 0) (x := y0) h hF.c0 (by simp)
  have h1 := nset (p := p) (o := 1) (x := y1) h0 (by rw [World.cell?_setCell_other _ _ _ _ (by simp)]; exact hF.c1) (by simp)
  have h2 := nset (p := p) (o := 2) (x := y2) h1 (by rw [World.cell?_setCell_other _ _ _ _ (by simp), World.cell?_setCell_other _ _ _ _ (by simp)]; exact hF.c2) (by simp)
  exact nset (p := p) (o := 3) (x := y3) h2 (by rw [World.cell?_setCell_other _ _ _ _ (by simp), World.cell?_setCell_other _ _ _ _ (by simp), World.cell?_setCell_other _ _ _ _ (by simp)]; exact hF.c3) (by simp)

/-- The value is a fraction of the reference's, X over Y, its digits no more than k and k'. -/
def FIs (w : World) (v : Value) (X Y : Int) (k k' : Nat) : Prop :=
  ∃ s ao n c t ap n' c', v = .agg #[.bool s, .slice ao n c, .bool t, .slice ap n' c'] ∧ D.NIs w s (.slice ao n c) X ∧ D.NIs w t (.slice ap n' c') Y ∧ n ≤ k ∧ n' ≤ k'

theorem FIs.kept {w w' : World} {v : Value} {X Y : Int} {k k' : Nat} (h : FIs w v X Y k k') (hk : Kept w w') : FIs w' v X Y k k' := by
  obtain ⟨s, ao, n, c, t, ap, n', c', h1, h2, h3, h4⟩ := h
  exact ⟨s, ao, n, c, t, ap, n', c', h1, h2.kept hk, h3.kept hk, h4⟩

/-- N over D is X over Y in lowest terms. -/
structure Low (X Y N D : Int) : Prop where
  pos : 0 < D
  low : Nat.gcd N.natAbs D.natAbs = 1
  eq : N * Y = X * D

theorem low_of {X Y : Int} (hY : 0 < Y) : Low X Y (Int.tdiv X ((Nat.gcd X.natAbs Y.natAbs : Nat) : Int)) (Int.tdiv Y ((Nat.gcd X.natAbs Y.natAbs : Nat) : Int)) := by
  obtain ⟨g, hg⟩ : ∃ g, g = Nat.gcd X.natAbs Y.natAbs := ⟨_, rfl⟩
  rw [← hg]
  have hp : 0 < g := by rw [hg]; exact Nat.gcd_pos_of_pos_right _ (by omega)
  obtain ⟨x, hx⟩ : (g : Int) ∣ X := by apply Int.natAbs_dvd_natAbs.1; rw [Int.natAbs_natCast, hg]; exact Nat.gcd_dvd_left _ _
  obtain ⟨y, hy⟩ : (g : Int) ∣ Y := by apply Int.natAbs_dvd_natAbs.1; rw [Int.natAbs_natCast, hg]; exact Nat.gcd_dvd_right _ _
  have e1 : Int.tdiv X g = x := by rw [hx]; exact Int.mul_tdiv_cancel_left _ (by omega)
  have e2 : Int.tdiv Y g = y := by rw [hy]; exact Int.mul_tdiv_cancel_left _ (by omega)
  rw [e1, e2]
  refine ⟨?_, ?_, ?_⟩
  · rcases Int.lt_trichotomy y 0 with h | h | h
    · have := Int.mul_neg_of_pos_of_neg (show (0 : Int) < g by omega) h; omega
    · rw [h] at hy; simp at hy; omega
    · exact h
  · rw [hx, hy, Int.natAbs_mul, Int.natAbs_mul, Int.natAbs_natCast, Nat.gcd_mul_left] at hg
    exact Nat.eq_of_mul_eq_mul_left hp (by omega)
  · rw [hx, hy, Int.mul_left_comm x, Int.mul_assoc]

theorem Low.neg {X Y N D : Int} (h : Low (-X) (-Y) N D) : Low X Y N D := ⟨h.pos, h.low, by have := h.eq; rw [Int.mul_neg, Int.neg_mul] at this; omega⟩

theorem Low.one {X Y N D N' D' : Int} (h : Low X Y N D) (h' : Low X Y N' D') (hY : Y ≠ 0) : N = N' ∧ D = D' := by
  obtain ⟨p1, l1, e1⟩ := h
  obtain ⟨p2, l2, e2⟩ := h'
  have key : N * D' = N' * D := by
    apply Int.eq_of_mul_eq_mul_right hY
    have a1 : N * D' * Y = (N * Y) * D' := by grind
    have a2 : N' * D * Y = (N' * Y) * D := by grind
    rw [a1, a2, e1, e2]
    grind
  have e := congrArg Int.natAbs key
  rw [Int.natAbs_mul, Int.natAbs_mul] at e
  have d1 : D.natAbs ∣ D'.natAbs := (Nat.Coprime.symm l1).dvd_of_dvd_mul_left (by rw [e]; exact Nat.dvd_mul_left _ _)
  have d2 : D'.natAbs ∣ D.natAbs := (Nat.Coprime.symm l2).dvd_of_dvd_mul_left (by rw [← e]; exact Nat.dvd_mul_left _ _)
  have hd := Nat.dvd_antisymm d1 d2
  have hD : D = D' := by omega
  subst hD
  exact ⟨Int.eq_of_mul_eq_mul_right (by omega) key, rfl⟩

end F
end Go.Proofs.YtcigcfcciggclaaGreat

namespace Go.Proofs.YtcigcfcciggclaaGreat
open Go.RowKit
namespace F

theorem FRow.far {w : World} {p q : Nat} {x0 x1 x2 x3 : Value} (h : FRow w p x0 x1 x2 x3) (hne : ¬ p = q) (x y : Value) : FRow ((w.setCell ⟨q, 0, none⟩ x).setCell ⟨q, 1, none⟩ y) p x0 x1 x2 x3 :=
  World.rowIs.setOther (World.rowIs.setOther h hne x) hne y

set_option maxRecDepth 100000 in
set_option maxHeartbeats 4000000 in
theorem Lowest_pos (m n : Bool) (aoa aob : Option Addr) (ka ca kb cb : Nat) (X Y : Int) (w : World) (ha : D.NIs w m (.slice aoa ka ca) X) (hb : D.NIs w n (.slice aob kb cb) Y) (hla : ka ≤ 1000) (hlb : kb ≤ 1000) (hy : 0 < Y) :
    Calls Tryz.prog 49 #[.agg #[.bool m, .slice aoa ka ca], .agg #[.bool n, .slice aob kb cb]] w fun e w' => Kept w w' ∧ ∃ v N D, e = .returned v ∧ FIs w' v N D ka kb ∧ Low X Y N D := by
  have HA : Hid (D.NIs w m (.slice aoa ka ca) X ∧ D.NIs w n (.slice aob kb cb) Y) := ⟨ha, hb⟩
  have HL : Hid (ka ≤ 1000 ∧ kb ≤ 1000) := ⟨hla, hlb⟩
  have HY := hid' hy
  clear ha hb hla hlb hy
  go_enter Tryz.func49, Tryz.ntmps49
  go_upto_region 1 with fail
  have h2 := ((NRow.alloc w (.bool m) (.slice aoa ka ca)).kept (((Kept.refl _).alloc (.cells #[.bool n, .slice aob kb cb] 66)).alloc (.cells #[.bool false, .slice none 0 0, .bool false, .slice none 0 0] 68)))
  have h3 := ((NRow.alloc (w.alloc (.cells #[.bool m, .slice aoa ka ca] 66)) (.bool n) (.slice aob kb cb)).kept ((Kept.refl _).alloc (.cells #[.bool false, .slice none 0 0, .bool false, .slice none 0 0] 68)))
  have h4 := FRow.alloc ((w.alloc (.cells #[.bool m, .slice aoa ka ca] 66)).alloc (.cells #[.bool n, .slice aob kb cb] 66)) (.bool false) (.slice none 0 0) (.bool false) (.slice none 0 0)
  have hK := ((((Kept.refl w).alloc (.cells #[.bool m, .slice aoa ka ca] 66)).alloc (.cells #[.bool n, .slice aob kb cb] 66)).alloc (.cells #[.bool false, .slice none 0 0, .bool false, .slice none 0 0] 68))
  simp only [World.size_alloc] at h3 h4
  generalize ((w.alloc (.cells #[.bool m, .slice aoa ka ca] 66)).alloc (.cells #[.bool n, .slice aob kb cb] 66)).alloc (.cells #[.bool false, .slice none 0 0, .bool false, .slice none 0 0] 68) = W at h2 h3 h4 hK ⊢
  obtain ⟨p4, hp4⟩ : ∃ p, p = w.heap.size + 1 + 1 := ⟨_, rfl⟩
  rw [← hp4] at h4 ⊢
  obtain ⟨p3, hp3⟩ : ∃ p, p = w.heap.size + 1 := ⟨_, rfl⟩
  rw [← hp3] at h3 ⊢
  obtain ⟨p2, hp2⟩ : ∃ p, p = w.heap.size := ⟨_, rfl⟩
  rw [← hp2] at h2 ⊢
  have HP : Hid (w.heap.size ≤ p2 ∧ w.heap.size ≤ p3 ∧ w.heap.size ≤ p4) := ⟨by omega, by omega, by omega⟩
  have n23 : ¬ p2 = p3 := by omega
  have n32 : ¬ p3 = p2 := by omega
  have n42 : ¬ p4 = p2 := by omega
  have n43 : ¬ p4 = p3 := by omega
  have n24 : ¬ p2 = p4 := by omega
  have n34 : ¬ p3 = p4 := by omega
  have HK := hid' hK
  have H2 := hid' h2
  have H3 := hid' h3
  have H4 := hid' h4
  clear hp2 hp3 hp4 h2 h3 h4 hK
  have f0 := H3.out.c0
  have f1 := H3.out.c1
  go_wp2_with fail
  refine (D.Sign_any n aob kb cb Y _ (HA.out.2.kept HK.out) (by have := HL.out; omega)).mono ?_
  rw [show isgn Y 0 = 1 by unfold isgn; rw [if_neg (by have := HY.out; omega), if_neg (by have := HY.out; omega)]]
  rintro e w1 ⟨rfl, hk⟩
  have HK := hid' (HK.out.trans hk)
  have H2 := hid' (H2.out.kept hk)
  have H3 := hid' (H3.out.kept hk)
  have H4 := hid' (H4.out.kept hk)
  clear hk f0 f1
  have HC : Hid (Kept w w1 ∧ NRow w1 p2 (.bool m) (.slice aoa ka ca) ∧ NRow w1 p3 (.bool n) (.slice aob kb cb) ∧ FRow w1 p4 (.bool false) (.slice none 0 0) (.bool false) (.slice none 0 0) ∧ ∃ X' Y' : Int, D.NIs w1 m (.slice aoa ka ca) X' ∧ D.NIs w1 n (.slice aob kb cb) Y' ∧ ka ≤ ka ∧ kb ≤ kb ∧ 0 < Y' ∧ (X' = X ∧ Y' = Y ∨ X' = -X ∧ Y' = -Y)) := ⟨HK.out, H2.out, H3.out, H4.out, X, Y, HA.out.1.kept HK.out, HA.out.2.kept HK.out, Nat.le_refl _, Nat.le_refl _, HY.out, .inl ⟨rfl, rfl⟩⟩
  obtain ⟨hK, h2, h3, h4, X', Y', hn, hd, hk1, hk2, hpos, hXY⟩ := HC.out
  have HK := hid' hK
  have H2 := hid' h2
  have H3 := hid' h3
  have H4 := hid' h4
  have HN := hid' (And.intro hn (And.intro hd (And.intro hk1 hk2)))
  have HLow : Hid (Low X Y (Int.tdiv X' ((Nat.gcd X'.natAbs Y'.natAbs : Nat) : Int)) (Int.tdiv Y' ((Nat.gcd X'.natAbs Y'.natAbs : Nat) : Int))) := by
    have h := low_of (X := X') hpos
    rcases hXY with ⟨rfl, rfl⟩ | ⟨rfl, rfl⟩
    · exact h
    · exact h.neg
  have HG0 : Hid (((Nat.gcd X'.natAbs Y'.natAbs : Nat) : Int) ≠ 0) := by
    have := Nat.gcd_pos_of_pos_right (X'.natAbs) (show 0 < Y'.natAbs by omega)
    show _ ≠ _; omega
  clear hK h2 h3 h4 hn hd hk1 hk2 hpos hXY HC
  have f0 := H2.out.c0
  have f1 := H2.out.c1
  have f2 := H3.out.c0
  have f3 := H3.out.c1
  go_wp2_with fail
  refine (D.Common_any m n aoa aob ka kb ca cb X' Y' _ (HN.out.1.kept (Kept.refl w1)) (HN.out.2.1.kept (Kept.refl w1)) (by have h1 := HL.out; have h2 := HN.out.2.2; omega) (by have h1 := HL.out; have h2 := HN.out.2.2; omega)).mono ?_
  rintro e w3 ⟨hk, ag, kg, cg, rfl, ng, lg⟩
  clear f0 f1 f2 f3
  have H2 := hid' (H2.out.kept ((Kept.refl w1).trans hk))
  have H3 := hid' (H3.out.kept ((Kept.refl w1).trans hk))
  have H4 := hid' (H4.out.kept ((Kept.refl w1).trans hk))
  have HK := hid' (HK.out.trans ((Kept.refl w1).trans hk))
  have HN := hid' (And.intro (HN.out.1.kept ((Kept.refl w1).trans hk)) (And.intro (HN.out.2.1.kept ((Kept.refl w1).trans hk)) HN.out.2.2))
  have HG := hid' (And.intro ng lg)
  clear ng lg
  clear hk
  have f4 := fun x0 => (H2.out.kept ((Kept.refl w3).alloc x0)).c0
  have f5 := fun x0 => (H2.out.kept ((Kept.refl w3).alloc x0)).c1
  have f6 := fun x0 => (H3.out.kept ((Kept.refl w3).alloc x0)).c0
  have f7 := fun x0 => (H3.out.kept ((Kept.refl w3).alloc x0)).c1
  go_wp2_with fail
  refine (D.Divide_any m false aoa ag ka kg ca cg X' _ _ (HN.out.1.kept ((Kept.refl w3).alloc _)) (HG.out.1.kept ((Kept.refl w3).alloc _)) (by have h1 := HL.out; have h2 := HN.out.2.2; omega) (by have h1 := HL.out; have h2 := HN.out.2.2; have h3 := HG.out.2; omega) HG0.out).mono ?_
  rintro e w4 ⟨hk, sq, aq, kq, cq, tq, ar, kr, cr, rfl, nq, nr, lq, lr⟩
  clear f4 f5 f6 f7
  have H5' := (NRow.alloc w3 (.bool false) (.slice ag kg cg)).kept ((Kept.refl _).trans hk)
  have H5 := hid' H5'
  clear H5'
  have H2 := hid' (H2.out.kept (((Kept.refl w3).alloc _).trans hk))
  have H3 := hid' (H3.out.kept (((Kept.refl w3).alloc _).trans hk))
  have H4 := hid' (H4.out.kept (((Kept.refl w3).alloc _).trans hk))
  have HK := hid' (HK.out.trans (((Kept.refl w3).alloc _).trans hk))
  have HN := hid' (And.intro (HN.out.1.kept (((Kept.refl w3).alloc _).trans hk)) (And.intro (HN.out.2.1.kept (((Kept.refl w3).alloc _).trans hk)) HN.out.2.2))
  have HG := hid' (And.intro (HG.out.1.kept (((Kept.refl w3).alloc _).trans hk)) HG.out.2)
  have HQ := hid' (And.intro nq lq)
  clear nq nr lq lr
  clear hk
  have f8 := fun x0 x1 => (H3.out.kept (((Kept.refl w4).alloc x0).alloc x1)).c0
  have f9 := fun x0 x1 => (H3.out.kept (((Kept.refl w4).alloc x0).alloc x1)).c1
  have f10 := fun x0 x1 => (H5.out.kept (((Kept.refl w4).alloc x0).alloc x1)).c0
  have f11 := fun x0 x1 => (H5.out.kept (((Kept.refl w4).alloc x0).alloc x1)).c1
  go_wp2_with fail
  refine (D.Divide_any n false aob ag kb kg cb cg Y' _ _ (HN.out.2.1.kept (((Kept.refl w4).alloc _).alloc _)) (HG.out.1.kept (((Kept.refl w4).alloc _).alloc _)) (by have h1 := HL.out; have h2 := HN.out.2.2; omega) (by have h1 := HL.out; have h2 := HN.out.2.2; have h3 := HG.out.2; omega) HG0.out).mono ?_
  rintro e w5 ⟨hk, sd, a8, kd, cd, td, a9, ke, ce, rfl, nd, ne, ld, le⟩
  clear f8 f9 f10 f11
  have H6' := (NRow.alloc w4 (.bool sq) (.slice aq kq cq)).kept (((Kept.refl _).alloc _).trans hk)
  have H6 := hid' H6'
  clear H6'
  have H7' := (NRow.alloc (w4.alloc (.cells #[.bool sq, .slice aq kq cq] 66)) (.bool tq) (.slice ar kr cr)).kept ((Kept.refl _).trans hk)
  simp only [World.size_alloc] at H7'
  have H7 := hid' H7'
  clear H7'
  have H2 := hid' (H2.out.kept ((((Kept.refl w4).alloc _).alloc _).trans hk))
  have H3 := hid' (H3.out.kept ((((Kept.refl w4).alloc _).alloc _).trans hk))
  have H4 := hid' (H4.out.kept ((((Kept.refl w4).alloc _).alloc _).trans hk))
  have H5 := hid' (H5.out.kept ((((Kept.refl w4).alloc _).alloc _).trans hk))
  have HK := hid' (HK.out.trans ((((Kept.refl w4).alloc _).alloc _).trans hk))
  have HN := hid' (And.intro (HN.out.1.kept ((((Kept.refl w4).alloc _).alloc _).trans hk)) (And.intro (HN.out.2.1.kept ((((Kept.refl w4).alloc _).alloc _).trans hk)) HN.out.2.2))
  have HG := hid' (And.intro (HG.out.1.kept ((((Kept.refl w4).alloc _).alloc _).trans hk)) HG.out.2)
  have HQ := hid' (And.intro (HQ.out.1.kept ((((Kept.refl w4).alloc _).alloc _).trans hk)) HQ.out.2)
  have HD := hid' (And.intro nd ld)
  clear nd ne ld le
  clear hk
  have f0 := fun x y => (H6.out.kept (((Kept.refl w5).alloc x).alloc y)).c0
  have f1 := fun x y => (H6.out.kept (((Kept.refl w5).alloc x).alloc y)).c1
  go_upto_region 6 with fail
  have hk := ((Kept.refl w5).alloc (.cells #[.bool sd, .slice a8 kd cd] 66)).alloc (.cells #[.bool td, .slice a9 ke ce] 66)
  have h89 := NRow.alloc2 w5 (.bool sd) (.slice a8 kd cd) (.bool td) (.slice a9 ke ce)
  generalize (w5.alloc (.cells #[.bool sd, .slice a8 kd cd] 66)).alloc (.cells #[.bool td, .slice a9 ke ce] 66) = W6 at hk h89 ⊢
  obtain ⟨p8, hp8⟩ : ∃ p, p = w5.heap.size := ⟨_, rfl⟩
  rw [← hp8] at h89 ⊢
  have h8 := h89.1
  have H4 := hid' (H4.out.kept hk)
  have H6 := hid' (H6.out.kept hk)
  have HK := hid' (HK.out.trans hk)
  have HQ := hid' (And.intro (HQ.out.1.kept hk) HQ.out.2)
  have HD := hid' (And.intro (HD.out.1.kept hk) HD.out.2)
  have q0 := H6.out.c0
  have q1 := H6.out.c1
  have q2 := h8.c0
  have q3 := h8.c1
  have e0 := H4.out.c0
  have e1 := H4.out.c1
  have e2 := H4.out.c2
  have e3 := H4.out.c3
  have g0 := H4.out.fz 0
  have g1 := H4.out.fz 1
  have g2 := H4.out.fz 2
  have g3 := H4.out.fz 3
  clear hk h89 h8 hp8 f0 f1
  go_wp2
  refine bodyPost_ret (v := .agg #[.bool sq, .slice aq kq cq, .bool sd, .slice a8 kd cd]) (by simp [results, Tryz.results49, go_sem, e0, e1, e2, e3]) rfl ⟨Kept.put4 HK.out HP.out.2.2 _ _ _ _, _, _, _, rfl, ⟨sq, aq, kq, cq, sd, a8, kd, cd, rfl, nset4 HQ.out.1 H4.out, nset4 HD.out.1 H4.out, by have h1 := HQ.out.2; have h2 := HN.out.2.2; omega, by have h1 := HD.out.2; have h2 := HN.out.2.2; omega⟩, HLow.out⟩

set_option maxRecDepth 100000 in
set_option maxHeartbeats 4000000 in
theorem Lowest_neg (m n : Bool) (aoa aob : Option Addr) (ka ca kb cb : Nat) (X Y : Int) (w : World) (ha : D.NIs w m (.slice aoa ka ca) X) (hb : D.NIs w n (.slice aob kb cb) Y) (hla : ka ≤ 1000) (hlb : kb ≤ 1000) (hy : Y < 0) :
    Calls Tryz.prog 49 #[.agg #[.bool m, .slice aoa ka ca], .agg #[.bool n, .slice aob kb cb]] w fun e w' => Kept w w' ∧ ∃ v N D, e = .returned v ∧ FIs w' v N D ka kb ∧ Low X Y N D := by
  have HA : Hid (D.NIs w m (.slice aoa ka ca) X ∧ D.NIs w n (.slice aob kb cb) Y) := ⟨ha, hb⟩
  have HL : Hid (ka ≤ 1000 ∧ kb ≤ 1000) := ⟨hla, hlb⟩
  have HY := hid' hy
  clear ha hb hla hlb hy
  go_enter Tryz.func49, Tryz.ntmps49
  go_upto_region 1 with fail
  have h2 := ((NRow.alloc w (.bool m) (.slice aoa ka ca)).kept (((Kept.refl _).alloc (.cells #[.bool n, .slice aob kb cb] 66)).alloc (.cells #[.bool false, .slice none 0 0, .bool false, .slice none 0 0] 68)))
  have h3 := ((NRow.alloc (w.alloc (.cells #[.bool m, .slice aoa ka ca] 66)) (.bool n) (.slice aob kb cb)).kept ((Kept.refl _).alloc (.cells #[.bool false, .slice none 0 0, .bool false, .slice none 0 0] 68)))
  have h4 := FRow.alloc ((w.alloc (.cells #[.bool m, .slice aoa ka ca] 66)).alloc (.cells #[.bool n, .slice aob kb cb] 66)) (.bool false) (.slice none 0 0) (.bool false) (.slice none 0 0)
  have hK := ((((Kept.refl w).alloc (.cells #[.bool m, .slice aoa ka ca] 66)).alloc (.cells #[.bool n, .slice aob kb cb] 66)).alloc (.cells #[.bool false, .slice none 0 0, .bool false, .slice none 0 0] 68))
  simp only [World.size_alloc] at h3 h4
  generalize ((w.alloc (.cells #[.bool m, .slice aoa ka ca] 66)).alloc (.cells #[.bool n, .slice aob kb cb] 66)).alloc (.cells #[.bool false, .slice none 0 0, .bool false, .slice none 0 0] 68) = W at h2 h3 h4 hK ⊢
  obtain ⟨p4, hp4⟩ : ∃ p, p = w.heap.size + 1 + 1 := ⟨_, rfl⟩
  rw [← hp4] at h4 ⊢
  obtain ⟨p3, hp3⟩ : ∃ p, p = w.heap.size + 1 := ⟨_, rfl⟩
  rw [← hp3] at h3 ⊢
  obtain ⟨p2, hp2⟩ : ∃ p, p = w.heap.size := ⟨_, rfl⟩
  rw [← hp2] at h2 ⊢
  have HP : Hid (w.heap.size ≤ p2 ∧ w.heap.size ≤ p3 ∧ w.heap.size ≤ p4) := ⟨by omega, by omega, by omega⟩
  have n23 : ¬ p2 = p3 := by omega
  have n32 : ¬ p3 = p2 := by omega
  have n42 : ¬ p4 = p2 := by omega
  have n43 : ¬ p4 = p3 := by omega
  have n24 : ¬ p2 = p4 := by omega
  have n34 : ¬ p3 = p4 := by omega
  have HK := hid' hK
  have H2 := hid' h2
  have H3 := hid' h3
  have H4 := hid' h4
  clear hp2 hp3 hp4 h2 h3 h4 hK
  have f0 := H3.out.c0
  have f1 := H3.out.c1
  go_wp2_with fail
  refine (D.Sign_any n aob kb cb Y _ (HA.out.2.kept HK.out) (by have := HL.out; omega)).mono ?_
  rw [show isgn Y 0 = -1 by unfold isgn; rw [if_pos HY.out]]
  rintro e w1 ⟨rfl, hk⟩
  have HK := hid' (HK.out.trans hk)
  have H2 := hid' (H2.out.kept hk)
  have H3 := hid' (H3.out.kept hk)
  have H4 := hid' (H4.out.kept hk)
  clear hk f0 f1
  go_upto_region 2 with fail
  go_cut [2] (fun s2 wc => s2 = .pointer (some ⟨p2, 0, none⟩) ∧ ∃ (s t : Bool) (ao ap : Option Addr) (k c k' c' : Nat), Hid (Kept w wc ∧ NRow wc p2 (.bool s) (.slice ao k c) ∧ NRow wc p3 (.bool t) (.slice ap k' c') ∧ FRow wc p4 (.bool false) (.slice none 0 0) (.bool false) (.slice none 0 0) ∧ ∃ X' Y' : Int, D.NIs wc s (.slice ao k c) X' ∧ D.NIs wc t (.slice ap k' c') Y' ∧ k ≤ ka ∧ k' ≤ kb ∧ 0 < Y' ∧ (X' = X ∧ Y' = Y ∨ X' = -X ∧ Y' = -Y)))
  case first =>
    have HV : Hid (∀ V, Kept w1 V → (V.cell? ⟨p2, 0, none⟩ = some (.bool m) ∧ V.cell? ⟨p2, 1, none⟩ = some (.slice aoa ka ca)) ∧ (V.cell? ⟨p3, 0, none⟩ = some (.bool n) ∧ V.cell? ⟨p3, 1, none⟩ = some (.slice aob kb cb))) := fun V hV => ⟨⟨(H2.out.kept hV).c0, (H2.out.kept hV).c1⟩, (H3.out.kept hV).c0, (H3.out.kept hV).c1⟩
    obtain ⟨⟨q0, q1⟩, q2, q3⟩ := HV.out _ (Kept.refl w1)
    go_region_with (first
      | (go_at_call_of 86 (Value.slice aoa ka ca); refine (D.Minus_any m aoa ka ca X _ (HA.out.1.kept (HK.out.trans (Kept.refl _).drew)) (by have := HL.out; omega)).mono ?_; rintro e w3 ⟨hk3, s3, a3, c3, rfl, n3⟩; obtain ⟨⟨d0, d1⟩, d2, d3⟩ := HV.out _ ((Kept.refl _).drew.trans hk3))
      | (go_at_call_of 86 (Value.slice aob kb cb); refine (D.Minus_any n aob kb cb Y _ (HA.out.2.kept (HK.out.trans ((Kept.refl _).drew.trans hk3))) (by have := HL.out; omega)).mono ?_; rintro e w4 ⟨hk4, s4, a4, c4, rfl, n4⟩; have hk5 := ((Kept.refl w1).drew.trans hk3).trans hk4; have h2' := H2.out.kept hk5; have h3' := H3.out.kept hk5; have g0 := h2'.c0; have g1 := h2'.c1; have g2 := h2'.fz 0; have g3 := h2'.fz 1; have g4 := h3'.c0; have g5 := h3'.c1; have g6 := h3'.fz 0; have g7 := h3'.fz 1))
    all_goals
      have HN4 := hid' (And.intro (n3.kept hk4) n4)
      have HB := hid' (And.intro hk5 (And.intro (H2.out.kept hk5) (And.intro (H3.out.kept hk5) (H4.out.kept hk5))))
      clear q0 q1 q2 q3 d0 d1 d2 d3 g0 g1 g2 g3 g4 g5 g6 g7 h2' h3' hk3 hk4 hk5 n3 n4 HV
      go_wp2_with fail
      go_meet
      case rel => exact ⟨rfl, s3, s4, a3, a4, ka, c3, kb, c4, ((((HK.out.trans HB.out.1).setCell (p := ⟨p2, 0, none⟩) HP.out.1 _).setCell (p := ⟨p2, 1, none⟩) HP.out.1 _).setCell (p := ⟨p3, 0, none⟩) HP.out.2.1 _).setCell (p := ⟨p3, 1, none⟩) HP.out.2.1 _, (HB.out.2.1.set2 _ _).far n23 _ _, (HB.out.2.2.1.far n32 _ _).set2 _ _, FRow.far (FRow.far HB.out.2.2.2 n42 _ _) n43 _ _, -X, -Y, D.NIs.box2 (D.NIs.box2 HN4.out.1 HB.out.2.1.c0 HB.out.2.1.c1 _ _) (HB.out.2.2.1.far n32 _ _).c0 (HB.out.2.2.1.far n32 _ _).c1 _ _, D.NIs.box2 (D.NIs.box2 HN4.out.2 HB.out.2.1.c0 HB.out.2.1.c1 _ _) (HB.out.2.2.1.far n32 _ _).c0 (HB.out.2.2.1.far n32 _ _).c1 _ _, Nat.le_refl _, Nat.le_refl _, by have := HY.out; omega, .inr ⟨rfl, rfl⟩⟩
  case rest =>
    obtain ⟨rfl, s, t, ao, ap, k, c, k', c', HC⟩ := hcut
    obtain ⟨hK, h2, h3, h4, X', Y', hn, hd, hk1, hk2, hpos, hXY⟩ := HC.out
    have HK := hid' hK
    have H2 := hid' h2
    have H3 := hid' h3
    have H4 := hid' h4
    have HN := hid' (And.intro hn (And.intro hd (And.intro hk1 hk2)))
    have HLow : Hid (Low X Y (Int.tdiv X' ((Nat.gcd X'.natAbs Y'.natAbs : Nat) : Int)) (Int.tdiv Y' ((Nat.gcd X'.natAbs Y'.natAbs : Nat) : Int))) := by
      have h := low_of (X := X') hpos
      rcases hXY with ⟨rfl, rfl⟩ | ⟨rfl, rfl⟩
      · exact h
      · exact h.neg
    have HG0 : Hid (((Nat.gcd X'.natAbs Y'.natAbs : Nat) : Int) ≠ 0) := by
      have := Nat.gcd_pos_of_pos_right (X'.natAbs) (show 0 < Y'.natAbs by omega)
      show _ ≠ _; omega
    clear hK h2 h3 h4 hn hd hk1 hk2 hpos hXY HC
    have f0 := H2.out.c0
    have f1 := H2.out.c1
    have f2 := H3.out.c0
    have f3 := H3.out.c1
    go_wp2_with fail
    refine (D.Common_any s t ao ap k k' c c' X' Y' _ (HN.out.1.kept (Kept.refl wc)) (HN.out.2.1.kept (Kept.refl wc)) (by have h1 := HL.out; have h2 := HN.out.2.2; omega) (by have h1 := HL.out; have h2 := HN.out.2.2; omega)).mono ?_
    rintro e w3 ⟨hk, ag, kg, cg, rfl, ng, lg⟩
    clear f0 f1 f2 f3
    have H2 := hid' (H2.out.kept ((Kept.refl wc).trans hk))
    have H3 := hid' (H3.out.kept ((Kept.refl wc).trans hk))
    have H4 := hid' (H4.out.kept ((Kept.refl wc).trans hk))
    have HK := hid' (HK.out.trans ((Kept.refl wc).trans hk))
    have HN := hid' (And.intro (HN.out.1.kept ((Kept.refl wc).trans hk)) (And.intro (HN.out.2.1.kept ((Kept.refl wc).trans hk)) HN.out.2.2))
    have HG := hid' (And.intro ng lg)
    clear ng lg
    clear hk
    have f4 := fun x0 => (H2.out.kept ((Kept.refl w3).alloc x0)).c0
    have f5 := fun x0 => (H2.out.kept ((Kept.refl w3).alloc x0)).c1
    have f6 := fun x0 => (H3.out.kept ((Kept.refl w3).alloc x0)).c0
    have f7 := fun x0 => (H3.out.kept ((Kept.refl w3).alloc x0)).c1
    go_wp2_with fail
    refine (D.Divide_any s false ao ag k kg c cg X' _ _ (HN.out.1.kept ((Kept.refl w3).alloc _)) (HG.out.1.kept ((Kept.refl w3).alloc _)) (by have h1 := HL.out; have h2 := HN.out.2.2; omega) (by have h1 := HL.out; have h2 := HN.out.2.2; have h3 := HG.out.2; omega) HG0.out).mono ?_
    rintro e w4 ⟨hk, sq, aq, kq, cq, tq, ar, kr, cr, rfl, nq, nr, lq, lr⟩
    clear f4 f5 f6 f7
    have H5' := (NRow.alloc w3 (.bool false) (.slice ag kg cg)).kept ((Kept.refl _).trans hk)
    have H5 := hid' H5'
    clear H5'
    have H2 := hid' (H2.out.kept (((Kept.refl w3).alloc _).trans hk))
    have H3 := hid' (H3.out.kept (((Kept.refl w3).alloc _).trans hk))
    have H4 := hid' (H4.out.kept (((Kept.refl w3).alloc _).trans hk))
    have HK := hid' (HK.out.trans (((Kept.refl w3).alloc _).trans hk))
    have HN := hid' (And.intro (HN.out.1.kept (((Kept.refl w3).alloc _).trans hk)) (And.intro (HN.out.2.1.kept (((Kept.refl w3).alloc _).trans hk)) HN.out.2.2))
    have HG := hid' (And.intro (HG.out.1.kept (((Kept.refl w3).alloc _).trans hk)) HG.out.2)
    have HQ := hid' (And.intro nq lq)
    clear nq nr lq lr
    clear hk
    have f8 := fun x0 x1 => (H3.out.kept (((Kept.refl w4).alloc x0).alloc x1)).c0
    have f9 := fun x0 x1 => (H3.out.kept (((Kept.refl w4).alloc x0).alloc x1)).c1
    have f10 := fun x0 x1 => (H5.out.kept (((Kept.refl w4).alloc x0).alloc x1)).c0
    have f11 := fun x0 x1 => (H5.out.kept (((Kept.refl w4).alloc x0).alloc x1)).c1
    go_wp2_with fail
    refine (D.Divide_any t false ap ag k' kg c' cg Y' _ _ (HN.out.2.1.kept (((Kept.refl w4).alloc _).alloc _)) (HG.out.1.kept (((Kept.refl w4).alloc _).alloc _)) (by have h1 := HL.out; have h2 := HN.out.2.2; omega) (by have h1 := HL.out; have h2 := HN.out.2.2; have h3 := HG.out.2; omega) HG0.out).mono ?_
    rintro e w5 ⟨hk, sd, a8, kd, cd, td, a9, ke, ce, rfl, nd, ne, ld, le⟩
    clear f8 f9 f10 f11
    have H6' := (NRow.alloc w4 (.bool sq) (.slice aq kq cq)).kept (((Kept.refl _).alloc _).trans hk)
    have H6 := hid' H6'
    clear H6'
    have H7' := (NRow.alloc (w4.alloc (.cells #[.bool sq, .slice aq kq cq] 66)) (.bool tq) (.slice ar kr cr)).kept ((Kept.refl _).trans hk)
    simp only [World.size_alloc] at H7'
    have H7 := hid' H7'
    clear H7'
    have H2 := hid' (H2.out.kept ((((Kept.refl w4).alloc _).alloc _).trans hk))
    have H3 := hid' (H3.out.kept ((((Kept.refl w4).alloc _).alloc _).trans hk))
    have H4 := hid' (H4.out.kept ((((Kept.refl w4).alloc _).alloc _).trans hk))
    have H5 := hid' (H5.out.kept ((((Kept.refl w4).alloc _).alloc _).trans hk))
    have HK := hid' (HK.out.trans ((((Kept.refl w4).alloc _).alloc _).trans hk))
    have HN := hid' (And.intro (HN.out.1.kept ((((Kept.refl w4).alloc _).alloc _).trans hk)) (And.intro (HN.out.2.1.kept ((((Kept.refl w4).alloc _).alloc _).trans hk)) HN.out.2.2))
    have HG := hid' (And.intro (HG.out.1.kept ((((Kept.refl w4).alloc _).alloc _).trans hk)) HG.out.2)
    have HQ := hid' (And.intro (HQ.out.1.kept ((((Kept.refl w4).alloc _).alloc _).trans hk)) HQ.out.2)
    have HD := hid' (And.intro nd ld)
    clear nd ne ld le
    clear hk
    have f0 := fun x y => (H6.out.kept (((Kept.refl w5).alloc x).alloc y)).c0
    have f1 := fun x y => (H6.out.kept (((Kept.refl w5).alloc x).alloc y)).c1
    go_upto_region 6 with fail
    have hk := ((Kept.refl w5).alloc (.cells #[.bool sd, .slice a8 kd cd] 66)).alloc (.cells #[.bool td, .slice a9 ke ce] 66)
    have h89 := NRow.alloc2 w5 (.bool sd) (.slice a8 kd cd) (.bool td) (.slice a9 ke ce)
    generalize (w5.alloc (.cells #[.bool sd, .slice a8 kd cd] 66)).alloc (.cells #[.bool td, .slice a9 ke ce] 66) = W6 at hk h89 ⊢
    obtain ⟨p8, hp8⟩ : ∃ p, p = w5.heap.size := ⟨_, rfl⟩
    rw [← hp8] at h89 ⊢
    have h8 := h89.1
    have H4 := hid' (H4.out.kept hk)
    have H6 := hid' (H6.out.kept hk)
    have HK := hid' (HK.out.trans hk)
    have HQ := hid' (And.intro (HQ.out.1.kept hk) HQ.out.2)
    have HD := hid' (And.intro (HD.out.1.kept hk) HD.out.2)
    have q0 := H6.out.c0
    have q1 := H6.out.c1
    have q2 := h8.c0
    have q3 := h8.c1
    have e0 := H4.out.c0
    have e1 := H4.out.c1
    have e2 := H4.out.c2
    have e3 := H4.out.c3
    have g0 := H4.out.fz 0
    have g1 := H4.out.fz 1
    have g2 := H4.out.fz 2
    have g3 := H4.out.fz 3
    clear hk h89 h8 hp8 f0 f1
    go_wp2
    refine bodyPost_ret (v := .agg #[.bool sq, .slice aq kq cq, .bool sd, .slice a8 kd cd]) (by simp [results, Tryz.results49, go_sem, e0, e1, e2, e3]) rfl ⟨Kept.put4 HK.out HP.out.2.2 _ _ _ _, _, _, _, rfl, ⟨sq, aq, kq, cq, sd, a8, kd, cd, rfl, nset4 HQ.out.1 H4.out, nset4 HD.out.1 H4.out, by have h1 := HQ.out.2; have h2 := HN.out.2.2; omega, by have h1 := HD.out.2; have h2 := HN.out.2.2; omega⟩, HLow.out⟩

theorem Lowest_any (m n : Bool) (aoa aob : Option Addr) (ka ca kb cb : Nat) (X Y : Int) (w : World) (ha : D.NIs w m (.slice aoa ka ca) X) (hb : D.NIs w n (.slice aob kb cb) Y) (hla : ka ≤ 1000) (hlb : kb ≤ 1000) (hy : Y ≠ 0) :
    Calls Tryz.prog 49 #[.agg #[.bool m, .slice aoa ka ca], .agg #[.bool n, .slice aob kb cb]] w fun e w' => Kept w w' ∧ ∃ v N D, e = .returned v ∧ FIs w' v N D ka kb ∧ Low X Y N D := by
  rcases Int.lt_or_gt_of_ne hy with h | h
  · exact Lowest_neg m n aoa aob ka ca kb cb X Y w ha hb hla hlb h
  · exact Lowest_pos m n aoa aob ka ca kb cb X Y w ha hb hla hlb h

end F
end Go.Proofs.YtcigcfcciggclaaGreat

namespace Go.Proofs.YtcigcfcciggclaaGreat
open Go.RowKit
namespace F

/-- What package shuntref02 answers for N over D: the fraction in new memory, or that it is too wide. -/
def ToldIs (B : Nat) (w : World) (e : Ending) (N D : Int) : Prop :=
  (∃ s ao k c l t ap k' c' l', e = .returned (.tuple #[.agg #[.bool s, .slice ao k c, .bool t, .slice ap k' c'], .int .i64 0]) ∧ New B w (.slice ao k c) l ∧ M.Right s l ∧ M.int s l = N ∧ New B w (.slice ap k' c') l' ∧ M.Right t l' ∧ M.int t l' = D) ∨ (e = .returned (.tuple #[.agg #[.bool false, .slice none 0 0, .bool false, .slice none 0 0], .int .i64 13]) ∧ (M.W72 ≤ N.natAbs ∨ M.W72 ≤ D.natAbs))

theorem New.rset4 {B p : Nat} {w : World} {v : Value} {l : List Nat} {y0 y1 y2 y3 : Value} (h : New B w v l) (hz : RRow w p y0 y1 y2 y3) (x0 x1 x2 x3 : Value) : New B (put4 w p x0 x1 x2 x3) v l := by
  obtain ⟨hb, ⟨rfl, rfl⟩ | ⟨b, N, f, rfl, hB, hN, hr, hf⟩⟩ := h
  · exact ⟨hb, .inl ⟨rfl, rfl⟩⟩
  · have hne : b ≠ p := by
      intro e
      subst e
      obtain ⟨c, h1, _, _⟩ := hr
      obtain ⟨c', h2, _, _⟩ := hz
      rw [h1] at h2
      simp at h2
    exact ⟨hb, .inr ⟨b, N, f, rfl, hB, hN, World.rowIs.setOther (World.rowIs.setOther (World.rowIs.setOther (World.rowIs.setOther hr hne x0) hne x1) hne x2) hne x3, hf⟩⟩

set_option maxRecDepth 100000 in
set_option maxHeartbeats 4000000 in
theorem FTimes_any (s t s' t' : Bool) (a1 a2 b1 b2 : Option Addr) (k1 c1 k2 c2 k3 c3 k4 c4 : Nat) (X Y X' Y' : Int) (w : World) (h1 : D.NIs w s (.slice a1 k1 c1) X) (h2 : D.NIs w t (.slice a2 k2 c2) Y) (h3 : D.NIs w s' (.slice b1 k3 c3) X') (h4 : D.NIs w t' (.slice b2 k4 c4) Y') (hk1 : k1 + k3 ≤ 1000) (hk2 : k2 + k4 ≤ 1000) (hy : Y ≠ 0) (hy' : Y' ≠ 0) :
    Calls Tryz.prog 41 #[.agg #[.bool s, .slice a1 k1 c1, .bool t, .slice a2 k2 c2], .agg #[.bool s', .slice b1 k3 c3, .bool t', .slice b2 k4 c4]] w fun e w' => Kept w w' ∧ ∃ v N D, e = .returned v ∧ FIs w' v N D (k1 + k3) (k2 + k4) ∧ Low (X * X') (Y * Y') N D := by
  have HA : Hid (D.NIs w s (.slice a1 k1 c1) X ∧ D.NIs w t (.slice a2 k2 c2) Y ∧ D.NIs w s' (.slice b1 k3 c3) X' ∧ D.NIs w t' (.slice b2 k4 c4) Y') := ⟨h1, h2, h3, h4⟩
  have HL : Hid (k1 + k3 ≤ 1000 ∧ k2 + k4 ≤ 1000 ∧ Y * Y' ≠ 0) := ⟨hk1, hk2, Int.mul_ne_zero hy hy'⟩
  clear h1 h2 h3 h4 hk1 hk2 hy hy'
  go_enter Tryz.func41, Tryz.ntmps41
  go_upto_region 1 with fail
  have r2 := ((FRow.alloc w (.bool s) (.slice a1 k1 c1) (.bool t) (.slice a2 k2 c2)).kept (((Kept.refl _).alloc (.cells #[.bool s', .slice b1 k3 c3, .bool t', .slice b2 k4 c4] 68)).alloc (.cells #[.bool false, .slice none 0 0, .bool false, .slice none 0 0] 68)))
  have r3 := ((FRow.alloc (w.alloc (.cells #[.bool s, .slice a1 k1 c1, .bool t, .slice a2 k2 c2] 68)) (.bool s') (.slice b1 k3 c3) (.bool t') (.slice b2 k4 c4)).kept ((Kept.refl _).alloc (.cells #[.bool false, .slice none 0 0, .bool false, .slice none 0 0] 68)))
  have r4 := FRow.alloc ((w.alloc (.cells #[.bool s, .slice a1 k1 c1, .bool t, .slice a2 k2 c2] 68)).alloc (.cells #[.bool s', .slice b1 k3 c3, .bool t', .slice b2 k4 c4] 68)) (.bool false) (.slice none 0 0) (.bool false) (.slice none 0 0)
  have hK := ((((Kept.refl w).alloc (.cells #[.bool s, .slice a1 k1 c1, .bool t, .slice a2 k2 c2] 68)).alloc (.cells #[.bool s', .slice b1 k3 c3, .bool t', .slice b2 k4 c4] 68)).alloc (.cells #[.bool false, .slice none 0 0, .bool false, .slice none 0 0] 68))
  simp only [World.size_alloc] at r3 r4
  generalize ((w.alloc (.cells #[.bool s, .slice a1 k1 c1, .bool t, .slice a2 k2 c2] 68)).alloc (.cells #[.bool s', .slice b1 k3 c3, .bool t', .slice b2 k4 c4] 68)).alloc (.cells #[.bool false, .slice none 0 0, .bool false, .slice none 0 0] 68) = W at r2 r3 r4 hK ⊢
  obtain ⟨p4, hp4⟩ : ∃ p, p = w.heap.size + 1 + 1 := ⟨_, rfl⟩
  rw [← hp4] at r4 ⊢
  obtain ⟨p3, hp3⟩ : ∃ p, p = w.heap.size + 1 := ⟨_, rfl⟩
  rw [← hp3] at r3 ⊢
  obtain ⟨p2, hp2⟩ : ∃ p, p = w.heap.size := ⟨_, rfl⟩
  rw [← hp2] at r2 ⊢
  have HP : Hid (w.heap.size ≤ p4) := by show _ ≤ _; omega
  have n42 : ¬ p4 = p2 := by omega
  have n43 : ¬ p4 = p3 := by omega
  have HV : Hid (∀ V, Kept W V → FRow V p2 (.bool s) (.slice a1 k1 c1) (.bool t) (.slice a2 k2 c2) ∧ FRow V p3 (.bool s') (.slice b1 k3 c3) (.bool t') (.slice b2 k4 c4) ∧ FRow V p4 (.bool false) (.slice none 0 0) (.bool false) (.slice none 0 0) ∧ Kept w V) := fun V hV => ⟨r2.kept hV, r3.kept hV, r4.kept hV, hK.trans hV⟩
  have q0 := r2.c0
  have q1 := r2.c1
  have q2 := r2.c2
  have q3 := r2.c3
  have q4 := r3.c0
  have q5 := r3.c1
  have q6 := r3.c2
  have q7 := r3.c3
  clear hp2 hp3 hp4 r2 r3 r4 hK
  go_region_held3 (fun w' => w'.cell? ⟨p2, 0, none⟩ = some (.bool s) ∧ w'.cell? ⟨p2, 1, none⟩ = some (.slice a1 k1 c1) ∧ w'.cell? ⟨p2, 2, none⟩ = some (.bool t) ∧ w'.cell? ⟨p2, 3, none⟩ = some (.slice a2 k2 c2) ∧ w'.cell? ⟨p3, 0, none⟩ = some (.bool s') ∧ w'.cell? ⟨p3, 1, none⟩ = some (.slice b1 k3 c3) ∧ w'.cell? ⟨p3, 2, none⟩ = some (.bool t') ∧ w'.cell? ⟨p3, 3, none⟩ = some (.slice b2 k4 c4)) (go_keep) (first
    | (go_at_call_of 80 (Value.slice a1 k1 c1); refine (D.Times_any s s' a1 b1 k1 k3 c1 c3 X X' _ (HA.out.1.kept (HV.out _ (Kept.refl _).drew).2.2.2) (HA.out.2.2.1.kept (HV.out _ (Kept.refl _).drew).2.2.2) (by have := HL.out; omega) (by have := HL.out; omega)).mono ?_; rintro e w3 ⟨hk3, s3, a3, k3', c3', rfl, n3, l3⟩; have K3 := (Kept.refl W).drew.trans hk3; have H3 := hid' (And.intro n3 l3); clear n3 l3; obtain ⟨⟨d0, d1, d2, d3⟩, d4, d5, d6, d7⟩ := frow_two (HV.out _ K3).1 (HV.out _ K3).2.1)
    | (go_at_call_of 80 (Value.slice a2 k2 c2); refine (D.Times_any t t' a2 b2 k2 k4 c2 c4 Y Y' _ (HA.out.2.1.kept (HV.out _ K3).2.2.2) (HA.out.2.2.2.kept (HV.out _ K3).2.2.2) (by have := HL.out; omega) (by have := HL.out; omega)).mono ?_; rintro e w4 ⟨hk4, s4, a4, k4', c4', rfl, n4, l4⟩; have K4 := K3.trans hk4; have H4 := hid' (And.intro n4 (And.intro l4 (H3.out.1.kept hk4))); clear n4 l4; obtain ⟨⟨b0', b1', b2', b3'⟩, b4', b5', b6', b7'⟩ := frow_two (HV.out _ K4).1 (HV.out _ K4).2.1)
    | (go_at_call 49; refine (Lowest_any s3 s4 a3 a4 k3' c3' k4' c4' (X * X') (Y * Y') _ H4.out.2.2 H4.out.1 (by have h1 := H3.out.2; have h2 := HL.out; omega) (by have h1 := H4.out.2.1; have h2 := HL.out; omega) HL.out.2.2).mono ?_; rintro e w5 ⟨hk5, v5, N5, D5, rfl, hF5, hL5⟩; have K5 := K4.trans hk5; obtain ⟨s5, a5, k5, c5, t5, a6, k6, c6, rfl, n5, n6, l5, l6⟩ := hF5; have H5 := hid' (And.intro n5 (And.intro n6 (And.intro l5 (And.intro l6 hL5)))); clear n5 n6 l5 l6 hL5; obtain ⟨⟨g0, g1, g2, g3⟩, g4, g5, g6, g7⟩ := frow_two (HV.out _ K5).1 (HV.out _ K5).2.1; have z4 := (HV.out _ K5).2.2.1; have e0 := z4.c0; have e1 := z4.c1; have e2 := z4.c2; have e3 := z4.c3; have y0 := z4.fz 0; have y1 := z4.fz 1; have y2 := z4.fz 2; have y3 := z4.fz 3))
  have HZ := hid' (And.intro z4 (HV.out _ K5).2.2.2)
  have HLL : Hid (k5 ≤ k1 + k3 ∧ k6 ≤ k2 + k4) := by have h1 := H3.out.2; have h2 := H4.out.2.1; have h3 := H5.out; show _ ∧ _; omega
  clear q0 q1 q2 q3 q4 q5 q6 q7 d0 d1 d2 d3 d4 d5 d6 d7 b0' b1' b2' b3' b4' b5' b6' b7' g0 g1 g2 g3 g4 g5 g6 g7 hk3 hk4 hk5 K3 K4 K5 HV z4
  go_wp2
  refine bodyPost_ret (v := .agg #[.bool s5, .slice a5 k5 c5, .bool t5, .slice a6 k6 c6]) (by simp [results, Tryz.results41, go_sem, e0, e1, e2, e3]) rfl ⟨Kept.put4 HZ.out.2 HP.out _ _ _ _, _, N5, D5, rfl, ⟨s5, a5, k5, c5, t5, a6, k6, c6, rfl, nset4 H5.out.1 HZ.out.1, nset4 H5.out.2.1 HZ.out.1, HLL.out.1, HLL.out.2⟩, H5.out.2.2.2.2⟩

end F
end Go.Proofs.YtcigcfcciggclaaGreat

namespace Go.Proofs.YtcigcfcciggclaaGreat
open Go.RowKit
namespace F

theorem rrow_all {w : World} {p : Nat} {x0 x1 x2 x3 : Value} (h : RRow w p x0 x1 x2 x3) : w.cell? ⟨p, 0, none⟩ = some x0 ∧ w.cell? ⟨p, 1, none⟩ = some x1 ∧ w.cell? ⟨p, 2, none⟩ = some x2 ∧ w.cell? ⟨p, 3, none⟩ = some x3 := ⟨h.c0, h.c1, h.c2, h.c3⟩
theorem frow_all {w : World} {p : Nat} {x0 x1 x2 x3 : Value} (h : FRow w p x0 x1 x2 x3) : w.cell? ⟨p, 0, none⟩ = some x0 ∧ w.cell? ⟨p, 1, none⟩ = some x1 ∧ w.cell? ⟨p, 2, none⟩ = some x2 ∧ w.cell? ⟨p, 3, none⟩ = some x3 := ⟨h.c0, h.c1, h.c2, h.c3⟩

set_option maxRecDepth 100000 in
set_option maxHeartbeats 4000000 in
theorem FTake_any (m n : Bool) (a1 a2 : Option Addr) (k1 c1 k2 c2 : Nat) (a d : List Nat) (w : World) (h1 : Sl w (.slice a1 k1 c1) a) (h2 : Sl w (.slice a2 k2 c2) d) (hl1 : a.length ≤ 80) (hl2 : d.length ≤ 80) :
    Calls Tryz.prog 37 #[.agg #[.bool m, .slice a1 k1 c1, .bool n, .slice a2 k2 c2]] w fun e w' => Kept w w' ∧ ∃ v, e = .returned v ∧ FIs w' v (M.int m a) (M.int n d) (2 * a.length) (2 * d.length) := by
  have HA : Hid (Sl w (.slice a1 k1 c1) a ∧ Sl w (.slice a2 k2 c2) d ∧ a.length ≤ 80 ∧ d.length ≤ 80) := ⟨h1, h2, hl1, hl2⟩
  clear h1 h2 hl1 hl2
  go_enter Tryz.func37, Tryz.ntmps37
  go_upto_region 1 with fail
  have r1 := ((RRow.alloc w (.bool m) (.slice a1 k1 c1) (.bool n) (.slice a2 k2 c2)).kept ((Kept.refl _).alloc (.cells #[.bool false, .slice none 0 0, .bool false, .slice none 0 0] 68)))
  have r2 := FRow.alloc (w.alloc (.cells #[.bool m, .slice a1 k1 c1, .bool n, .slice a2 k2 c2] 26)) (.bool false) (.slice none 0 0) (.bool false) (.slice none 0 0)
  have hK := ((Kept.refl w).alloc (.cells #[.bool m, .slice a1 k1 c1, .bool n, .slice a2 k2 c2] 26)).alloc (.cells #[.bool false, .slice none 0 0, .bool false, .slice none 0 0] 68)
  simp only [World.size_alloc] at r2
  generalize (w.alloc (.cells #[.bool m, .slice a1 k1 c1, .bool n, .slice a2 k2 c2] 26)).alloc (.cells #[.bool false, .slice none 0 0, .bool false, .slice none 0 0] 68) = W at r1 r2 hK ⊢
  obtain ⟨p2, hp2⟩ : ∃ p, p = w.heap.size + 1 := ⟨_, rfl⟩
  rw [← hp2] at r2 ⊢
  obtain ⟨p1, hp1⟩ : ∃ p, p = w.heap.size := ⟨_, rfl⟩
  rw [← hp1] at r1 ⊢
  have HP : Hid (w.heap.size ≤ p2) := by show _ ≤ _; omega
  have n21 : ¬ p2 = p1 := by omega
  have HV : Hid (∀ V, Kept W V → RRow V p1 (.bool m) (.slice a1 k1 c1) (.bool n) (.slice a2 k2 c2) ∧ FRow V p2 (.bool false) (.slice none 0 0) (.bool false) (.slice none 0 0) ∧ Kept w V) := fun V hV => ⟨r1.kept hV, r2.kept hV, hK.trans hV⟩
  obtain ⟨q0, q1, q2, q3⟩ := rrow_all r1
  clear hp1 hp2 r1 r2 hK
  go_region_held3 (fun w' => w'.cell? ⟨p1, 0, none⟩ = some (.bool m) ∧ w'.cell? ⟨p1, 1, none⟩ = some (.slice a1 k1 c1) ∧ w'.cell? ⟨p1, 2, none⟩ = some (.bool n) ∧ w'.cell? ⟨p1, 3, none⟩ = some (.slice a2 k2 c2)) (go_keep) (first
    | (go_at_call_of 50 (Value.slice a1 k1 c1); refine (D.Take_any m a1 k1 c1 a _ (HA.out.1.kept (HV.out _ (Kept.refl _).drew).2.2) HA.out.2.2.1).mono ?_; rintro e w3 ⟨hk3, s3, a3, k3, c3, rfl, n3, l3⟩; have K3 := (Kept.refl W).drew.trans hk3; have H3 := hid' (And.intro n3 l3); clear n3 l3; obtain ⟨d0, d1, d2, d3⟩ := rrow_all (HV.out _ K3).1)
    | (go_at_call_of 50 (Value.slice a2 k2 c2); refine (D.Take_any n a2 k2 c2 d _ (HA.out.2.1.kept (HV.out _ K3).2.2) HA.out.2.2.2).mono ?_; rintro e w4 ⟨hk4, s4, a4, k4, c4, rfl, n4, l4⟩; have K4 := K3.trans hk4; have H4 := hid' (And.intro n4 (And.intro l4 (H3.out.1.kept hk4))); clear n4 l4; obtain ⟨g0, g1, g2, g3⟩ := rrow_all (HV.out _ K4).1; have z4 := (HV.out _ K4).2.1; have e0 := z4.c0; have e1 := z4.c1; have e2 := z4.c2; have e3 := z4.c3; have y0 := z4.fz 0; have y1 := z4.fz 1; have y2 := z4.fz 2; have y3 := z4.fz 3))
  have HZ := hid' (And.intro z4 (HV.out _ K4).2.2)
  clear q0 q1 q2 q3 d0 d1 d2 d3 g0 g1 g2 g3 hk3 hk4 K3 K4 HV z4
  go_wp2
  refine bodyPost_ret (v := .agg #[.bool s3, .slice a3 k3 c3, .bool s4, .slice a4 k4 c4]) (by simp [results, Tryz.results37, go_sem, e0, e1, e2, e3]) rfl ⟨Kept.put4 HZ.out.2 HP.out _ _ _ _, _, rfl, ⟨s3, a3, k3, c3, s4, a4, k4, c4, rfl, nset4 H4.out.2.2 HZ.out.1, nset4 H4.out.1 HZ.out.1, H3.out.2, H4.out.2.1⟩⟩

/-- What told answers, by its parts. -/
def ToldX (B : Nat) (w : World) (s : Bool) (ao : Option Addr) (k c : Nat) (t : Bool) (ap : Option Addr) (k' c' : Nat) (ec N Q : Int) : Prop :=
  (ec = 0 ∧ ∃ l l', New B w (.slice ao k c) l ∧ M.Right s l ∧ M.int s l = N ∧ New B w (.slice ap k' c') l' ∧ M.Right t l' ∧ M.int t l' = Q) ∨ (ec = 13 ∧ s = false ∧ t = false ∧ (ao, k, c) = (none, 0, 0) ∧ (ap, k', c') = (none, 0, 0) ∧ (M.W72 ≤ N.natAbs ∨ M.W72 ≤ Q.natAbs))

theorem ToldIs.split {B : Nat} {w : World} {e : Ending} {N Q : Int} (h : ToldIs B w e N Q) : ∃ s ao k c t ap k' c' ec, e = .returned (.tuple #[.agg #[.bool s, .slice ao k c, .bool t, .slice ap k' c'], .int .i64 ec]) ∧ ToldX B w s ao k c t ap k' c' ec N Q := by
  rcases h with ⟨s, ao, k, c, l, t, ap, k', c', l', rfl, h1, h2, h3, h4, h5, h6⟩ | ⟨rfl, h⟩
  · exact ⟨s, ao, k, c, t, ap, k', c', 0, rfl, .inl ⟨rfl, l, l', h1, h2, h3, h4, h5, h6⟩⟩
  · exact ⟨false, none, 0, 0, false, none, 0, 0, 13, rfl, .inr ⟨rfl, rfl, rfl, rfl, rfl, h⟩⟩

theorem ToldX.mono {B B' : Nat} {w : World} {s t : Bool} {ao ap : Option Addr} {k c k' c' : Nat} {ec N Q : Int} (h : ToldX B w s ao k c t ap k' c' ec N Q) (hB : B' ≤ B) : ToldX B' w s ao k c t ap k' c' ec N Q := by
  rcases h with ⟨e, l, l', h1, h2, h3, h4, h5⟩ | h
  · exact .inl ⟨e, l, l', h1.mono hB, h2, h3, h4.mono hB, h5⟩
  · exact .inr h

theorem ToldX.put4 {B p : Nat} {w : World} {s t : Bool} {ao ap : Option Addr} {k c k' c' : Nat} {ec N Q : Int} {y0 y1 y2 y3 : Value} (h : ToldX B w s ao k c t ap k' c' ec N Q) (hz : RRow w p y0 y1 y2 y3) (x0 x1 x2 x3 : Value) : ToldIs B (F.put4 w p x0 x1 x2 x3) (.returned (.tuple #[.agg #[.bool s, .slice ao k c, .bool t, .slice ap k' c'], .int .i64 ec])) N Q := by
  rcases h with ⟨rfl, l, l', h1, h2, h3, h4, h5, h6⟩ | ⟨rfl, rfl, rfl, h1, h2, h3⟩
  · exact .inl ⟨s, ao, k, c, l, t, ap, k', c', l', rfl, New.rset4 h1 hz _ _ _ _, h2, h3, New.rset4 h4 hz _ _ _ _, h5, h6⟩
  · simp only [Prod.mk.injEq] at h1 h2
    obtain ⟨rfl, rfl, rfl⟩ := h1
    obtain ⟨rfl, rfl, rfl⟩ := h2
    exact .inr ⟨rfl, h3⟩

/-- What Give gives. -/
def GivenIs (B : Nat) (w : World) (e : Ending) (N D : Int) (k k' : Nat) : Prop :=
  ∃ s ao n c l t ap n' c' l', e = .returned (.agg #[.bool s, .slice ao n c, .bool t, .slice ap n' c']) ∧ New B w (.slice ao n c) l ∧ M.Tr l ∧ M.int s l = N ∧ l.length = (k + 1) / 2 ∧ (l = [] → s = false) ∧ New B w (.slice ap n' c') l' ∧ M.Tr l' ∧ M.int t l' = D ∧ l'.length = (k' + 1) / 2 ∧ (l' = [] → t = false)

theorem give_int {s : Bool} {l d : List Nat} (h : M.val l = D.val d) : M.int s l = D.int s d := by unfold M.int D.int; rw [h]

theorem give_zero {s : Bool} {l d : List Nat} (h : D.Right s d) (hl : l.length = (d.length + 1) / 2) (e : l = []) : s = false := by
  apply h.zero
  rw [e] at hl
  simp at hl
  exact List.length_eq_zero_iff.1 (by omega)

set_option maxRecDepth 100000 in
set_option maxHeartbeats 4000000 in
theorem FGive_any (s t : Bool) (a1 a2 : Option Addr) (k1 c1 k2 c2 : Nat) (N Q : Int) (w : World) (h1 : D.NIs w s (.slice a1 k1 c1) N) (h2 : D.NIs w t (.slice a2 k2 c2) Q) (hl1 : k1 ≤ 10000) (hl2 : k2 ≤ 10000) :
    Calls Tryz.prog 78 #[.agg #[.bool s, .slice a1 k1 c1, .bool t, .slice a2 k2 c2]] w fun e w' => Kept w w' ∧ GivenIs w.heap.size w' e N Q k1 k2 := by
  obtain ⟨d1, s1, r1, i1, rfl⟩ := h1.len
  obtain ⟨d2, s2, r2, i2, rfl⟩ := h2.len
  have HA : Hid ((D.Sl w (.slice a1 d1.length c1) d1 ∧ D.Right s d1 ∧ D.int s d1 = N) ∧ (D.Sl w (.slice a2 d2.length c2) d2 ∧ D.Right t d2 ∧ D.int t d2 = Q) ∧ d1.length ≤ 10000 ∧ d2.length ≤ 10000) := ⟨⟨s1, r1, i1⟩, ⟨s2, r2, i2⟩, hl1, hl2⟩
  clear h1 h2 s1 r1 i1 s2 r2 i2 hl1 hl2
  go_enter Tryz.func78, Tryz.ntmps78
  go_upto_region 1 with fail
  have r1 := ((FRow.alloc w (.bool s) (.slice a1 d1.length c1) (.bool t) (.slice a2 d2.length c2)).kept ((Kept.refl _).alloc (.cells #[.bool false, .slice none 0 0, .bool false, .slice none 0 0] 26)))
  have r2 := RRow.alloc (w.alloc (.cells #[.bool s, .slice a1 d1.length c1, .bool t, .slice a2 d2.length c2] 68)) (.bool false) (.slice none 0 0) (.bool false) (.slice none 0 0)
  have hK := ((Kept.refl w).alloc (.cells #[.bool s, .slice a1 d1.length c1, .bool t, .slice a2 d2.length c2] 68)).alloc (.cells #[.bool false, .slice none 0 0, .bool false, .slice none 0 0] 26)
  simp only [World.size_alloc] at r2
  generalize (w.alloc (.cells #[.bool s, .slice a1 d1.length c1, .bool t, .slice a2 d2.length c2] 68)).alloc (.cells #[.bool false, .slice none 0 0, .bool false, .slice none 0 0] 26) = W at r1 r2 hK ⊢
  obtain ⟨p2, hp2⟩ : ∃ p, p = w.heap.size + 1 := ⟨_, rfl⟩
  rw [← hp2] at r2 ⊢
  obtain ⟨p1, hp1⟩ : ∃ p, p = w.heap.size := ⟨_, rfl⟩
  rw [← hp1] at r1 ⊢
  have HP : Hid (w.heap.size ≤ p2 ∧ w.heap.size ≤ W.heap.size) := ⟨by omega, hK.size⟩
  have n21 : ¬ p2 = p1 := by omega
  have HV : Hid (∀ V, Kept W V → FRow V p1 (.bool s) (.slice a1 d1.length c1) (.bool t) (.slice a2 d2.length c2) ∧ RRow V p2 (.bool false) (.slice none 0 0) (.bool false) (.slice none 0 0) ∧ Kept w V) := fun V hV => ⟨r1.kept hV, r2.kept hV, hK.trans hV⟩
  obtain ⟨q0, q1, q2, q3⟩ := frow_all r1
  clear hp1 hp2 r1 r2 hK
  go_region_held3 (fun w' => w'.cell? ⟨p1, 0, none⟩ = some (.bool s) ∧ w'.cell? ⟨p1, 1, none⟩ = some (.slice a1 d1.length c1) ∧ w'.cell? ⟨p1, 2, none⟩ = some (.bool t) ∧ w'.cell? ⟨p1, 3, none⟩ = some (.slice a2 d2.length c2)) (go_keep) (first
    | (go_at_call_of 62 (Value.slice a1 d1.length c1); refine (D.Give_any s a1 c1 d1 _ (HA.out.1.1.kept (HV.out _ (Kept.refl _).drew).2.2) HA.out.1.2.1.tr HA.out.2.2.1).mono ?_; rintro e w3 ⟨hk3, a3, k3, c3, l3, rfl, n3, t3, v3, e3'⟩; have K3 := (Kept.refl W).drew.trans hk3; have H3 := hid' (And.intro (n3.mono (Nat.le_trans HP.out.2 (Kept.refl W).drew.size)) (And.intro t3 (And.intro v3 e3'))); clear n3 t3 v3 e3'; obtain ⟨d0, d1', d2', d3⟩ := frow_all (HV.out _ K3).1)
    | (go_at_call_of 62 (Value.slice a2 d2.length c2); refine (D.Give_any t a2 c2 d2 _ (HA.out.2.1.1.kept (HV.out _ K3).2.2) HA.out.2.1.2.1.tr HA.out.2.2.2).mono ?_; rintro e w4 ⟨hk4, a4, k4, c4, l4, rfl, n4, t4, v4, e4'⟩; have K4 := K3.trans hk4; have H4 := hid' (And.intro (n4.mono (Nat.le_trans HP.out.2 K3.size)) (And.intro t4 (And.intro v4 (And.intro e4' (H3.out.1.kept hk4))))); clear n4 t4 v4 e4'; obtain ⟨g0, g1, g2, g3⟩ := frow_all (HV.out _ K4).1; have z4 := (HV.out _ K4).2.1; have e0 := z4.c0; have e1 := z4.c1; have e2 := z4.c2; have e3 := z4.c3; have y0 := z4.fz 0; have y1 := z4.fz 1; have y2 := z4.fz 2; have y3 := z4.fz 3))
  have HZ := hid' (And.intro z4 (HV.out _ K4).2.2)
  clear q0 q1 q2 q3 d0 d1' d2' d3 g0 g1 g2 g3 hk3 hk4 K3 K4 HV z4
  go_wp2
  refine bodyPost_ret (v := .agg #[.bool s, .slice a3 k3 c3, .bool t, .slice a4 k4 c4]) (by simp [results, Tryz.results78, go_sem, e0, e1, e2, e3]) rfl ⟨Kept.put4 HZ.out.2 HP.out.1 _ _ _ _, s, a3, k3, c3, l3, t, a4, k4, c4, l4, rfl, New.rset4 H4.out.2.2.2.2 HZ.out.1 _ _ _ _, H3.out.2.1, ?_, H3.out.2.2.2, give_zero HA.out.1.2.1 H3.out.2.2.2, New.rset4 H4.out.1 HZ.out.1 _ _ _ _, H4.out.2.1, ?_, H4.out.2.2.2.1, give_zero HA.out.2.1.2.1 H4.out.2.2.2.1⟩
  · rw [give_int H3.out.2.2.1]; exact HA.out.1.2.2
  · rw [give_int H4.out.2.2.1]; exact HA.out.2.1.2.2

end F
end Go.Proofs.YtcigcfcciggclaaGreat
