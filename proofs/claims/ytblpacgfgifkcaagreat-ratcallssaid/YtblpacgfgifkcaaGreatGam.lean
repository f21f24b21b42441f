/- Boxes: variables on the heap, and what they hold in every world behind, but for a reckoning's block. Variables of type Rat; a reckoning's answer in one form. The reference's fractions (package shuntref02): variables on the heap, values, lowest terms. Lists of one and two fractions; a right fraction's parts. -/
import Derived.Test.YtblpacgfgifkcaaGreatGal
import Derived.Deep.DeepCutAuto
import Derived.Deep.RegionHeld3
import Derived.Test.YtblpacgfgifkcaaGreatRset2
import Derived.Test.YtblpacgfgifkcaaGreatGah
import Derived.Test.YtblpacgfgifkcaaGreatGai
namespace Go.Proofs.YtblpacgfgifkcaaGreat
open Go.RowKit
namespace F
def ZBox (w : World) (p : Nat) : Prop := w.rowIs p 24 2 (fun i => if i = 0 then .bool false else .slice none 0 0)
theorem ZBox.alloc (w : World) : ZBox (w.alloc (.cells #[.bool false, .slice none 0 0] 24)) w.heap.size :=
 World.rowIs_alloc w #[.bool false, .slice none 0 0] 24 _ (fun i hi => by
  match i, hi with
  | 0, _ => rfl
  | 1, _ => rfl)
theorem ZBox.lt {w : World} {p : Nat} (h : ZBox w p) : p < w.heap.size := World.rowIs.lt h
theorem ZBox.c0 {w : World} {p : Nat} (h : ZBox w p) : w.cell? ⟨p, 0, none⟩ = some (.bool false) := World.rowIs.cell h (i := 0) (by omega)
theorem ZBox.c1 {w : World} {p : Nat} (h : ZBox w p) : w.cell? ⟨p, 1, none⟩ = some (.slice none 0 0) := World.rowIs.cell h (i := 1) (by omega)
theorem ZBox.fz {w : World} {p : Nat} (h : ZBox w p) (o : Nat) : w.frozen? ⟨p, o, none⟩ = false := World.rowIs.frozen h o
theorem ZBox.keptK {kb p : Nat} {w w' : World} (h : ZBox w p) (hne : p ≠ kb) (k : KeptK kb w w') : ZBox w' p := World.rowIs.of_block h (k.block p h.lt hne)
theorem ZBox.kept {p : Nat} {w w' : World} (h : ZBox w p) (k : Kept w w') : ZBox w' p := World.rowIs.of_block h (k.block p h.lt)
theorem ZBox.far {w : World} {p q : Nat} (h : ZBox w p) (hne : p ≠ q) (x y : Value) : ZBox ((w.setCell ⟨q, 0, none⟩ x).setCell ⟨q, 1, none⟩ y) p :=
 World.rowIs.setOther (World.rowIs.setOther h hne x) hne y
theorem KeptK.set2 {kb p : Nat} {a b : World} (h : KeptK kb a b) (hp : a.heap.size ≤ p) (x y : Value) : KeptK kb a ((b.setCell ⟨p, 0, none⟩ x).setCell ⟨p, 1, none⟩ y) := (h.setNew hp x).setNew hp y
theorem Flag.set2 {w : World} {kb p : Nat} {x : Bool} (h : Flag w kb x) (hp : p ≠ kb) (u v : Value) : Flag ((w.setCell ⟨p, 0, Option.none⟩ u).setCell ⟨p, 1, Option.none⟩ v) kb x :=
 (h.other (fun e => hp e.symm) u).other (fun e => hp e.symm) v
theorem New.box2 {B p : Nat} {w : World} {v : Value} {l : List Nat} (h : New B w v l) (hz : ZBox w p) (x y : Value) : New B ((w.setCell ⟨p, 0, none⟩ x).setCell ⟨p, 1, none⟩ y) v l := by
 obtain ⟨hb, ⟨rfl, rfl⟩ | ⟨b, N, f, rfl, hB, hN, hr, hf⟩⟩ := h
 ·
  exact ⟨hb, .inl ⟨rfl, rfl⟩⟩
 ·
  have hne : b ≠ p := by
   intro e
   subst e
   obtain ⟨c, h1, _, _⟩ := hr
   obtain ⟨c', h2, _, _⟩ := hz
   rw [h1] at h2
   simp at h2
  exact ⟨hb, .inr ⟨b, N, f, rfl, hB, hN, World.rowIs.setOther (World.rowIs.setOther hr hne x) hne y, hf⟩⟩
theorem set2_far {W : World} {p c o : Nat} {v x y : Value} (h : W.cell? ⟨c, o, none⟩ = some v) (hne : ¬ p = c) : ((W.setCell ⟨p, 0, none⟩ x).setCell ⟨p, 1, none⟩ y).cell? ⟨c, o, none⟩ = some v := by
 rw [World.cell?_setCell_far _ _ _ _ hne, World.cell?_setCell_far _ _ _ _ hne]; exact h
theorem set2_at {W : World} {p : Nat} {u v x y : Value} (h0 : W.cell? ⟨p, 0, none⟩ = some u) (h1 : W.cell? ⟨p, 1, none⟩ = some v) : ((W.setCell ⟨p, 0, none⟩ x).setCell ⟨p, 1, none⟩ y).cell? ⟨p, 0, none⟩ = some x ∧ ((W.setCell ⟨p, 0, none⟩ x).setCell ⟨p, 1, none⟩ y).cell? ⟨p, 1, none⟩ = some y :=
 ⟨by rw [World.cell?_setCell_other _ _ _ _ (by simp)]; exact World.cell?_setCell_same _ _ _ h0, World.cell?_setCell_same _ _ _ (by rw [World.cell?_setCell_other _ _ _ _ (by simp)]; exact h1)⟩
def Box (kb : Nat) (W : World) (p : Nat) (s : Bool) (ao : Option Addr) (k c : Nat) (l : List Nat) : Prop :=
 ∀ V, KeptK kb W V → (V.cell? ⟨p, 0, none⟩ = some (.bool s) ∧ V.cell? ⟨p, 1, none⟩ = some (.slice ao k c)) ∧ Sl V (.slice ao k c) l
section
variable {kb p k c : Nat} {W V : World} {s x : Bool} {ao : Option Addr} {l : List Nat}
theorem Box.mv {W' : World} (h : Box kb W p s ao k c l) (hk : KeptK kb W W') : Box kb W' p s ao k c l := fun V hV => h V (hk.trans hV)
theorem Box.c0 (h : Box kb W p s ao k c l) (hk : KeptK kb W V) : V.cell? ⟨p, 0, none⟩ = some (.bool s) := (h V hk).1.1
theorem Box.c1 (h : Box kb W p s ao k c l) (hk : KeptK kb W V) : V.cell? ⟨p, 1, none⟩ = some (.slice ao k c) := (h V hk).1.2
theorem Box.sl (h : Box kb W p s ao k c l) (hk : KeptK kb W V) : Sl V (.slice ao k c) l := (h V hk).2
theorem Box.mk (hF : Flag W kb x) (hne : p ≠ kb) (h0 : W.cell? ⟨p, 0, none⟩ = some (.bool s)) (h1 : W.cell? ⟨p, 1, none⟩ = some (.slice ao k c)) (hs : Sl W (.slice ao k c) l) : Box kb W p s ao k c l :=
 fun _ hV => ⟨⟨cell_keptK hV hne h0, cell_keptK hV hne h1⟩, Sl.keptK hF hs hV⟩
end
def RBox (kb : Nat) (W : World) (p : Nat) (m : Bool) (ao : Option Addr) (k c : Nat) (n : Bool) (ap : Option Addr) (k' c' : Nat) (a d : List Nat) : Prop :=
 ∀ V, KeptK kb W V → (V.cell? ⟨p, 0, none⟩ = some (.bool m) ∧ V.cell? ⟨p, 1, none⟩ = some (.slice ao k c) ∧ V.cell? ⟨p, 2, none⟩ = some (.bool n) ∧ V.cell? ⟨p, 3, none⟩ = some (.slice ap k' c')) ∧ Sl V (.slice ao k c) a ∧ Sl V (.slice ap k' c') d
section
variable {kb p k c k' c' : Nat} {W V : World} {m n x : Bool} {ao ap : Option Addr} {a d : List Nat}
theorem RBox.mv {W' : World} (h : RBox kb W p m ao k c n ap k' c' a d) (hk : KeptK kb W W') : RBox kb W' p m ao k c n ap k' c' a d := fun V hV => h V (hk.trans hV)
theorem RBox.c0 (h : RBox kb W p m ao k c n ap k' c' a d) (hk : KeptK kb W V) : V.cell? ⟨p, 0, none⟩ = some (.bool m) := (h V hk).1.1
theorem RBox.c1 (h : RBox kb W p m ao k c n ap k' c' a d) (hk : KeptK kb W V) : V.cell? ⟨p, 1, none⟩ = some (.slice ao k c) := (h V hk).1.2.1
theorem RBox.c2 (h : RBox kb W p m ao k c n ap k' c' a d) (hk : KeptK kb W V) : V.cell? ⟨p, 2, none⟩ = some (.bool n) := (h V hk).1.2.2.1
theorem RBox.c3 (h : RBox kb W p m ao k c n ap k' c' a d) (hk : KeptK kb W V) : V.cell? ⟨p, 3, none⟩ = some (.slice ap k' c') := (h V hk).1.2.2.2
theorem RBox.sn (h : RBox kb W p m ao k c n ap k' c' a d) (hk : KeptK kb W V) : Sl V (.slice ao k c) a := (h V hk).2.1
theorem RBox.sd (h : RBox kb W p m ao k c n ap k' c' a d) (hk : KeptK kb W V) : Sl V (.slice ap k' c') d := (h V hk).2.2
theorem RBox.mk (hF : Flag W kb x) (hne : p ≠ kb) (h0 : W.cell? ⟨p, 0, none⟩ = some (.bool m)) (h1 : W.cell? ⟨p, 1, none⟩ = some (.slice ao k c)) (h2 : W.cell? ⟨p, 2, none⟩ = some (.bool n)) (h3 : W.cell? ⟨p, 3, none⟩ = some (.slice ap k' c')) (ha : Sl W (.slice ao k c) a) (hd : Sl W (.slice ap k' c') d) : RBox kb W p m ao k c n ap k' c' a d :=
 fun _ hV => ⟨⟨cell_keptK hV hne h0, cell_keptK hV hne h1, cell_keptK hV hne h2, cell_keptK hV hne h3⟩, Sl.keptK hF ha hV, Sl.keptK hF hd hV⟩
end
end F
end Go.Proofs.YtblpacgfgifkcaaGreat

namespace Go.Proofs.YtblpacgfgifkcaaGreat
open Go.RowKit
namespace F
def RRow (w : World) (p : Nat) (x0 x1 x2 x3 : Value) : Prop := w.rowIs p 26 4 (fun i => if i = 0 then x0 else if i = 1 then x1 else if i = 2 then x2 else x3)
theorem RRow.alloc (w : World) (x0 x1 x2 x3 : Value) : RRow (w.alloc (.cells #[x0, x1, x2, x3] 26)) w.heap.size x0 x1 x2 x3 :=
 World.rowIs_alloc w #[x0, x1, x2, x3] 26 _ (fun i hi => by
  match i, hi with
  | 0, _ => rfl
  | 1, _ => rfl
  | 2, _ => rfl
  | 3, _ => rfl)
section
variable {w w' : World} {p : Nat} {x0 x1 x2 x3 : Value}
theorem RRow.lt (h : RRow w p x0 x1 x2 x3) : p < w.heap.size := World.rowIs.lt h
theorem RRow.c0 (h : RRow w p x0 x1 x2 x3) : w.cell? ⟨p, 0, none⟩ = some x0 := World.rowIs.cell h (i := 0) (by omega)
theorem RRow.c1 (h : RRow w p x0 x1 x2 x3) : w.cell? ⟨p, 1, none⟩ = some x1 := World.rowIs.cell h (i := 1) (by omega)
theorem RRow.c2 (h : RRow w p x0 x1 x2 x3) : w.cell? ⟨p, 2, none⟩ = some x2 := World.rowIs.cell h (i := 2) (by omega)
theorem RRow.c3 (h : RRow w p x0 x1 x2 x3) : w.cell? ⟨p, 3, none⟩ = some x3 := World.rowIs.cell h (i := 3) (by omega)
theorem RRow.fz (h : RRow w p x0 x1 x2 x3) (o : Nat) : w.frozen? ⟨p, o, none⟩ = false := World.rowIs.frozen h o
theorem RRow.kept (h : RRow w p x0 x1 x2 x3) (k : Kept w w') : RRow w' p x0 x1 x2 x3 := World.rowIs.of_block h (k.block p h.lt)
theorem RRow.keptK {kb : Nat} (h : RRow w p x0 x1 x2 x3) (hne : p ≠ kb) (k : KeptK kb w w') : RRow w' p x0 x1 x2 x3 := World.rowIs.of_block h (k.block p h.lt hne)
end
theorem Flag.alloc (w : World) (x : Bool) : Flag (w.alloc (.cells #[.bool x] 94)) w.heap.size x :=
 World.rowIs_alloc w #[.bool x] 94 _ (fun i hi => by
  match i, hi with
  | 0, _ => rfl)
theorem pos_false {s : Bool} {l : List Nat} (h : M.Right s l) (hp : 0 < M.int s l) : s = false := by
 cases s
 ·
  rfl
 ·
  have := int_neg_lt (R.of_right h); omega
theorem len_pos {s : Bool} {l : List Nat} (hp : 0 < M.int s l) : 0 < l.length := by
 apply Classical.byContradiction
 intro h
 have : l = [] := List.length_eq_zero_iff.1 (by omega)
 subst this
 cases s <;> simp [M.int, M.val] at hp
theorem answer_q (kb : Nat) (x s t : Bool) (ao ap : Option Addr) (k c k' c' : Nat) (w : World) (hF : Flag w kb x) :
  Calls Tryz.prog 72 #[.pointer (some ⟨kb, 0, none⟩), .agg #[.bool s, .slice ao k c], .agg #[.bool t, .slice ap k' c']] w fun e w' => Kept w w' ∧ ∃ (y0 y2 : Bool) (z1 z3 : Option Addr) (j1 e1 j3 e3 : Nat) (er : Int), e = .returned (.tuple #[.agg #[.bool y0, .slice z1 j1 e1, .bool y2, .slice z3 j3 e3], .int .i64 er]) ∧ ((x = false ∧ er = 0 ∧ y0 = s ∧ z1 = ao ∧ j1 = k ∧ e1 = c ∧ y2 = t ∧ z3 = ap ∧ j3 = k' ∧ e3 = c') ∨ (x = true ∧ er = 13 ∧ y0 = false ∧ z1 = none ∧ j1 = 0 ∧ e1 = 0 ∧ y2 = false ∧ z3 = none ∧ j3 = 0 ∧ e3 = 0)) := by
 refine (answer_r kb x s t ao ap k c k' c' w hF).mono ?_
 rintro e w' ⟨h1, rfl⟩
 cases x
 ·
  exact ⟨h1, s, t, ao, ap, k, c, k', c', 0, rfl, .inl ⟨rfl, rfl, rfl, rfl, rfl, rfl, rfl, rfl, rfl, rfl⟩⟩
 ·
  exact ⟨h1, false, false, none, none, 0, 0, 0, 0, 13, rfl, .inr ⟨rfl, rfl, rfl, rfl, rfl, rfl, rfl, rfl, rfl, rfl⟩⟩
end F
end Go.Proofs.YtblpacgfgifkcaaGreat

namespace Go.Proofs.YtblpacgfgifkcaaGreat
open Go.RowKit
namespace F
def NRow (w : World) (p : Nat) (x0 x1 : Value) : Prop := w.rowIs p 66 2 (fun i => if i = 0 then x0 else x1)
theorem NRow.alloc (w : World) (x0 x1 : Value) : NRow (w.alloc (.cells #[x0, x1] 66)) w.heap.size x0 x1 :=
 World.rowIs_alloc w #[x0, x1] 66 _ (fun i hi => by
  match i, hi with
  | 0, _ => rfl
  | 1, _ => rfl)
section
variable {w w' : World} {p q : Nat} {x0 x1 : Value}
theorem NRow.lt (h : NRow w p x0 x1) : p < w.heap.size := World.rowIs.lt h
theorem NRow.c0 (h : NRow w p x0 x1) : w.cell? ⟨p, 0, none⟩ = some x0 := World.rowIs.cell h (i := 0) (by omega)
theorem NRow.c1 (h : NRow w p x0 x1) : w.cell? ⟨p, 1, none⟩ = some x1 := World.rowIs.cell h (i := 1) (by omega)
theorem NRow.fz (h : NRow w p x0 x1) (o : Nat) : w.frozen? ⟨p, o, none⟩ = false := World.rowIs.frozen h o
theorem NRow.kept (h : NRow w p x0 x1) (k : Kept w w') : NRow w' p x0 x1 := World.rowIs.of_block h (k.block p h.lt)
theorem NRow.set2 (h : NRow w p x0 x1) (y0 y1 : Value) : NRow ((w.setCell ⟨p, 0, none⟩ y0).setCell ⟨p, 1, none⟩ y1) p y0 y1 :=
 ((World.rowIs.set (World.rowIs.set h 0 y0) 1 y1).congr fun i hi => by
  match i, hi with
  | 0, _ => rfl
  | 1, _ => rfl)
theorem NRow.far (h : NRow w p x0 x1) (hne : ¬ p = q) (x y : Value) : NRow ((w.setCell ⟨q, 0, none⟩ x).setCell ⟨q, 1, none⟩ y) p x0 x1 :=
 World.rowIs.setOther (World.rowIs.setOther h hne x) hne y
theorem NRow.alloc2 (w : World) (x0 x1 y0 y1 : Value) : NRow ((w.alloc (.cells #[x0, x1] 66)).alloc (.cells #[y0, y1] 66)) w.heap.size x0 x1 ∧ NRow ((w.alloc (.cells #[x0, x1] 66)).alloc (.cells #[y0, y1] 66)) (w.heap.size + 1) y0 y1 := by
 have h := NRow.alloc (w.alloc (.cells #[x0, x1] 66)) y0 y1
 rw [World.size_alloc] at h
 exact ⟨(NRow.alloc w x0 x1).kept ((Kept.refl _).alloc _), h⟩
end
def FRow (w : World) (p : Nat) (x0 x1 x2 x3 : Value) : Prop := w.rowIs p 68 4 (fun i => if i = 0 then x0 else if i = 1 then x1 else if i = 2 then x2 else x3)
theorem FRow.alloc (w : World) (x0 x1 x2 x3 : Value) : FRow (w.alloc (.cells #[x0, x1, x2, x3] 68)) w.heap.size x0 x1 x2 x3 :=
 World.rowIs_alloc w #[x0, x1, x2, x3] 68 _ (fun i hi => by
  match i, hi with
  | 0, _ => rfl
  | 1, _ => rfl
  | 2, _ => rfl
  | 3, _ => rfl)
section
variable {w w' : World} {p q : Nat} {x0 x1 x2 x3 : Value}
theorem FRow.lt (h : FRow w p x0 x1 x2 x3) : p < w.heap.size := World.rowIs.lt h
theorem FRow.c0 (h : FRow w p x0 x1 x2 x3) : w.cell? ⟨p, 0, none⟩ = some x0 := World.rowIs.cell h (i := 0) (by omega)
theorem FRow.c1 (h : FRow w p x0 x1 x2 x3) : w.cell? ⟨p, 1, none⟩ = some x1 := World.rowIs.cell h (i := 1) (by omega)
theorem FRow.c2 (h : FRow w p x0 x1 x2 x3) : w.cell? ⟨p, 2, none⟩ = some x2 := World.rowIs.cell h (i := 2) (by omega)
theorem FRow.c3 (h : FRow w p x0 x1 x2 x3) : w.cell? ⟨p, 3, none⟩ = some x3 := World.rowIs.cell h (i := 3) (by omega)
theorem FRow.fz (h : FRow w p x0 x1 x2 x3) (o : Nat) : w.frozen? ⟨p, o, none⟩ = false := World.rowIs.frozen h o
theorem FRow.kept (h : FRow w p x0 x1 x2 x3) (k : Kept w w') : FRow w' p x0 x1 x2 x3 := World.rowIs.of_block h (k.block p h.lt)
end
theorem frow_two {w : World} {p q : Nat} {x0 x1 x2 x3 y0 y1 y2 y3 : Value} (h : FRow w p x0 x1 x2 x3) (h' : FRow w q y0 y1 y2 y3) : (w.cell? ⟨p, 0, none⟩ = some x0 ∧ w.cell? ⟨p, 1, none⟩ = some x1 ∧ w.cell? ⟨p, 2, none⟩ = some x2 ∧ w.cell? ⟨p, 3, none⟩ = some x3) ∧ w.cell? ⟨q, 0, none⟩ = some y0 ∧ w.cell? ⟨q, 1, none⟩ = some y1 ∧ w.cell? ⟨q, 2, none⟩ = some y2 ∧ w.cell? ⟨q, 3, none⟩ = some y3 :=
 ⟨⟨h.c0, h.c1, h.c2, h.c3⟩, h'.c0, h'.c1, h'.c2, h'.c3⟩
def put4 (w : World) (p : Nat) (x0 x1 x2 x3 : Value) : World := (((w.setCell ⟨p, 0, none⟩ x0).setCell ⟨p, 1, none⟩ x1).setCell ⟨p, 2, none⟩ x2).setCell ⟨p, 3, none⟩ x3
theorem Kept.put4 {a b : World} {p : Nat} (h : Kept a b) (hp : a.heap.size ≤ p) (x0 x1 x2 x3 : Value) : Kept a (put4 b p x0 x1 x2 x3) :=
 (((h.setCell (p := ⟨p, 0, none⟩) hp x0).setCell (p := ⟨p, 1, none⟩) hp x1).setCell (p := ⟨p, 2, none⟩) hp x2).setCell (p := ⟨p, 3, none⟩) hp x3
theorem nset {w : World} {s : Bool} {v : Value} {z : Int} {p o : Nat} {u x : Value} (h : D.NIs w s v z) (h0 : w.cell? ⟨p, o, none⟩ = some u) (hu : ∀ k n, u ≠ .int k n) : D.NIs (w.setCell ⟨p, o, none⟩ x) s v z := by
 obtain ⟨l, ⟨hb, ao, cap, rfl, hx⟩, h2⟩ := h
 refine ⟨l, ⟨hb, ao, cap, rfl, fun hl => ?_⟩, h2⟩
 obtain ⟨k1, b', off', rfl, hlt, hc⟩ := hx hl
 refine ⟨k1, b', off', rfl, by rw [World.size_setCell]; exact hlt, fun j hj => ?_⟩
 rw [World.cell?_setCell_other _ _ _ _ (fun e => by have := hc j hj; rw [← e, h0] at this; simp at this; exact hu _ _ this)]
 exact hc j hj
theorem nset4 {w : World} {s : Bool} {v : Value} {z : Int} {p : Nat} {b b' : Bool} {ao ao' : Option Addr} {n n' c c' : Nat} {y0 y1 y2 y3 : Value} (h : D.NIs w s v z) (hF : FRow w p (.bool b) (.slice ao n c) (.bool b') (.slice ao' n' c')) : D.NIs (put4 w p y0 y1 y2 y3) s v z := by
 have h0 := nset (p := p) (o := 0) (x := y0) h hF.c0 (by simp)
 have h1 := nset (p := p) (o := 1) (x := y1) h0 (by rw [World.cell?_setCell_other _ _ _ _ (by simp)]; exact hF.c1) (by simp)
 have h2 := nset (p := p) (o := 2) (x := y2) h1 (by rw [World.cell?_setCell_other _ _ _ _ (by simp), World.cell?_setCell_other _ _ _ _ (by simp)]; exact hF.c2) (by simp)
 exact nset (p := p) (o := 3) (x := y3) h2 (by rw [World.cell?_setCell_other _ _ _ _ (by simp), World.cell?_setCell_other _ _ _ _ (by simp), World.cell?_setCell_other _ _ _ _ (by simp)]; exact hF.c3) (by simp)
def FIs (w : World) (v : Value) (X Y : Int) (k k' : Nat) : Prop :=
 ∃ s ao n c t ap n' c', v = .agg #[.bool s, .slice ao n c, .bool t, .slice ap n' c'] ∧ D.NIs w s (.slice ao n c) X ∧ D.NIs w t (.slice ap n' c') Y ∧ n ≤ k ∧ n' ≤ k'
theorem FIs.kept {w w' : World} {v : Value} {X Y : Int} {k k' : Nat} (h : FIs w v X Y k k') (hk : Kept w w') : FIs w' v X Y k k' := by
 obtain ⟨s, ao, n, c, t, ap, n', c', h1, h2, h3, h4⟩ := h
 exact ⟨s, ao, n, c, t, ap, n', c', h1, h2.kept hk, h3.kept hk, h4⟩
structure Low (X Y N D : Int) : Prop where
 pos : 0 < D
 low : Nat.gcd N.natAbs D.natAbs = 1
 eq : N * Y = X * D
theorem low_of {X Y : Int} (hY : 0 < Y) : Low X Y (Int.tdiv X ((Nat.gcd X.natAbs Y.natAbs : Nat) : Int)) (Int.tdiv Y ((Nat.gcd X.natAbs Y.natAbs : Nat) : Int)) := by
 obtain ⟨g, hg⟩ : ∃ g, g = Nat.gcd X.natAbs Y.natAbs := ⟨_, rfl⟩
 rw [← hg]
 have hp : 0 < g := by rw [hg]; exact Nat.gcd_pos_of_pos_right _ (by omega)
 obtain ⟨x, hx⟩ : (g : Int) ∣ X := by apply Int.natAbs_dvd_natAbs.1; rw [Int.natAbs_natCast, hg]; exact Nat.gcd_dvd_left _ _
 obtain ⟨y, hy⟩ : (g : Int) ∣ Y := by apply Int.natAbs_dvd_natAbs.1; rw [Int.natAbs_natCast, hg]; exact Nat.gcd_dvd_right _ _
 have e1 : Int.tdiv X g = x := by rw [hx]; exact Int.mul_tdiv_cancel_left _ (by omega)
 have e2 : Int.tdiv Y g = y := by rw [hy]; exact Int.mul_tdiv_cancel_left _ (by omega)
 rw [e1, e2]
 refine ⟨?_, ?_, ?_⟩
 ·
  rcases Int.lt_trichotomy y 0 with h | h | h
  ·
   have := Int.mul_neg_of_pos_of_neg (show (0 : Int) < g by omega) h; omega
  ·
   rw [h] at hy; simp at hy; omega
  ·
   exact h
 ·
  rw [hx, hy, Int.natAbs_mul, Int.natAbs_mul, Int.natAbs_natCast, Nat.gcd_mul_left] at hg
  exact Nat.eq_of_mul_eq_mul_left hp (by omega)
 ·
  rw [hx, hy, Int.mul_left_comm x, Int.mul_assoc]
theorem Low.neg {X Y N D : Int} (h : Low (-X) (-Y) N D) : Low X Y N D := ⟨h.pos, h.low, by have := h.eq; rw [Int.mul_neg, Int.neg_mul] at this; omega⟩
theorem Low.one {X Y N D N' D' : Int} (h : Low X Y N D) (h' : Low X Y N' D') (hY : Y ≠ 0) : N = N' ∧ D = D' := by
 obtain ⟨p1, l1, e1⟩ := h
 obtain ⟨p2, l2, e2⟩ := h'
 have key : N * D' = N' * D := by
  apply Int.eq_of_mul_eq_mul_right hY
  have a1 : N * D' * Y = (N * Y) * D' := by grind
  have a2 : N' * D * Y = (N' * Y) * D := by grind
  rw [a1, a2, e1, e2]
  grind
 have e := congrArg Int.natAbs key
 rw [Int.natAbs_mul, Int.natAbs_mul] at e
 have d1 : D.natAbs ∣ D'.natAbs := (Nat.Coprime.symm l1).dvd_of_dvd_mul_left (by rw [e]; exact Nat.dvd_mul_left _ _)
 have d2 : D'.natAbs ∣ D.natAbs := (Nat.Coprime.symm l2).dvd_of_dvd_mul_left (by rw [← e]; exact Nat.dvd_mul_left _ _)
 have hd := Nat.dvd_antisymm d1 d2
 have hD : D = D' := by omega
 subst hD
 exact ⟨Int.eq_of_mul_eq_mul_right (by omega) key, rfl⟩
end F
end Go.Proofs.YtblpacgfgifkcaaGreat

namespace Go.Proofs.YtblpacgfgifkcaaGreat
open Go.RowKit
namespace F
structure RatR (m n : Bool) (a d : List Nat) : Prop where
 ra : R m a
 rd : R n d
 pos : 0 < M.int n d
 low : Nat.gcd (M.val a) (M.val d) = 1
theorem RatR.sgn {m n : Bool} {a d : List Nat} (h : RatR m n a d) : n = false := by
 cases n
 ·
  rfl
 ·
  have := int_neg_lt h.rd; have := h.pos; omega
theorem RatR.val {m n : Bool} {a d : List Nat} (h : RatR m n a d) : M.int n d = (M.val d : Int) := by rw [h.sgn]; simp [M.int]
theorem RatR.vpos {m n : Bool} {a d : List Nat} (h : RatR m n a d) : 0 < M.val d := by have := h.pos; rw [h.val] at this; omega
def two {α : Type} (x y : α) (i : Nat) : α := if i = 0 then x else y
theorem RatAll.two {w : World} {b : Nat} {m n p q : Bool} {a1 a2 b1 b2 : Option Addr} {k1 c1 k2 c2 k3 c3 k4 c4 : Nat} {an ad bn bd : List Nat}
  (h0 : w.cell? ⟨b, 0, none⟩ = some (.bool m)) (h1 : w.cell? ⟨b, 1, none⟩ = some (.slice a1 k1 c1)) (h2 : w.cell? ⟨b, 2, none⟩ = some (.bool n)) (h3 : w.cell? ⟨b, 3, none⟩ = some (.slice a2 k2 c2))
  (h4 : w.cell? ⟨b, 4, none⟩ = some (.bool p)) (h5 : w.cell? ⟨b, 5, none⟩ = some (.slice b1 k3 c3)) (h6 : w.cell? ⟨b, 6, none⟩ = some (.bool q)) (h7 : w.cell? ⟨b, 7, none⟩ = some (.slice b2 k4 c4))
  (s1 : Sl w (.slice a1 k1 c1) an) (s2 : Sl w (.slice a2 k2 c2) ad) (s3 : Sl w (.slice b1 k3 c3) bn) (s4 : Sl w (.slice b2 k4 c4) bd)
  (l1 : an.length ≤ 9223372036854775807) (l2 : ad.length ≤ 9223372036854775807) (l3 : bn.length ≤ 9223372036854775807) (l4 : bd.length ≤ 9223372036854775807) :
  RatAll w b 0 2 (F.two m p) (F.two n q) (F.two a1 b1) (F.two a2 b2) (F.two k1 k3) (F.two c1 c3) (F.two k2 k4) (F.two c2 c4) (F.two an bn) (F.two ad bd) := by
 intro i hi
 match i, hi with
 | 0, _ => exact ⟨⟨h0, h1, h2, h3⟩, s1, s2, l1, l2⟩
 | 1, _ => exact ⟨⟨h4, h5, h6, h7⟩, s3, s4, l3, l4⟩
theorem Refused.two {m n p q : Bool} {an ad bn bd : List Nat} {c : Int} (hA : RatR m n an ad) (hB : RatR p q bn bd) (h : Refused 2 (F.two m p) (F.two n q) (F.two an bn) (F.two ad bd) c) : c = 0 := by
 rcases h with ⟨_, i, hi, h⟩ | ⟨_, ⟨_, i, hi, h⟩ | ⟨h, _⟩⟩
 ·
  exfalso
  match i, hi with
  | 0, _ => exact h ⟨hA.ra, hA.rd⟩
  | 1, _ => exact h ⟨hB.ra, hB.rd⟩
 ·
  exfalso
  match i, hi with
  | 0, _ => exact h ⟨hA.pos, hA.low⟩
  | 1, _ => exact h ⟨hB.pos, hB.low⟩
 ·
  exact h
theorem RatAll.single {w : World} {b : Nat} {m n : Bool} {a1 a2 : Option Addr} {k1 c1 k2 c2 : Nat} {an ad : List Nat}
  (h0 : w.cell? ⟨b, 0, none⟩ = some (.bool m)) (h1 : w.cell? ⟨b, 1, none⟩ = some (.slice a1 k1 c1)) (h2 : w.cell? ⟨b, 2, none⟩ = some (.bool n)) (h3 : w.cell? ⟨b, 3, none⟩ = some (.slice a2 k2 c2))
  (s1 : Sl w (.slice a1 k1 c1) an) (s2 : Sl w (.slice a2 k2 c2) ad) (l1 : an.length ≤ 9223372036854775807) (l2 : ad.length ≤ 9223372036854775807) :
  RatAll w b 0 1 (fun _ => m) (fun _ => n) (fun _ => a1) (fun _ => a2) (fun _ => k1) (fun _ => c1) (fun _ => k2) (fun _ => c2) (fun _ => an) (fun _ => ad) := by
 intro i hi
 match i, hi with
 | 0, _ => exact ⟨⟨h0, h1, h2, h3⟩, s1, s2, l1, l2⟩
theorem Refused.single {m n : Bool} {an ad : List Nat} {c : Int} (hA : RatR m n an ad) (h : Refused 1 (fun _ => m) (fun _ => n) (fun _ => an) (fun _ => ad) c) : c = 0 := by
 rcases h with ⟨_, i, hi, h⟩ | ⟨_, ⟨_, i, hi, h⟩ | ⟨h, _⟩⟩
 ·
  exact absurd ⟨hA.ra, hA.rd⟩ h
 ·
  exact absurd ⟨hA.pos, hA.low⟩ h
 ·
  exact h
end F
end Go.Proofs.YtblpacgfgifkcaaGreat
