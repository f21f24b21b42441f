/- Boxes: variables on the heap, and what they hold in every world behind, but for a reckoning's block. Variables of type Rat; a reckoning's answer in one form. -/
import Derived.Test.YtbingbnndmmjbaaGal
import Derived.Deep.DeepCutAuto
import Derived.Deep.RegionHeld3
namespace Go.Proofs.Ytbingbnndmmjbaa
open Go.RowKit
namespace F

/-- A new variable of type Int at block p, still zero. -/
def ZBox (w : World) (p : Nat) : Prop := w.rowIs p 24 2 (fun i => if i = 0 then .bool false else .slice none 0 0)

theorem ZBox.alloc (w : World) : ZBox (w.alloc (.cells #[.bool false, .slice none 0 0] 24)) w.heap.size :=
  World.rowIs_alloc w #[.bool false, .slice none 0 0] 24 _ (fun i hi => by
    match i, hi with
    | 0, _ => rfl
    | 1, _ => rfl)

theorem ZBox.lt {w : World} {p : Nat} (h : ZBox w p) : p < w.heap.size := World.rowIs.lt h
theorem ZBox.c0 {w : World} {p : Nat} (h : ZBox w p) : w.cell? ⟨p, 0, none⟩ = some (.bool false) := World.rowIs.cell h (i := 0) (by omega)
theorem ZBox.c1 {w : World} {p : Nat} (h : ZBox w p) : w.cell? ⟨p, 1, none⟩ = some (.slice none 0 0) := World.rowIs.cell h (i := 1) (by omega)
theorem ZBox.fz {w : World} {p : Nat} (h : ZBox w p) (o : Nat) : w.frozen? ⟨p, o, none⟩ = false := World.rowIs.frozen h o
theorem ZBox.keptK {kb p : Nat} {w w' : World} (h : ZBox w p) (hne : p ≠ kb) (k : KeptK kb w w') : ZBox w' p := World.rowIs.of_block h (k.block p h.lt hne)
theorem ZBox.kept {p : Nat} {w w' : World} (h : ZBox w p) (k : Kept w w') : ZBox w' p := World.rowIs.of_block h (k.block p h.lt)
theorem ZBox.far {w : World} {p q : Nat} (h : ZBox w p) (hne : p ≠ q) (x y : Value) : ZBox ((w.setCell ⟨q, 0, none⟩ x).setCell ⟨q, 1, none⟩ y) p :=
  World.rowIs.setOther (World.rowIs.setOther h hne x) hne y

theorem KeptK.set2 {kb p : Nat} {a b : World} (h : KeptK kb a b) (hp : a.heap.size ≤ p) (x y : Value) : KeptK kb a ((b.setCell ⟨p, 0, none⟩ x).setCell ⟨p, 1, none⟩ y) := (h.setNew hp x).setNew hp y

theorem Flag.set2 {w : World} {kb p : Nat} {x : Bool} (h : Flag w kb x) (hp : p ≠ kb) (u v : Value) : Flag ((w.setCell ⟨p, 0, Option.none⟩ u).setCell ⟨p, 1, Option.none⟩ v) kb x :=
  (h.other (fun e => hp e.symm) u).other (fun e => hp e.symm) v

theorem New.box2 {B p : Nat} {w : World} {v : Value} {l : List Nat} (h : New B w v l) (hz : ZBox w p) (x y : Value) : New B ((w.setCell ⟨p, 0, none⟩ x).setCell ⟨p, 1, none⟩ y) v l := by
  obtain ⟨hb, ⟨rfl, rfl⟩ | ⟨b, N, f, rfl, hB, hN, hr, hf⟩⟩ := h
  · exact ⟨hb, .inl ⟨rfl, rfl⟩⟩
  · have hne : b ≠ p := by
      intro e
      subst e
      obtain ⟨c, h1, _, _⟩ := hr
      obtain ⟨c', h2, _, _⟩ := hz
      rw [h1] at h2
      simp at h2
    exact ⟨hb, .inr ⟨b, N, f, rfl, hB, hN, World.rowIs.setOther (World.rowIs.setOther hr hne x) hne y, hf⟩⟩

theorem set2_far {W : World} {p c o : Nat} {v x y : Value} (h : W.cell? ⟨c, o, none⟩ = some v) (hne : ¬ p = c) : ((W.setCell ⟨p, 0, none⟩ x).setCell ⟨p, 1, none⟩ y).cell? ⟨c, o, none⟩ = some v := by
  rw [World.cell?_setCell_far _ _ _ _ hne, World.cell?_setCell_far _ _ _ _ hne]; exact h

theorem set2_at {W : World} {p : Nat} {u v x y : Value} (h0 : W.cell? ⟨p, 0, none⟩ = some u) (h1 : W.cell? ⟨p, 1, none⟩ = some v) : ((W.setCell ⟨p, 0, none⟩ x).setCell ⟨p, 1, none⟩ y).cell? ⟨p, 0, none⟩ = some x ∧ ((W.setCell ⟨p, 0, none⟩ x).setCell ⟨p, 1, none⟩ y).cell? ⟨p, 1, none⟩ = some y :=
  ⟨by rw [World.cell?_setCell_other _ _ _ _ (by simp)]; exact World.cell?_setCell_same _ _ _ h0, World.cell?_setCell_same _ _ _ (by rw [World.cell?_setCell_other _ _ _ _ (by simp)]; exact h1)⟩

/-- The variable at block p holds an Int that reads as l, in W and in every world behind. -/
def Box (kb : Nat) (W : World) (p : Nat) (s : Bool) (ao : Option Addr) (k c : Nat) (l : List Nat) : Prop :=
  ∀ V, KeptK kb W V → (V.cell? ⟨p, 0, none⟩ = some (.bool s) ∧ V.cell? ⟨p, 1, none⟩ = some (.slice ao k c)) ∧ Sl V (.slice ao k c) l

section
variable {kb p k c : Nat} {W V : World} {s x : Bool} {ao : Option Addr} {l : List Nat}
theorem Box.mv {W' : World} (h : Box kb W p s ao k c l) (hk : KeptK kb W W') : Box kb W' p s ao k c l := fun V hV => h V (hk.trans hV)
theorem Box.c0 (h : Box kb W p s ao k c l) (hk : KeptK kb W V) : V.cell? ⟨p, 0, none⟩ = some (.bool s) := (h V hk).1.1
theorem Box.c1 (h : Box kb W p s ao k c l) (hk : KeptK kb W V) : V.cell? ⟨p, 1, none⟩ = some (.slice ao k c) := (h V hk).1.2
theorem Box.sl (h : Box kb W p s ao k c l) (hk : KeptK kb W V) : Sl V (.slice ao k c) l := (h V hk).2
theorem Box.mk (hF : Flag W kb x) (hne : p ≠ kb) (h0 : W.cell? ⟨p, 0, none⟩ = some (.bool s)) (h1 : W.cell? ⟨p, 1, none⟩ = some (.slice ao k c)) (hs : Sl W (.slice ao k c) l) : Box kb W p s ao k c l :=
  fun _ hV => ⟨⟨cell_keptK hV hne h0, cell_keptK hV hne h1⟩, Sl.keptK hF hs hV⟩
end

/-- The variable at block p holds a Rat whose parts read as a and d. -/
def RBox (kb : Nat) (W : World) (p : Nat) (m : Bool) (ao : Option Addr) (k c : Nat) (n : Bool) (ap : Option Addr) (k' c' : Nat) (a d : List Nat) : Prop :=
  ∀ V, KeptK kb W V → (V.cell? ⟨p, 0, none⟩ = some (.bool m) ∧ V.cell? ⟨p, 1, none⟩ = some (.slice ao k c) ∧ V.cell? ⟨p, 2, none⟩ = some (.bool n) ∧ V.cell? ⟨p, 3, none⟩ = some (.slice ap k' c')) ∧ Sl V (.slice ao k c) a ∧ Sl V (.slice ap k' c') d

section
variable {kb p k c k' c' : Nat} {W V : World} {m n x : Bool} {ao ap : Option Addr} {a d : List Nat}
theorem RBox.mv {W' : World} (h : RBox kb W p m ao k c n ap k' c' a d) (hk : KeptK kb W W') : RBox kb W' p m ao k c n ap k' c' a d := fun V hV => h V (hk.trans hV)
theorem RBox.c0 (h : RBox kb W p m ao k c n ap k' c' a d) (hk : KeptK kb W V) : V.cell? ⟨p, 0, none⟩ = some (.bool m) := (h V hk).1.1
theorem RBox.c1 (h : RBox kb W p m ao k c n ap k' c' a d) (hk : KeptK kb W V) : V.cell? ⟨p, 1, none⟩ = some (.slice ao k c) := (h V hk).1.2.1
theorem RBox.c2 (h : RBox kb W p m ao k c n ap k' c' a d) (hk : KeptK kb W V) : V.cell? ⟨p, 2, none⟩ = some (.bool n) := (h V hk).1.2.2.1
theorem RBox.c3 (h : RBox kb W p m ao k c n ap k' c' a d) (hk : KeptK kb W V) : V.cell? ⟨p, 3, none⟩ = some (.slice ap k' c') := (h V hk).1.2.2.2
theorem RBox.sn (h : RBox kb W p m ao k c n ap k' c' a d) (hk : KeptK kb W V) : Sl V (.slice ao k c) a := (h V hk).2.1
theorem RBox.sd (h : RBox kb W p m ao k c n ap k' c' a d) (hk : KeptK kb W V) : Sl V (.slice ap k' c') d := (h V hk).2.2
theorem RBox.mk (hF : Flag W kb x) (hne : p ≠ kb) (h0 : W.cell? ⟨p, 0, none⟩ = some (.bool m)) (h1 : W.cell? ⟨p, 1, none⟩ = some (.slice ao k c)) (h2 : W.cell? ⟨p, 2, none⟩ = some (.bool n)) (h3 : W.cell? ⟨p, 3, none⟩ = some (.slice ap k' c')) (ha : Sl W (.slice ao k c) a) (hd : Sl W (.slice ap k' c') d) : RBox kb W p m ao k c n ap k' c' a d :=
  fun _ hV => ⟨⟨cell_keptK hV hne h0, cell_keptK hV hne h1, cell_keptK hV hne h2, cell_keptK hV hne h3⟩, Sl.keptK hF ha hV, Sl.keptK hF hd hV⟩
end

end F
end Go.Proofs.Ytbingbnndmmjbaa

namespace Go.Proofs.Ytbingbnndmmjbaa
open Go.RowKit
namespace F

/-- The variable at block p holds a Rat of these four. -/
def RRow (w : World) (p : Nat) (x0 x1 x2 x3 : Value) : Prop := w.rowIs p 26 4 (fun i => if i = 0 then x0 else if i = 1 then x1 else if i = 2 then x2 else x3)

theorem RRow.alloc (w : World) (x0 x1 x2 x3 : Value) : RRow (w.alloc (.cells #[x0, x1, x2, x3] 26)) w.heap.size x0 x1 x2 x3 :=
  World.rowIs_alloc w #[x0, x1, x2, x3] 26 _ (fun i hi => by
    match i, hi with
    | 0, _ => rfl
    | 1, _ => rfl
    | 2, _ => rfl
    | 3, _ => rfl)

section
variable {w w' : World} {p : Nat} {x0 x1 x2 x3 : Value}
theorem RRow.lt (h : RRow w p x0 x1 x2 x3) : p < w.heap.size := World.rowIs.lt h
theorem RRow.c0 (h : RRow w p x0 x1 x2 x3) : w.cell? ⟨p, 0, none⟩ = some x0 := World.rowIs.cell h (i := 0) (by omega)
theorem RRow.c1 (h : RRow w p x0 x1 x2 x3) : w.cell? ⟨p, 1, none⟩ = some x1 := World.rowIs.cell h (i := 1) (by omega)
theorem RRow.c2 (h : RRow w p x0 x1 x2 x3) : w.cell? ⟨p, 2, none⟩ = some x2 := World.rowIs.cell h (i := 2) (by omega)
theorem RRow.c3 (h : RRow w p x0 x1 x2 x3) : w.cell? ⟨p, 3, none⟩ = some x3 := World.rowIs.cell h (i := 3) (by omega)
theorem RRow.fz (h : RRow w p x0 x1 x2 x3) (o : Nat) : w.frozen? ⟨p, o, none⟩ = false := World.rowIs.frozen h o
theorem RRow.kept (h : RRow w p x0 x1 x2 x3) (k : Kept w w') : RRow w' p x0 x1 x2 x3 := World.rowIs.of_block h (k.block p h.lt)
theorem RRow.keptK {kb : Nat} (h : RRow w p x0 x1 x2 x3) (hne : p ≠ kb) (k : KeptK kb w w') : RRow w' p x0 x1 x2 x3 := World.rowIs.of_block h (k.block p h.lt hne)
end

theorem Flag.alloc (w : World) (x : Bool) : Flag (w.alloc (.cells #[.bool x] 81)) w.heap.size x :=
  World.rowIs_alloc w #[.bool x] 81 _ (fun i hi => by
    match i, hi with
    | 0, _ => rfl)

theorem pos_false {s : Bool} {l : List Nat} (h : M.Right s l) (hp : 0 < M.int s l) : s = false := by
  cases s
  · rfl
  · have := int_neg_lt (R.of_right h); omega

theorem len_pos {s : Bool} {l : List Nat} (hp : 0 < M.int s l) : 0 < l.length := by
  apply Classical.byContradiction
  intro h
  have : l = [] := List.length_eq_zero_iff.1 (by omega)
  subst this
  cases s <;> simp [M.int, M.val] at hp

theorem answer_q (kb : Nat) (x s t : Bool) (ao ap : Option Addr) (k c k' c' : Nat) (w : World) (hF : Flag w kb x) :
    Calls Try.prog 55 #[.pointer (some ⟨kb, 0, none⟩), .agg #[.bool s, .slice ao k c], .agg #[.bool t, .slice ap k' c']] w fun e w' => Kept w w' ∧ ∃ (y0 y2 : Bool) (z1 z3 : Option Addr) (j1 e1 j3 e3 : Nat) (er : Int), e = .returned (.tuple #[.agg #[.bool y0, .slice z1 j1 e1, .bool y2, .slice z3 j3 e3], .int .i64 er]) ∧ ((x = false ∧ er = 0 ∧ y0 = s ∧ z1 = ao ∧ j1 = k ∧ e1 = c ∧ y2 = t ∧ z3 = ap ∧ j3 = k' ∧ e3 = c') ∨ (x = true ∧ er = 13 ∧ y0 = false ∧ z1 = none ∧ j1 = 0 ∧ e1 = 0 ∧ y2 = false ∧ z3 = none ∧ j3 = 0 ∧ e3 = 0)) := by
  refine (answer_r kb x s t ao ap k c k' c' w hF).mono ?_
  rintro e w' ⟨h1, rfl⟩
  cases x
  · exact ⟨h1, s, t, ao, ap, k, c, k', c', 0, rfl, .inl ⟨rfl, rfl, rfl, rfl, rfl, rfl, rfl, rfl, rfl, rfl⟩⟩
  · exact ⟨h1, false, false, none, none, 0, 0, 0, 0, 13, rfl, .inr ⟨rfl, rfl, rfl, rfl, rfl, rfl, rfl, rfl, rfl, rfl⟩⟩

end F
end Go.Proofs.Ytbingbnndmmjbaa
