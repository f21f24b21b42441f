/- Boxes: variables on the heap, and what they hold in every world behind, but for a reckoning's block. shuntref02.Multiple: the least common multiple of two numbers above 0. -/
import Derived.Test.YtfpcoolkkmnngaaGal
import Derived.Deep.DeepCutAuto
import Derived.Deep.RegionHeld3
import Derived.Test.YtfpcoolkkmnngaaRset2
import Derived.Test.YtfpcoolkkmnngaaGai
namespace Go.Proofs.Ytfpcoolkkmnngaa
open Go.RowKit
namespace F

/-- A new variable of type Int at block p, still zero. -/
def ZBox (w : World) (p : Nat) : Prop := w.rowIs p 24 2 (fun i => if i = 0 then .bool false else .slice none 0 0)

theorem ZBox.alloc (w : World) : ZBox (w.alloc (.cells #[.bool false, .slice none 0 0] 24)) w.heap.size :=
  World.rowIs_alloc w #[.bool false, .slice none 0 0] 24 _ (fun i hi => by
    match i, hi with
    | 0, _ => rfl
    | 1, _ => rfl)

theorem ZBox.lt {w : World} {p : Nat} (h : ZBox w p) : p < w.heap.size := World.rowIs.lt h
theorem ZBox.c0 {w : World} {p : Nat} (h : ZBox w p) : w.cell? ⟨p, 0, none⟩ = some (.bool false) := World.rowIs.cell h (i := 0) (by omega)
theorem ZBox.c1 {w : World} {p : Nat} (h : ZBox w p) : w.cell? ⟨p, 1, none⟩ = some (.slice none 0 0) := World.rowIs.cell h (i := 1) (by omega)
theorem ZBox.fz {w : World} {p : Nat} (h : ZBox w p) (o : Nat) : w.frozen? ⟨p, o, none⟩ = false := World.rowIs.frozen h o
theorem ZBox.keptK {kb p : Nat} {w w' : World} (h : ZBox w p) (hne : p ≠ kb) (k : KeptK kb w w') : ZBox w' p := World.rowIs.of_block h (k.block p h.lt hne)
theorem ZBox.kept {p : Nat} {w w' : World} (h : ZBox w p) (k : Kept w w') : ZBox w' p := World.rowIs.of_block h (k.block p h.lt)
theorem ZBox.far {w : World} {p q : Nat} (h : ZBox w p) (hne : p ≠ q) (x y : Value) : ZBox ((w.setCell ⟨q, 0, none⟩ x).setCell ⟨q, 1, none⟩ y) p :=
  World.rowIs.setOther (World.rowIs.setOther h hne x) hne y

theorem KeptK.set2 {kb p : Nat} {a b : World} (h : KeptK kb a b) (hp : a.heap.size ≤ p) (x y : Value) : KeptK kb a ((b.setCell ⟨p, 0, none⟩ x).setCell ⟨p, 1, none⟩ y) := (h.setNew hp x).setNew hp y

theorem Flag.set2 {w : World} {kb p : Nat} {x : Bool} (h : Flag w kb x) (hp : p ≠ kb) (u v : Value) : Flag ((w.setCell ⟨p, 0, Option.none⟩ u).setCell ⟨p, 1, Option.none⟩ v) kb x :=
  (h.other (fun e => hp e.symm) u).other (fun e => hp e.symm) v

theorem New.box2 {B p : Nat} {w : World} {v : Value} {l : List Nat} (h : New B w v l) (hz : ZBox w p) (x y : Value) : New B ((w.setCell ⟨p, 0, none⟩ x).setCell ⟨p, 1, none⟩ y) v l := by
  obtain ⟨hb, ⟨rfl, rfl⟩ | ⟨b, N, f, rfl, hB, hN, hr, hf⟩⟩ := h
  · exact ⟨hb, .inl ⟨rfl, rfl⟩⟩
  · have hne : b ≠ p := by
      intro e
      subst e
      obtain ⟨c, h1, _, _⟩ := hr
      obtain ⟨c', h2, _, _⟩ := hz
      rw [h1] at h2
      simp at h2
    exact ⟨hb, .inr ⟨b, N, f, rfl, hB, hN, World.rowIs.setOther (World.rowIs.setOther hr hne x) hne y, hf⟩⟩

theorem set2_far {W : World} {p c o : Nat} {v x y : Value} (h : W.cell? ⟨c, o, none⟩ = some v) (hne : ¬ p = c) : ((W.setCell ⟨p, 0, none⟩ x).setCell ⟨p, 1, none⟩ y).cell? ⟨c, o, none⟩ = some v := by
  rw [World.cell?_setCell_far _ _ _ _ hne, World.cell?_setCell_far _ _ _ _ hne]; exact h

theorem set2_at {W : World} {p : Nat} {u v x y : Value} (h0 : W.cell? ⟨p, 0, none⟩ = some u) (h1 : W.cell? ⟨p, 1, none⟩ = some v) : ((W.setCell ⟨p, 0, none⟩ x).setCell ⟨p, 1, none⟩ y).cell? ⟨p, 0, none⟩ = some x ∧ ((W.setCell ⟨p, 0, none⟩ x).setCell ⟨p, 1, none⟩ y).cell? ⟨p, 1, none⟩ = some y :=
  ⟨by rw [World.cell?_setCell_other _ _ _ _ (by simp)]; exact World.cell?_setCell_same _ _ _ h0, World.cell?_setCell_same _ _ _ (by rw [World.cell?_setCell_other _ _ _ _ (by simp)]; exact h1)⟩

/-- The variable at block p holds an Int that reads as l, in W and in every world behind. -/
def Box (kb : Nat) (W : World) (p : Nat) (s : Bool) (ao : Option Addr) (k c : Nat) (l : List Nat) : Prop :=
  ∀ V, KeptK kb W V → (V.cell? ⟨p, 0, none⟩ = some (.bool s) ∧ V.cell? ⟨p, 1, none⟩ = some (.slice ao k c)) ∧ Sl V (.slice ao k c) l

section
variable {kb p k c : Nat} {W V : World} {s x : Bool} {ao : Option Addr} {l : List Nat}
theorem Box.mv {W' : World} (h : Box kb W p s ao k c l) (hk : KeptK kb W W') : Box kb W' p s ao k c l := fun V hV => h V (hk.trans hV)
theorem Box.c0 (h : Box kb W p s ao k c l) (hk : KeptK kb W V) : V.cell? ⟨p, 0, none⟩ = some (.bool s) := (h V hk).1.1
theorem Box.c1 (h : Box kb W p s ao k c l) (hk : KeptK kb W V) : V.cell? ⟨p, 1, none⟩ = some (.slice ao k c) := (h V hk).1.2
theorem Box.sl (h : Box kb W p s ao k c l) (hk : KeptK kb W V) : Sl V (.slice ao k c) l := (h V hk).2
theorem Box.mk (hF : Flag W kb x) (hne : p ≠ kb) (h0 : W.cell? ⟨p, 0, none⟩ = some (.bool s)) (h1 : W.cell? ⟨p, 1, none⟩ = some (.slice ao k c)) (hs : Sl W (.slice ao k c) l) : Box kb W p s ao k c l :=
  fun _ hV => ⟨⟨cell_keptK hV hne h0, cell_keptK hV hne h1⟩, Sl.keptK hF hs hV⟩
end

/-- The variable at block p holds a Rat whose parts read as a and d. -/
def RBox (kb : Nat) (W : World) (p : Nat) (m : Bool) (ao : Option Addr) (k c : Nat) (n : Bool) (ap : Option Addr) (k' c' : Nat) (a d : List Nat) : Prop :=
  ∀ V, KeptK kb W V → (V.cell? ⟨p, 0, none⟩ = some (.bool m) ∧ V.cell? ⟨p, 1, none⟩ = some (.slice ao k c) ∧ V.cell? ⟨p, 2, none⟩ = some (.bool n) ∧ V.cell? ⟨p, 3, none⟩ = some (.slice ap k' c')) ∧ Sl V (.slice ao k c) a ∧ Sl V (.slice ap k' c') d

section
variable {kb p k c k' c' : Nat} {W V : World} {m n x : Bool} {ao ap : Option Addr} {a d : List Nat}
theorem RBox.mv {W' : World} (h : RBox kb W p m ao k c n ap k' c' a d) (hk : KeptK kb W W') : RBox kb W' p m ao k c n ap k' c' a d := fun V hV => h V (hk.trans hV)
theorem RBox.c0 (h : RBox kb W p m ao k c n ap k' c' a d) (hk : KeptK kb W V) : V.cell? ⟨p, 0, none⟩ = some (.bool m) := (h V hk).1.1
theorem RBox.c1 (h : RBox kb W p m ao k c n ap k' c' a d) (hk : KeptK kb W V) : V.cell? ⟨p, 1, none⟩ = some (.slice ao k c) := (h V hk).1.2.1
theorem RBox.c2 (h : RBox kb W p m ao k c n ap k' c' a d) (hk : KeptK kb W V) : V.cell? ⟨p, 2, none⟩ = some (.bool n) := (h V hk).1.2.2.1
theorem RBox.c3 (h : RBox kb W p m ao k c n ap k' c' a d) (hk : KeptK kb W V) : V.cell? ⟨p, 3, none⟩ = some (.slice ap k' c') := (h V hk).1.2.2.2
theorem RBox.sn (h : RBox kb W p m ao k c n ap k' c' a d) (hk : KeptK kb W V) : Sl V (.slice ao k c) a := (h V hk).2.1
theorem RBox.sd (h : RBox kb W p m ao k c n ap k' c' a d) (hk : KeptK kb W V) : Sl V (.slice ap k' c') d := (h V hk).2.2
theorem RBox.mk (hF : Flag W kb x) (hne : p ≠ kb) (h0 : W.cell? ⟨p, 0, none⟩ = some (.bool m)) (h1 : W.cell? ⟨p, 1, none⟩ = some (.slice ao k c)) (h2 : W.cell? ⟨p, 2, none⟩ = some (.bool n)) (h3 : W.cell? ⟨p, 3, none⟩ = some (.slice ap k' c')) (ha : Sl W (.slice ao k c) a) (hd : Sl W (.slice ap k' c') d) : RBox kb W p m ao k c n ap k' c' a d :=
  fun _ hV => ⟨⟨cell_keptK hV hne h0, cell_keptK hV hne h1, cell_keptK hV hne h2, cell_keptK hV hne h3⟩, Sl.keptK hF ha hV, Sl.keptK hF hd hV⟩
end

end F
end Go.Proofs.Ytfpcoolkkmnngaa

namespace Go.Proofs.Ytfpcoolkkmnngaa
open Go.RowKit
namespace F

/-- A new variable of the reference's, still zero. -/
def ZN (w : World) (p : Nat) : Prop := w.rowIs p 56 2 (fun i => if i = 0 then .bool false else .slice none 0 0)
theorem ZN.alloc (w : World) : ZN (w.alloc (.cells #[.bool false, .slice none 0 0] 56)) w.heap.size :=
  World.rowIs_alloc w #[.bool false, .slice none 0 0] 56 _ (fun i hi => by
    match i, hi with
    | 0, _ => rfl
    | 1, _ => rfl)
theorem ZN.lt {w : World} {p : Nat} (h : ZN w p) : p < w.heap.size := World.rowIs.lt h
theorem ZN.c0 {w : World} {p : Nat} (h : ZN w p) : w.cell? ⟨p, 0, none⟩ = some (.bool false) := World.rowIs.cell h (i := 0) (by omega)
theorem ZN.c1 {w : World} {p : Nat} (h : ZN w p) : w.cell? ⟨p, 1, none⟩ = some (.slice none 0 0) := World.rowIs.cell h (i := 1) (by omega)
theorem ZN.fz {w : World} {p : Nat} (h : ZN w p) (o : Nat) : w.frozen? ⟨p, o, none⟩ = false := World.rowIs.frozen h o
theorem ZN.kept {p : Nat} {w w' : World} (h : ZN w p) (k : Kept w w') : ZN w' p := World.rowIs.of_block h (k.block p h.lt)
theorem ZN.far {w : World} {p q : Nat} (h : ZN w p) (hne : ¬ p = q) (x y : Value) : ZN ((w.setCell ⟨q, 0, none⟩ x).setCell ⟨q, 1, none⟩ y) p :=
  World.rowIs.setOther (World.rowIs.setOther h hne x) hne y

theorem mult_val {x y : Int} (hx : 0 < x) (hy : 0 < y) : x * Int.tdiv y ((Nat.gcd x.natAbs y.natAbs : Nat) : Int) = ((Nat.lcm x.natAbs y.natAbs : Nat) : Int) := by
  obtain ⟨a, rfl⟩ : ∃ a : Nat, x = a := ⟨x.natAbs, by omega⟩
  obtain ⟨b, rfl⟩ : ∃ b : Nat, y = b := ⟨y.natAbs, by omega⟩
  rw [Int.natAbs_natCast, Int.natAbs_natCast, ← Int.ofNat_tdiv]
  have h := lcm_own (a := a) (b := b) (o := b / Nat.gcd a b) (by omega) (Nat.div_mul_cancel (Nat.gcd_dvd_right _ _))
  rw [← h]
  simp

set_option maxRecDepth 100000 in
set_option maxHeartbeats 4000000 in
theorem Multiple_any (m n : Bool) (aoa aob : Option Addr) (ka ca kb cb : Nat) (x y : Int) (w : World) (ha : D.NIs w m (.slice aoa ka ca) x) (hb : D.NIs w n (.slice aob kb cb) y) (hla : ka ≤ 1000) (hlb : kb ≤ 1000) (hx : 0 < x) (hy : 0 < y) :
    Calls Try.prog 32 #[.agg #[.bool m, .slice aoa ka ca], .agg #[.bool n, .slice aob kb cb]] w fun e w' => Kept w w' ∧ ∃ s ao k c, e = .returned (.agg #[.bool s, .slice ao k c]) ∧ D.NIs w' s (.slice ao k c) ((Nat.lcm x.natAbs y.natAbs : Nat) : Int) ∧ k ≤ ka + kb := by
  have HG : Hid (((Nat.gcd x.natAbs y.natAbs : Nat) : Int) ≠ 0) := by
    have := Nat.gcd_pos_of_pos_left (y.natAbs) (show 0 < x.natAbs by omega)
    show _ ≠ _; omega
  have HM := hid' (mult_val hx hy)
  have HA : Hid (D.NIs w m (.slice aoa ka ca) x ∧ D.NIs w n (.slice aob kb cb) y ∧ 0 < x ∧ 0 < y) := ⟨ha, hb, hx, hy⟩
  have HL : Hid (ka ≤ 1000 ∧ kb ≤ 1000) := ⟨hla, hlb⟩
  clear ha hb hx hy hla hlb
  go_enter Try.func32, Try.ntmps32
  go_upto_region 1 with fail
  have hK : Kept w (((w.alloc (.cells #[.bool m, .slice aoa ka ca] 56)).alloc (.cells #[.bool n, .slice aob kb cb] 56)).alloc (.cells #[.bool false, .slice none 0 0] 56)) := (((Kept.refl w).alloc _).alloc _).alloc _
  have hY := box_kept3 (Kept.refl (((w.alloc (.cells #[.bool m, .slice aoa ka ca] 56)).alloc (.cells #[.bool n, .slice aob kb cb] 56)).alloc (.cells #[.bool false, .slice none 0 0] 56)))
  have z4 : ZN (((w.alloc (.cells #[.bool m, .slice aoa ka ca] 56)).alloc (.cells #[.bool n, .slice aob kb cb] 56)).alloc (.cells #[.bool false, .slice none 0 0] 56)) (w.heap.size + 1 + 1) := by
    have h := ZN.alloc ((w.alloc (.cells #[.bool m, .slice aoa ka ca] 56)).alloc (.cells #[.bool n, .slice aob kb cb] 56))
    simp only [World.size_alloc] at h
    exact h
  generalize ((w.alloc (.cells #[.bool m, .slice aoa ka ca] 56)).alloc (.cells #[.bool n, .slice aob kb cb] 56)).alloc (.cells #[.bool false, .slice none 0 0] 56) = W at hK hY z4 ⊢
  obtain ⟨i1, i2, i3, i4, -, -⟩ := hY
  have z4l := z4.lt
  obtain ⟨p4, hp4⟩ : ∃ p, p = w.heap.size + 1 + 1 := ⟨_, rfl⟩
  rw [← hp4] at z4 z4l ⊢
  obtain ⟨p3, hp3⟩ : ∃ p, p = w.heap.size + 1 := ⟨_, rfl⟩
  rw [← hp3] at i3 i4 ⊢
  obtain ⟨p2, hp2⟩ : ∃ p, p = w.heap.size := ⟨_, rfl⟩
  rw [← hp2] at i1 i2 ⊢
  have HV : Hid (∀ V, Kept W V → (V.cell? ⟨p2, 0, none⟩ = some (.bool m) ∧ V.cell? ⟨p2, 1, none⟩ = some (.slice aoa ka ca)) ∧ (V.cell? ⟨p3, 0, none⟩ = some (.bool n) ∧ V.cell? ⟨p3, 1, none⟩ = some (.slice aob kb cb)) ∧ ZN V p4) := fun V hV =>
    ⟨⟨cell_kept hV i1, cell_kept hV i2⟩, ⟨cell_kept hV i3, cell_kept hV i4⟩, z4.kept hV⟩
  have HKW := hid' hK
  have HP : Hid (w.heap.size ≤ p4 ∧ p4 < W.heap.size ∧ ¬ p4 = p2) := ⟨by omega, z4l, by omega⟩
  clear hK i1 i2 i3 i4 z4 z4l hp2 hp3 hp4
  go_cut [5] (fun s5 wc => ∃ (p5 : Nat) (sq : Bool) (aq : Option Addr) (kq cq : Nat), s5 = .pointer (some ⟨p5, 0, none⟩) ∧ Hid (Kept W wc ∧ (wc.cell? ⟨p5, 0, none⟩ = some (.bool sq) ∧ wc.cell? ⟨p5, 1, none⟩ = some (.slice aq kq cq)) ∧ D.NIs wc sq (.slice aq kq cq) (Int.tdiv y ((Nat.gcd x.natAbs y.natAbs : Nat) : Int)) ∧ kq ≤ kb ∧ W.heap.size ≤ p5))
  case first =>
    have KT : Kept W W.drew := (Kept.refl _).drew
    refine wp_region_held_drew (S := fun w' => w'.cell? ⟨p2, 0, none⟩ = some (.bool m) ∧ w'.cell? ⟨p2, 1, none⟩ = some (.slice aoa ka ca) ∧ w'.cell? ⟨p3, 0, none⟩ = some (.bool n) ∧ w'.cell? ⟨p3, 1, none⟩ = some (.slice aob kb cb)) (by kernel_rfl) ⟨(HV.out _ KT).1.1, (HV.out _ KT).1.2, (HV.out _ KT).2.1.1, (HV.out _ KT).2.1.2⟩ (fun hHeld => ?_)
    generalize W.drew = Wd at KT hHeld ⊢
    refine wpAnyH_take (i := 0) (v := ?vux0x1) rfl (by kernel_rfl) (by kernel_rfl) (by kernel_rfl) (fun _ _ _ h => h) (Or.inl ⟨by rfl, ?yux0x1⟩) hHeld ?rux0x1
    case yux0x1 =>
      intro w' hSw
      obtain ⟨hSw0, hSw1, hSw2, hSw3⟩ := hSw
      go_simp
      with_reducible rfl
    case rux0x1 =>
    refine wpAnyH_take (i := 1) (v := ?vux1x2) rfl (by kernel_rfl) (by kernel_rfl) (by kernel_rfl) (fun _ _ _ h => h) (Or.inl ⟨by rfl, ?yux1x2⟩) hHeld ?rux1x2
    case yux1x2 =>
      intro w' hSw
      obtain ⟨hSw0, hSw1, hSw2, hSw3⟩ := hSw
      go_simp
      with_reducible rfl
    case rux1x2 =>
    refine wpAnyH_take (i := 2) (v := ?vux2x3) rfl (by kernel_rfl) (by kernel_rfl) (by kernel_rfl) (fun _ _ _ h => h) (Or.inl ⟨by rfl, ?yux2x3⟩) hHeld ?rux2x3
    case yux2x3 =>
      intro w' hSw
      obtain ⟨hSw0, hSw1, hSw2, hSw3⟩ := hSw
      go_simp
      with_reducible rfl
    case rux2x3 =>
    refine wpAnyH_ready (rs := [3, 8, 9]) (by kernel_rfl) (by simp) ?_
    refine AllReadyH.cons rfl (fun K hK => ?_) ?_
    · go_simp
      refine (D.Common_any m n aoa aob ka kb ca cb x y _ (HA.out.1.kept (HKW.out.trans KT)) (HA.out.2.1.kept (HKW.out.trans KT)) HL.out.1 HL.out.2).mono ?_
      rintro e wg ⟨hkg, ag, kg, cg, rfl, ng, lg⟩
      have HLg := hid' lg
      clear lg
      refine hK.out _ _ ⟨(HV.out _ (KT.trans hkg)).1.1, (HV.out _ (KT.trans hkg)).1.2, (HV.out _ (KT.trans hkg)).2.1.1, (HV.out _ (KT.trans hkg)).2.1.2⟩ (fun hHeld => ?_)
      clear hK K
      have KT := KT.trans hkg
      refine wpAnyH_ready (rs := [4, 8, 9]) (by kernel_rfl) (by simp) ?_
      refine AllReadyH.cons rfl (fun K hK => ?_) ?_
      · go_simp
        refine (D.Divide_any n false aob ag kb kg cb cg y _ _ (HA.out.2.1.kept (HKW.out.trans KT)) ng HL.out.2 (by have h1 := HLg.out; have h2 := HL.out; omega) HG.out).mono ?_
        rintro e wq ⟨hkq, sq, aq, kq, cq, tq, ar, kr, cr, rfl, nq, nr, lq, lr⟩
        have HLq := hid' lq
        clear lq lr
        refine hK.out _ _ ⟨(HV.out _ (KT.trans hkq)).1.1, (HV.out _ (KT.trans hkq)).1.2, (HV.out _ (KT.trans hkq)).2.1.1, (HV.out _ (KT.trans hkq)).2.1.2⟩ (fun hHeld => ?_)
        clear hK K
        have ng := D.NIs.kept ng hkq
        have KT := KT.trans hkq
        refine wpAnyH_take (i := 5) (v := ?vux5x4) rfl (by kernel_rfl) (by kernel_rfl) (by kernel_rfl) (fun _ _ _ h => h) (Or.inl ⟨by rfl, ?yux5x4⟩) hHeld ?rux5x4
        case yux5x4 =>
          intro w' hSw
          obtain ⟨hSw0, hSw1, hSw2, hSw3⟩ := hSw
          go_simp
          with_reducible rfl
        case rux5x4 =>
        refine wpAnyH_take (i := 6) (v := ?vux6x5) rfl (by kernel_rfl) (by kernel_rfl) (by kernel_rfl) (fun _ _ _ h => h) (Or.inl ⟨by rfl, ?yux6x5⟩) hHeld ?rux6x5
        case yux6x5 =>
          intro w' hSw
          obtain ⟨hSw0, hSw1, hSw2, hSw3⟩ := hSw
          go_simp
          with_reducible rfl
        case rux6x5 =>
        refine wpAnyH_take (i := 7) (v := ?vux7x6) rfl (by kernel_rfl) (by kernel_rfl) (by kernel_rfl) (fun _ _ _ h => h) (Or.inl ⟨by rfl, ?yux7x6⟩) hHeld ?rux7x6
        case yux7x6 =>
          intro w' hSw
          obtain ⟨hSw0, hSw1, hSw2, hSw3⟩ := hSw
          go_simp
          with_reducible rfl
        case rux7x6 =>
        refine wpAnyH_ready (rs := [8, 9]) (by kernel_rfl) (by simp) ?_
        refine AllReadyH.cons rfl (fun K hK => ?_) ?_
        · go_simp
          refine hK.out _ _ ⟨(HV.out _ (KT.alloc _)).1.1, (HV.out _ (KT.alloc _)).1.2, (HV.out _ (KT.alloc _)).2.1.1, (HV.out _ (KT.alloc _)).2.1.2⟩ (fun hHeld => ?_)
          clear hK K
          have zp5 : ZN (wq.alloc (.cells #[.bool false, .slice none 0 0] 56)) wq.heap.size := ZN.alloc _
          have hgp5 : W.heap.size ≤ wq.heap.size := KT.size
          have ng := D.NIs.kept ng ((Kept.refl wq).alloc (.cells #[.bool false, .slice none 0 0] 56))
          have nq := D.NIs.kept nq ((Kept.refl wq).alloc (.cells #[.bool false, .slice none 0 0] 56))
          have KT := KT.alloc (.cells #[.bool false, .slice none 0 0] 56)
          obtain ⟨p5, hpp5⟩ : ∃ p, p = wq.heap.size := ⟨_, rfl⟩
          rw [← hpp5] at zp5 hgp5  ⊢
          generalize wq.alloc (.cells #[.bool false, .slice none 0 0] 56) = Wa8 at zp5  ng nq KT hHeld ⊢
          clear hpp5
          refine wpAnyH_ready (rs := [9]) (by kernel_rfl) (by simp) ?_
          refine AllReadyH.cons rfl (fun K hK => ?_) AllReadyH.nil
          go_simp
          refine hK.out _ _ ⟨(HV.out _ (KT.alloc _)).1.1, (HV.out _ (KT.alloc _)).1.2, (HV.out _ (KT.alloc _)).2.1.1, (HV.out _ (KT.alloc _)).2.1.2⟩ (fun hHeld => ?_)
          clear hK K
          have zp6 : ZN (Wa8.alloc (.cells #[.bool false, .slice none 0 0] 56)) Wa8.heap.size := ZN.alloc _
          have hgp6 : W.heap.size ≤ Wa8.heap.size := KT.size
          have dp6p5 : ¬ (Wa8.heap.size = p5) := by have := zp5.lt; omega
          have dp5p6 : ¬ (p5 = Wa8.heap.size) := by have := zp5.lt; omega
          have zp5 := zp5.kept ((Kept.refl Wa8).alloc (.cells #[.bool false, .slice none 0 0] 56))
          have ng := D.NIs.kept ng ((Kept.refl Wa8).alloc (.cells #[.bool false, .slice none 0 0] 56))
          have nq := D.NIs.kept nq ((Kept.refl Wa8).alloc (.cells #[.bool false, .slice none 0 0] 56))
          have KT := KT.alloc (.cells #[.bool false, .slice none 0 0] 56)
          obtain ⟨p6, hpp6⟩ : ∃ p, p = Wa8.heap.size := ⟨_, rfl⟩
          rw [← hpp6] at zp6 hgp6 dp6p5 dp5p6 ⊢
          generalize Wa8.alloc (.cells #[.bool false, .slice none 0 0] 56) = Wa9 at zp6 zp5 ng nq KT hHeld ⊢
          clear hpp6
          have cp50 := zp5.c0
          have cp51 := zp5.c1
          have gp50 := zp5.fz 0
          have gp51 := zp5.fz 1
          refine wpAnyH_ready (rs := [10]) (by kernel_rfl) (by simp) ?_
          refine AllReadyH.cons rfl (fun K hK => ?_) AllReadyH.nil
          go_simp
          refine hK.out _ _ ⟨(HV.out _ ((KT.setCell hgp5 _).setCell hgp5 _)).1.1, (HV.out _ ((KT.setCell hgp5 _).setCell hgp5 _)).1.2, (HV.out _ ((KT.setCell hgp5 _).setCell hgp5 _)).2.1.1, (HV.out _ ((KT.setCell hgp5 _).setCell hgp5 _)).2.1.2⟩ (fun hHeld => ?_)
          clear hK K
          have ep5 := set2_at (x := (.bool sq)) (y := (.slice aq kq cq)) cp50 cp51
          have ng := D.NIs.box2 ng cp50 cp51 (.bool sq) (.slice aq kq cq)
          have nq := D.NIs.box2 nq cp50 cp51 (.bool sq) (.slice aq kq cq)
          have KT := (KT.setCell (p := ⟨p5, 0, none⟩) hgp5 (.bool sq)).setCell (p := ⟨p5, 1, none⟩) hgp5 (.slice aq kq cq)
          have zp6 := zp6.far dp6p5 (.bool sq) (.slice aq kq cq)
          clear cp50 cp51 gp50 gp51
          generalize ((Wa9.setCell ⟨p5, 0, none⟩ (.bool sq)).setCell ⟨p5, 1, none⟩ (.slice aq kq cq)) = Ws0 at ep5 zp6 ng nq KT hHeld ⊢
          have cp60 := zp6.c0
          have cp61 := zp6.c1
          have gp60 := zp6.fz 0
          have gp61 := zp6.fz 1
          refine wpAnyH_ready (rs := [11]) (by kernel_rfl) (by simp) ?_
          refine AllReadyH.cons rfl (fun K hK => ?_) AllReadyH.nil
          go_simp
          refine hK.out _ _ ⟨(HV.out _ ((KT.setCell hgp6 _).setCell hgp6 _)).1.1, (HV.out _ ((KT.setCell hgp6 _).setCell hgp6 _)).1.2, (HV.out _ ((KT.setCell hgp6 _).setCell hgp6 _)).2.1.1, (HV.out _ ((KT.setCell hgp6 _).setCell hgp6 _)).2.1.2⟩ (fun hHeld => ?_)
          clear hK K
          have ep6 := set2_at (x := (.bool tq)) (y := (.slice ar kr cr)) cp60 cp61
          have ep5 := And.intro (set2_far (x := (.bool tq)) (y := (.slice ar kr cr)) ep5.1 dp6p5) (set2_far (x := (.bool tq)) (y := (.slice ar kr cr)) ep5.2 dp6p5)
          have ng := D.NIs.box2 ng cp60 cp61 (.bool tq) (.slice ar kr cr)
          have nq := D.NIs.box2 nq cp60 cp61 (.bool tq) (.slice ar kr cr)
          have KT := (KT.setCell (p := ⟨p6, 0, none⟩) hgp6 (.bool tq)).setCell (p := ⟨p6, 1, none⟩) hgp6 (.slice ar kr cr)
          clear cp60 cp61 gp60 gp61
          generalize ((Ws0.setCell ⟨p6, 0, none⟩ (.bool tq)).setCell ⟨p6, 1, none⟩ (.slice ar kr cr)) = Ws1 at ep5 ep6  ng nq KT hHeld ⊢
          refine wpAnyH_done (by kernel_rfl) ?_ _
          go_wp2_with fail
          go_meet
          case rel => exact ⟨p5, sq, aq, kq, cq, rfl, KT, ep5, nq, HLq.out, hgp5⟩
        refine AllReadyH.cons rfl (fun K hK => ?_) AllReadyH.nil
        go_simp
        refine hK.out _ _ ⟨(HV.out _ (KT.alloc _)).1.1, (HV.out _ (KT.alloc _)).1.2, (HV.out _ (KT.alloc _)).2.1.1, (HV.out _ (KT.alloc _)).2.1.2⟩ (fun hHeld => ?_)
        clear hK K
        have zp6 : ZN (wq.alloc (.cells #[.bool false, .slice none 0 0] 56)) wq.heap.size := ZN.alloc _
        have hgp6 : W.heap.size ≤ wq.heap.size := KT.size
        have ng := D.NIs.kept ng ((Kept.refl wq).alloc (.cells #[.bool false, .slice none 0 0] 56))
        have nq := D.NIs.kept nq ((Kept.refl wq).alloc (.cells #[.bool false, .slice none 0 0] 56))
        have KT := KT.alloc (.cells #[.bool false, .slice none 0 0] 56)
        obtain ⟨p6, hpp6⟩ : ∃ p, p = wq.heap.size := ⟨_, rfl⟩
        rw [← hpp6] at zp6 hgp6  ⊢
        generalize wq.alloc (.cells #[.bool false, .slice none 0 0] 56) = Wa9 at zp6  ng nq KT hHeld ⊢
        clear hpp6
        refine wpAnyH_ready (rs := [8]) (by kernel_rfl) (by simp) ?_
        refine AllReadyH.cons rfl (fun K hK => ?_) AllReadyH.nil
        go_simp
        refine hK.out _ _ ⟨(HV.out _ (KT.alloc _)).1.1, (HV.out _ (KT.alloc _)).1.2, (HV.out _ (KT.alloc _)).2.1.1, (HV.out _ (KT.alloc _)).2.1.2⟩ (fun hHeld => ?_)
        clear hK K
        have zp5 : ZN (Wa9.alloc (.cells #[.bool false, .slice none 0 0] 56)) Wa9.heap.size := ZN.alloc _
        have hgp5 : W.heap.size ≤ Wa9.heap.size := KT.size
        have dp5p6 : ¬ (Wa9.heap.size = p6) := by have := zp6.lt; omega
        have dp6p5 : ¬ (p6 = Wa9.heap.size) := by have := zp6.lt; omega
        have zp6 := zp6.kept ((Kept.refl Wa9).alloc (.cells #[.bool false, .slice none 0 0] 56))
        have ng := D.NIs.kept ng ((Kept.refl Wa9).alloc (.cells #[.bool false, .slice none 0 0] 56))
        have nq := D.NIs.kept nq ((Kept.refl Wa9).alloc (.cells #[.bool false, .slice none 0 0] 56))
        have KT := KT.alloc (.cells #[.bool false, .slice none 0 0] 56)
        obtain ⟨p5, hpp5⟩ : ∃ p, p = Wa9.heap.size := ⟨_, rfl⟩
        rw [← hpp5] at zp5 hgp5 dp5p6 dp6p5 ⊢
        generalize Wa9.alloc (.cells #[.bool false, .slice none 0 0] 56) = Wa8 at zp5 zp6 ng nq KT hHeld ⊢
        clear hpp5
        have cp50 := zp5.c0
        have cp51 := zp5.c1
        have gp50 := zp5.fz 0
        have gp51 := zp5.fz 1
        refine wpAnyH_ready (rs := [10]) (by kernel_rfl) (by simp) ?_
        refine AllReadyH.cons rfl (fun K hK => ?_) AllReadyH.nil
        go_simp
        refine hK.out _ _ ⟨(HV.out _ ((KT.setCell hgp5 _).setCell hgp5 _)).1.1, (HV.out _ ((KT.setCell hgp5 _).setCell hgp5 _)).1.2, (HV.out _ ((KT.setCell hgp5 _).setCell hgp5 _)).2.1.1, (HV.out _ ((KT.setCell hgp5 _).setCell hgp5 _)).2.1.2⟩ (fun hHeld => ?_)
        clear hK K
        have ep5 := set2_at (x := (.bool sq)) (y := (.slice aq kq cq)) cp50 cp51
        have ng := D.NIs.box2 ng cp50 cp51 (.bool sq) (.slice aq kq cq)
        have nq := D.NIs.box2 nq cp50 cp51 (.bool sq) (.slice aq kq cq)
        have KT := (KT.setCell (p := ⟨p5, 0, none⟩) hgp5 (.bool sq)).setCell (p := ⟨p5, 1, none⟩) hgp5 (.slice aq kq cq)
        have zp6 := zp6.far dp6p5 (.bool sq) (.slice aq kq cq)
        clear cp50 cp51 gp50 gp51
        generalize ((Wa8.setCell ⟨p5, 0, none⟩ (.bool sq)).setCell ⟨p5, 1, none⟩ (.slice aq kq cq)) = Ws0 at ep5 zp6 ng nq KT hHeld ⊢
        have cp60 := zp6.c0
        have cp61 := zp6.c1
        have gp60 := zp6.fz 0
        have gp61 := zp6.fz 1
        refine wpAnyH_ready (rs := [11]) (by kernel_rfl) (by simp) ?_
        refine AllReadyH.cons rfl (fun K hK => ?_) AllReadyH.nil
        go_simp
        refine hK.out _ _ ⟨(HV.out _ ((KT.setCell hgp6 _).setCell hgp6 _)).1.1, (HV.out _ ((KT.setCell hgp6 _).setCell hgp6 _)).1.2, (HV.out _ ((KT.setCell hgp6 _).setCell hgp6 _)).2.1.1, (HV.out _ ((KT.setCell hgp6 _).setCell hgp6 _)).2.1.2⟩ (fun hHeld => ?_)
        clear hK K
        have ep6 := set2_at (x := (.bool tq)) (y := (.slice ar kr cr)) cp60 cp61
        have ep5 := And.intro (set2_far (x := (.bool tq)) (y := (.slice ar kr cr)) ep5.1 dp6p5) (set2_far (x := (.bool tq)) (y := (.slice ar kr cr)) ep5.2 dp6p5)
        have ng := D.NIs.box2 ng cp60 cp61 (.bool tq) (.slice ar kr cr)
        have nq := D.NIs.box2 nq cp60 cp61 (.bool tq) (.slice ar kr cr)
        have KT := (KT.setCell (p := ⟨p6, 0, none⟩) hgp6 (.bool tq)).setCell (p := ⟨p6, 1, none⟩) hgp6 (.slice ar kr cr)
        clear cp60 cp61 gp60 gp61
        generalize ((Ws0.setCell ⟨p6, 0, none⟩ (.bool tq)).setCell ⟨p6, 1, none⟩ (.slice ar kr cr)) = Ws1 at ep5 ep6  ng nq KT hHeld ⊢
        refine wpAnyH_done (by kernel_rfl) ?_ _
        go_wp2_with fail
        go_meet
        case rel => exact ⟨p5, sq, aq, kq, cq, rfl, KT, ep5, nq, HLq.out, hgp5⟩
      refine AllReadyH.cons rfl (fun K hK => ?_) ?_
      · go_simp
        refine hK.out _ _ ⟨(HV.out _ (KT.alloc _)).1.1, (HV.out _ (KT.alloc _)).1.2, (HV.out _ (KT.alloc _)).2.1.1, (HV.out _ (KT.alloc _)).2.1.2⟩ (fun hHeld => ?_)
        clear hK K
        have zp5 : ZN (wg.alloc (.cells #[.bool false, .slice none 0 0] 56)) wg.heap.size := ZN.alloc _
        have hgp5 : W.heap.size ≤ wg.heap.size := KT.size
        have ng := D.NIs.kept ng ((Kept.refl wg).alloc (.cells #[.bool false, .slice none 0 0] 56))
        have KT := KT.alloc (.cells #[.bool false, .slice none 0 0] 56)
        obtain ⟨p5, hpp5⟩ : ∃ p, p = wg.heap.size := ⟨_, rfl⟩
        rw [← hpp5] at zp5 hgp5  ⊢
        generalize wg.alloc (.cells #[.bool false, .slice none 0 0] 56) = Wa8 at zp5  ng KT hHeld ⊢
        clear hpp5
        refine wpAnyH_ready (rs := [4, 9]) (by kernel_rfl) (by simp) ?_
        refine AllReadyH.cons rfl (fun K hK => ?_) ?_
        · go_simp
          refine (D.Divide_any n false aob ag kb kg cb cg y _ _ (HA.out.2.1.kept (HKW.out.trans KT)) ng HL.out.2 (by have h1 := HLg.out; have h2 := HL.out; omega) HG.out).mono ?_
          rintro e wq ⟨hkq, sq, aq, kq, cq, tq, ar, kr, cr, rfl, nq, nr, lq, lr⟩
          have HLq := hid' lq
          clear lq lr
          refine hK.out _ _ ⟨(HV.out _ (KT.trans hkq)).1.1, (HV.out _ (KT.trans hkq)).1.2, (HV.out _ (KT.trans hkq)).2.1.1, (HV.out _ (KT.trans hkq)).2.1.2⟩ (fun hHeld => ?_)
          clear hK K
          have zp5 := zp5.kept hkq
          have ng := D.NIs.kept ng hkq
          have KT := KT.trans hkq
          refine wpAnyH_take (i := 5) (v := ?vux5x7) rfl (by kernel_rfl) (by kernel_rfl) (by kernel_rfl) (fun _ _ _ h => h) (Or.inl ⟨by rfl, ?yux5x7⟩) hHeld ?rux5x7
          case yux5x7 =>
            intro w' hSw
            obtain ⟨hSw0, hSw1, hSw2, hSw3⟩ := hSw
            go_simp
            with_reducible rfl
          case rux5x7 =>
          refine wpAnyH_take (i := 6) (v := ?vux6x8) rfl (by kernel_rfl) (by kernel_rfl) (by kernel_rfl) (fun _ _ _ h => h) (Or.inl ⟨by rfl, ?yux6x8⟩) hHeld ?rux6x8
          case yux6x8 =>
            intro w' hSw
            obtain ⟨hSw0, hSw1, hSw2, hSw3⟩ := hSw
            go_simp
            with_reducible rfl
          case rux6x8 =>
          refine wpAnyH_take (i := 7) (v := ?vux7x9) rfl (by kernel_rfl) (by kernel_rfl) (by kernel_rfl) (fun _ _ _ h => h) (Or.inl ⟨by rfl, ?yux7x9⟩) hHeld ?rux7x9
          case yux7x9 =>
            intro w' hSw
            obtain ⟨hSw0, hSw1, hSw2, hSw3⟩ := hSw
            go_simp
            with_reducible rfl
          case rux7x9 =>
          refine wpAnyH_ready (rs := [9]) (by kernel_rfl) (by simp) ?_
          refine AllReadyH.cons rfl (fun K hK => ?_) AllReadyH.nil
          go_simp
          refine hK.out _ _ ⟨(HV.out _ (KT.alloc _)).1.1, (HV.out _ (KT.alloc _)).1.2, (HV.out _ (KT.alloc _)).2.1.1, (HV.out _ (KT.alloc _)).2.1.2⟩ (fun hHeld => ?_)
          clear hK K
          have zp6 : ZN (wq.alloc (.cells #[.bool false, .slice none 0 0] 56)) wq.heap.size := ZN.alloc _
          have hgp6 : W.heap.size ≤ wq.heap.size := KT.size
          have dp6p5 : ¬ (wq.heap.size = p5) := by have := zp5.lt; omega
          have dp5p6 : ¬ (p5 = wq.heap.size) := by have := zp5.lt; omega
          have zp5 := zp5.kept ((Kept.refl wq).alloc (.cells #[.bool false, .slice none 0 0] 56))
          have ng := D.NIs.kept ng ((Kept.refl wq).alloc (.cells #[.bool false, .slice none 0 0] 56))
          have nq := D.NIs.kept nq ((Kept.refl wq).alloc (.cells #[.bool false, .slice none 0 0] 56))
          have KT := KT.alloc (.cells #[.bool false, .slice none 0 0] 56)
          obtain ⟨p6, hpp6⟩ : ∃ p, p = wq.heap.size := ⟨_, rfl⟩
          rw [← hpp6] at zp6 hgp6 dp6p5 dp5p6 ⊢
          generalize wq.alloc (.cells #[.bool false, .slice none 0 0] 56) = Wa9 at zp6 zp5 ng nq KT hHeld ⊢
          clear hpp6
          have cp50 := zp5.c0
          have cp51 := zp5.c1
          have gp50 := zp5.fz 0
          have gp51 := zp5.fz 1
          refine wpAnyH_ready (rs := [10]) (by kernel_rfl) (by simp) ?_
          refine AllReadyH.cons rfl (fun K hK => ?_) AllReadyH.nil
          go_simp
          refine hK.out _ _ ⟨(HV.out _ ((KT.setCell hgp5 _).setCell hgp5 _)).1.1, (HV.out _ ((KT.setCell hgp5 _).setCell hgp5 _)).1.2, (HV.out _ ((KT.setCell hgp5 _).setCell hgp5 _)).2.1.1, (HV.out _ ((KT.setCell hgp5 _).setCell hgp5 _)).2.1.2⟩ (fun hHeld => ?_)
          clear hK K
          have ep5 := set2_at (x := (.bool sq)) (y := (.slice aq kq cq)) cp50 cp51
          have ng := D.NIs.box2 ng cp50 cp51 (.bool sq) (.slice aq kq cq)
          have nq := D.NIs.box2 nq cp50 cp51 (.bool sq) (.slice aq kq cq)
          have KT := (KT.setCell (p := ⟨p5, 0, none⟩) hgp5 (.bool sq)).setCell (p := ⟨p5, 1, none⟩) hgp5 (.slice aq kq cq)
          have zp6 := zp6.far dp6p5 (.bool sq) (.slice aq kq cq)
          clear cp50 cp51 gp50 gp51
          generalize ((Wa9.setCell ⟨p5, 0, none⟩ (.bool sq)).setCell ⟨p5, 1, none⟩ (.slice aq kq cq)) = Ws0 at ep5 zp6 ng nq KT hHeld ⊢
          have cp60 := zp6.c0
          have cp61 := zp6.c1
          have gp60 := zp6.fz 0
          have gp61 := zp6.fz 1
          refine wpAnyH_ready (rs := [11]) (by kernel_rfl) (by simp) ?_
          refine AllReadyH.cons rfl (fun K hK => ?_) AllReadyH.nil
          go_simp
          refine hK.out _ _ ⟨(HV.out _ ((KT.setCell hgp6 _).setCell hgp6 _)).1.1, (HV.out _ ((KT.setCell hgp6 _).setCell hgp6 _)).1.2, (HV.out _ ((KT.setCell hgp6 _).setCell hgp6 _)).2.1.1, (HV.out _ ((KT.setCell hgp6 _).setCell hgp6 _)).2.1.2⟩ (fun hHeld => ?_)
          clear hK K
          have ep6 := set2_at (x := (.bool tq)) (y := (.slice ar kr cr)) cp60 cp61
          have ep5 := And.intro (set2_far (x := (.bool tq)) (y := (.slice ar kr cr)) ep5.1 dp6p5) (set2_far (x := (.bool tq)) (y := (.slice ar kr cr)) ep5.2 dp6p5)
          have ng := D.NIs.box2 ng cp60 cp61 (.bool tq) (.slice ar kr cr)
          have nq := D.NIs.box2 nq cp60 cp61 (.bool tq) (.slice ar kr cr)
          have KT := (KT.setCell (p := ⟨p6, 0, none⟩) hgp6 (.bool tq)).setCell (p := ⟨p6, 1, none⟩) hgp6 (.slice ar kr cr)
          clear cp60 cp61 gp60 gp61
          generalize ((Ws0.setCell ⟨p6, 0, none⟩ (.bool tq)).setCell ⟨p6, 1, none⟩ (.slice ar kr cr)) = Ws1 at ep5 ep6  ng nq KT hHeld ⊢
          refine wpAnyH_done (by kernel_rfl) ?_ _
          go_wp2_with fail
          go_meet
          case rel => exact ⟨p5, sq, aq, kq, cq, rfl, KT, ep5, nq, HLq.out, hgp5⟩
        refine AllReadyH.cons rfl (fun K hK => ?_) AllReadyH.nil
        go_simp
        refine hK.out _ _ ⟨(HV.out _ (KT.alloc _)).1.1, (HV.out _ (KT.alloc _)).1.2, (HV.out _ (KT.alloc _)).2.1.1, (HV.out _ (KT.alloc _)).2.1.2⟩ (fun hHeld => ?_)
        clear hK K
        have zp6 : ZN (Wa8.alloc (.cells #[.bool false, .slice none 0 0] 56)) Wa8.heap.size := ZN.alloc _
        have hgp6 : W.heap.size ≤ Wa8.heap.size := KT.size
        have dp6p5 : ¬ (Wa8.heap.size = p5) := by have := zp5.lt; omega
        have dp5p6 : ¬ (p5 = Wa8.heap.size) := by have := zp5.lt; omega
        have zp5 := zp5.kept ((Kept.refl Wa8).alloc (.cells #[.bool false, .slice none 0 0] 56))
        have ng := D.NIs.kept ng ((Kept.refl Wa8).alloc (.cells #[.bool false, .slice none 0 0] 56))
        have KT := KT.alloc (.cells #[.bool false, .slice none 0 0] 56)
        obtain ⟨p6, hpp6⟩ : ∃ p, p = Wa8.heap.size := ⟨_, rfl⟩
        rw [← hpp6] at zp6 hgp6 dp6p5 dp5p6 ⊢
        generalize Wa8.alloc (.cells #[.bool false, .slice none 0 0] 56) = Wa9 at zp6 zp5 ng KT hHeld ⊢
        clear hpp6
        refine wpAnyH_ready (rs := [4]) (by kernel_rfl) (by simp) ?_
        refine AllReadyH.cons rfl (fun K hK => ?_) AllReadyH.nil
        go_simp
        refine (D.Divide_any n false aob ag kb kg cb cg y _ _ (HA.out.2.1.kept (HKW.out.trans KT)) ng HL.out.2 (by have h1 := HLg.out; have h2 := HL.out; omega) HG.out).mono ?_
        rintro e wq ⟨hkq, sq, aq, kq, cq, tq, ar, kr, cr, rfl, nq, nr, lq, lr⟩
        have HLq := hid' lq
        clear lq lr
        refine hK.out _ _ ⟨(HV.out _ (KT.trans hkq)).1.1, (HV.out _ (KT.trans hkq)).1.2, (HV.out _ (KT.trans hkq)).2.1.1, (HV.out _ (KT.trans hkq)).2.1.2⟩ (fun hHeld => ?_)
        clear hK K
        have zp5 := zp5.kept hkq
        have zp6 := zp6.kept hkq
        have ng := D.NIs.kept ng hkq
        have KT := KT.trans hkq
        refine wpAnyH_take (i := 5) (v := ?vux5x10) rfl (by kernel_rfl) (by kernel_rfl) (by kernel_rfl) (fun _ _ _ h => h) (Or.inl ⟨by rfl, ?yux5x10⟩) hHeld ?rux5x10
        case yux5x10 =>
          intro w' hSw
          obtain ⟨hSw0, hSw1, hSw2, hSw3⟩ := hSw
          go_simp
          with_reducible rfl
        case rux5x10 =>
        refine wpAnyH_take (i := 6) (v := ?vux6x11) rfl (by kernel_rfl) (by kernel_rfl) (by kernel_rfl) (fun _ _ _ h => h) (Or.inl ⟨by rfl, ?yux6x11⟩) hHeld ?rux6x11
        case yux6x11 =>
          intro w' hSw
          obtain ⟨hSw0, hSw1, hSw2, hSw3⟩ := hSw
          go_simp
          with_reducible rfl
        case rux6x11 =>
        refine wpAnyH_take (i := 7) (v := ?vux7x12) rfl (by kernel_rfl) (by kernel_rfl) (by kernel_rfl) (fun _ _ _ h => h) (Or.inl ⟨by rfl, ?yux7x12⟩) hHeld ?rux7x12
        case yux7x12 =>
          intro w' hSw
          obtain ⟨hSw0, hSw1, hSw2, hSw3⟩ := hSw
          go_simp
          with_reducible rfl
        case rux7x12 =>
        have cp50 := zp5.c0
        have cp51 := zp5.c1
        have gp50 := zp5.fz 0
        have gp51 := zp5.fz 1
        refine wpAnyH_ready (rs := [10]) (by kernel_rfl) (by simp) ?_
        refine AllReadyH.cons rfl (fun K hK => ?_) AllReadyH.nil
        go_simp
        refine hK.out _ _ ⟨(HV.out _ ((KT.setCell hgp5 _).setCell hgp5 _)).1.1, (HV.out _ ((KT.setCell hgp5 _).setCell hgp5 _)).1.2, (HV.out _ ((KT.setCell hgp5 _).setCell hgp5 _)).2.1.1, (HV.out _ ((KT.setCell hgp5 _).setCell hgp5 _)).2.1.2⟩ (fun hHeld => ?_)
        clear hK K
        have ep5 := set2_at (x := (.bool sq)) (y := (.slice aq kq cq)) cp50 cp51
        have ng := D.NIs.box2 ng cp50 cp51 (.bool sq) (.slice aq kq cq)
        have nq := D.NIs.box2 nq cp50 cp51 (.bool sq) (.slice aq kq cq)
        have KT := (KT.setCell (p := ⟨p5, 0, none⟩) hgp5 (.bool sq)).setCell (p := ⟨p5, 1, none⟩) hgp5 (.slice aq kq cq)
        have zp6 := zp6.far dp6p5 (.bool sq) (.slice aq kq cq)
        clear cp50 cp51 gp50 gp51
        generalize ((wq.setCell ⟨p5, 0, none⟩ (.bool sq)).setCell ⟨p5, 1, none⟩ (.slice aq kq cq)) = Ws0 at ep5 zp6 ng nq KT hHeld ⊢
        have cp60 := zp6.c0
        have cp61 := zp6.c1
        have gp60 := zp6.fz 0
        have gp61 := zp6.fz 1
        refine wpAnyH_ready (rs := [11]) (by kernel_rfl) (by simp) ?_
        refine AllReadyH.cons rfl (fun K hK => ?_) AllReadyH.nil
        go_simp
        refine hK.out _ _ ⟨(HV.out _ ((KT.setCell hgp6 _).setCell hgp6 _)).1.1, (HV.out _ ((KT.setCell hgp6 _).setCell hgp6 _)).1.2, (HV.out _ ((KT.setCell hgp6 _).setCell hgp6 _)).2.1.1, (HV.out _ ((KT.setCell hgp6 _).setCell hgp6 _)).2.1.2⟩ (fun hHeld => ?_)
        clear hK K
        have ep6 := set2_at (x := (.bool tq)) (y := (.slice ar kr cr)) cp60 cp61
        have ep5 := And.intro (set2_far (x := (.bool tq)) (y := (.slice ar kr cr)) ep5.1 dp6p5) (set2_far (x := (.bool tq)) (y := (.slice ar kr cr)) ep5.2 dp6p5)
        have ng := D.NIs.box2 ng cp60 cp61 (.bool tq) (.slice ar kr cr)
        have nq := D.NIs.box2 nq cp60 cp61 (.bool tq) (.slice ar kr cr)
        have KT := (KT.setCell (p := ⟨p6, 0, none⟩) hgp6 (.bool tq)).setCell (p := ⟨p6, 1, none⟩) hgp6 (.slice ar kr cr)
        clear cp60 cp61 gp60 gp61
        generalize ((Ws0.setCell ⟨p6, 0, none⟩ (.bool tq)).setCell ⟨p6, 1, none⟩ (.slice ar kr cr)) = Ws1 at ep5 ep6  ng nq KT hHeld ⊢
        refine wpAnyH_done (by kernel_rfl) ?_ _
        go_wp2_with fail
        go_meet
        case rel => exact ⟨p5, sq, aq, kq, cq, rfl, KT, ep5, nq, HLq.out, hgp5⟩
      refine AllReadyH.cons rfl (fun K hK => ?_) AllReadyH.nil
      go_simp
      refine hK.out _ _ ⟨(HV.out _ (KT.alloc _)).1.1, (HV.out _ (KT.alloc _)).1.2, (HV.out _ (KT.alloc _)).2.1.1, (HV.out _ (KT.alloc _)).2.1.2⟩ (fun hHeld => ?_)
      clear hK K
      have zp6 : ZN (wg.alloc (.cells #[.bool false, .slice none 0 0] 56)) wg.heap.size := ZN.alloc _
      have hgp6 : W.heap.size ≤ wg.heap.size := KT.size
      have ng := D.NIs.kept ng ((Kept.refl wg).alloc (.cells #[.bool false, .slice none 0 0] 56))
      have KT := KT.alloc (.cells #[.bool false, .slice none 0 0] 56)
      obtain ⟨p6, hpp6⟩ : ∃ p, p = wg.heap.size := ⟨_, rfl⟩
      rw [← hpp6] at zp6 hgp6  ⊢
      generalize wg.alloc (.cells #[.bool false, .slice none 0 0] 56) = Wa9 at zp6  ng KT hHeld ⊢
      clear hpp6
      refine wpAnyH_ready (rs := [4, 8]) (by kernel_rfl) (by simp) ?_
      refine AllReadyH.cons rfl (fun K hK => ?_) ?_
      · go_simp
        refine (D.Divide_any n false aob ag kb kg cb cg y _ _ (HA.out.2.1.kept (HKW.out.trans KT)) ng HL.out.2 (by have h1 := HLg.out; have h2 := HL.out; omega) HG.out).mono ?_
        rintro e wq ⟨hkq, sq, aq, kq, cq, tq, ar, kr, cr, rfl, nq, nr, lq, lr⟩
        have HLq := hid' lq
        clear lq lr
        refine hK.out _ _ ⟨(HV.out _ (KT.trans hkq)).1.1, (HV.out _ (KT.trans hkq)).1.2, (HV.out _ (KT.trans hkq)).2.1.1, (HV.out _ (KT.trans hkq)).2.1.2⟩ (fun hHeld => ?_)
        clear hK K
        have zp6 := zp6.kept hkq
        have ng := D.NIs.kept ng hkq
        have KT := KT.trans hkq
        refine wpAnyH_take (i := 5) (v := ?vux5x13) rfl (by kernel_rfl) (by kernel_rfl) (by kernel_rfl) (fun _ _ _ h => h) (Or.inl ⟨by rfl, ?yux5x13⟩) hHeld ?rux5x13
        case yux5x13 =>
          intro w' hSw
          obtain ⟨hSw0, hSw1, hSw2, hSw3⟩ := hSw
          go_simp
          with_reducible rfl
        case rux5x13 =>
        refine wpAnyH_take (i := 6) (v := ?vux6x14) rfl (by kernel_rfl) (by kernel_rfl) (by kernel_rfl) (fun _ _ _ h => h) (Or.inl ⟨by rfl, ?yux6x14⟩) hHeld ?rux6x14
        case yux6x14 =>
          intro w' hSw
          obtain ⟨hSw0, hSw1, hSw2, hSw3⟩ := hSw
          go_simp
          with_reducible rfl
        case rux6x14 =>
        refine wpAnyH_take (i := 7) (v := ?vux7x15) rfl (by kernel_rfl) (by kernel_rfl) (by kernel_rfl) (fun _ _ _ h => h) (Or.inl ⟨by rfl, ?yux7x15⟩) hHeld ?rux7x15
        case yux7x15 =>
          intro w' hSw
          obtain ⟨hSw0, hSw1, hSw2, hSw3⟩ := hSw
          go_simp
          with_reducible rfl
        case rux7x15 =>
        refine wpAnyH_ready (rs := [8]) (by kernel_rfl) (by simp) ?_
        refine AllReadyH.cons rfl (fun K hK => ?_) AllReadyH.nil
        go_simp
        refine hK.out _ _ ⟨(HV.out _ (KT.alloc _)).1.1, (HV.out _ (KT.alloc _)).1.2, (HV.out _ (KT.alloc _)).2.1.1, (HV.out _ (KT.alloc _)).2.1.2⟩ (fun hHeld => ?_)
        clear hK K
        have zp5 : ZN (wq.alloc (.cells #[.bool false, .slice none 0 0] 56)) wq.heap.size := ZN.alloc _
        have hgp5 : W.heap.size ≤ wq.heap.size := KT.size
        have dp5p6 : ¬ (wq.heap.size = p6) := by have := zp6.lt; omega
        have dp6p5 : ¬ (p6 = wq.heap.size) := by have := zp6.lt; omega
        have zp6 := zp6.kept ((Kept.refl wq).alloc (.cells #[.bool false, .slice none 0 0] 56))
        have ng := D.NIs.kept ng ((Kept.refl wq).alloc (.cells #[.bool false, .slice none 0 0] 56))
        have nq := D.NIs.kept nq ((Kept.refl wq).alloc (.cells #[.bool false, .slice none 0 0] 56))
        have KT := KT.alloc (.cells #[.bool false, .slice none 0 0] 56)
        obtain ⟨p5, hpp5⟩ : ∃ p, p = wq.heap.size := ⟨_, rfl⟩
        rw [← hpp5] at zp5 hgp5 dp5p6 dp6p5 ⊢
        generalize wq.alloc (.cells #[.bool false, .slice none 0 0] 56) = Wa8 at zp5 zp6 ng nq KT hHeld ⊢
        clear hpp5
        have cp50 := zp5.c0
        have cp51 := zp5.c1
        have gp50 := zp5.fz 0
        have gp51 := zp5.fz 1
        refine wpAnyH_ready (rs := [10]) (by kernel_rfl) (by simp) ?_
        refine AllReadyH.cons rfl (fun K hK => ?_) AllReadyH.nil
        go_simp
        refine hK.out _ _ ⟨(HV.out _ ((KT.setCell hgp5 _).setCell hgp5 _)).1.1, (HV.out _ ((KT.setCell hgp5 _).setCell hgp5 _)).1.2, (HV.out _ ((KT.setCell hgp5 _).setCell hgp5 _)).2.1.1, (HV.out _ ((KT.setCell hgp5 _).setCell hgp5 _)).2.1.2⟩ (fun hHeld => ?_)
        clear hK K
        have ep5 := set2_at (x := (.bool sq)) (y := (.slice aq kq cq)) cp50 cp51
        have ng := D.NIs.box2 ng cp50 cp51 (.bool sq) (.slice aq kq cq)
        have nq := D.NIs.box2 nq cp50 cp51 (.bool sq) (.slice aq kq cq)
        have KT := (KT.setCell (p := ⟨p5, 0, none⟩) hgp5 (.bool sq)).setCell (p := ⟨p5, 1, none⟩) hgp5 (.slice aq kq cq)
        have zp6 := zp6.far dp6p5 (.bool sq) (.slice aq kq cq)
        clear cp50 cp51 gp50 gp51
        generalize ((Wa8.setCell ⟨p5, 0, none⟩ (.bool sq)).setCell ⟨p5, 1, none⟩ (.slice aq kq cq)) = Ws0 at ep5 zp6 ng nq KT hHeld ⊢
        have cp60 := zp6.c0
        have cp61 := zp6.c1
        have gp60 := zp6.fz 0
        have gp61 := zp6.fz 1
        refine wpAnyH_ready (rs := [11]) (by kernel_rfl) (by simp) ?_
        refine AllReadyH.cons rfl (fun K hK => ?_) AllReadyH.nil
        go_simp
        refine hK.out _ _ ⟨(HV.out _ ((KT.setCell hgp6 _).setCell hgp6 _)).1.1, (HV.out _ ((KT.setCell hgp6 _).setCell hgp6 _)).1.2, (HV.out _ ((KT.setCell hgp6 _).setCell hgp6 _)).2.1.1, (HV.out _ ((KT.setCell hgp6 _).setCell hgp6 _)).2.1.2⟩ (fun hHeld => ?_)
        clear hK K
        have ep6 := set2_at (x := (.bool tq)) (y := (.slice ar kr cr)) cp60 cp61
        have ep5 := And.intro (set2_far (x := (.bool tq)) (y := (.slice ar kr cr)) ep5.1 dp6p5) (set2_far (x := (.bool tq)) (y := (.slice ar kr cr)) ep5.2 dp6p5)
        have ng := D.NIs.box2 ng cp60 cp61 (.bool tq) (.slice ar kr cr)
        have nq := D.NIs.box2 nq cp60 cp61 (.bool tq) (.slice ar kr cr)
        have KT := (KT.setCell (p := ⟨p6, 0, none⟩) hgp6 (.bool tq)).setCell (p := ⟨p6, 1, none⟩) hgp6 (.slice ar kr cr)
        clear cp60 cp61 gp60 gp61
        generalize ((Ws0.setCell ⟨p6, 0, none⟩ (.bool tq)).setCell ⟨p6, 1, none⟩ (.slice ar kr cr)) = Ws1 at ep5 ep6  ng nq KT hHeld ⊢
        refine wpAnyH_done (by kernel_rfl) ?_ _
        go_wp2_with fail
        go_meet
        case rel => exact ⟨p5, sq, aq, kq, cq, rfl, KT, ep5, nq, HLq.out, hgp5⟩
      refine AllReadyH.cons rfl (fun K hK => ?_) AllReadyH.nil
      go_simp
      refine hK.out _ _ ⟨(HV.out _ (KT.alloc _)).1.1, (HV.out _ (KT.alloc _)).1.2, (HV.out _ (KT.alloc _)).2.1.1, (HV.out _ (KT.alloc _)).2.1.2⟩ (fun hHeld => ?_)
      clear hK K
      have zp5 : ZN (Wa9.alloc (.cells #[.bool false, .slice none 0 0] 56)) Wa9.heap.size := ZN.alloc _
      have hgp5 : W.heap.size ≤ Wa9.heap.size := KT.size
      have dp5p6 : ¬ (Wa9.heap.size = p6) := by have := zp6.lt; omega
      have dp6p5 : ¬ (p6 = Wa9.heap.size) := by have := zp6.lt; omega
      have zp6 := zp6.kept ((Kept.refl Wa9).alloc (.cells #[.bool false, .slice none 0 0] 56))
      have ng := D.NIs.kept ng ((Kept.refl Wa9).alloc (.cells #[.bool false, .slice none 0 0] 56))
      have KT := KT.alloc (.cells #[.bool false, .slice none 0 0] 56)
      obtain ⟨p5, hpp5⟩ : ∃ p, p = Wa9.heap.size := ⟨_, rfl⟩
      rw [← hpp5] at zp5 hgp5 dp5p6 dp6p5 ⊢
      generalize Wa9.alloc (.cells #[.bool false, .slice none 0 0] 56) = Wa8 at zp5 zp6 ng KT hHeld ⊢
      clear hpp5
      refine wpAnyH_ready (rs := [4]) (by kernel_rfl) (by simp) ?_
      refine AllReadyH.cons rfl (fun K hK => ?_) AllReadyH.nil
      go_simp
      refine (D.Divide_any n false aob ag kb kg cb cg y _ _ (HA.out.2.1.kept (HKW.out.trans KT)) ng HL.out.2 (by have h1 := HLg.out; have h2 := HL.out; omega) HG.out).mono ?_
      rintro e wq ⟨hkq, sq, aq, kq, cq, tq, ar, kr, cr, rfl, nq, nr, lq, lr⟩
      have HLq := hid' lq
      clear lq lr
      refine hK.out _ _ ⟨(HV.out _ (KT.trans hkq)).1.1, (HV.out _ (KT.trans hkq)).1.2, (HV.out _ (KT.trans hkq)).2.1.1, (HV.out _ (KT.trans hkq)).2.1.2⟩ (fun hHeld => ?_)
      clear hK K
      have zp6 := zp6.kept hkq
      have zp5 := zp5.kept hkq
      have ng := D.NIs.kept ng hkq
      have KT := KT.trans hkq
      refine wpAnyH_take (i := 5) (v := ?vux5x16) rfl (by kernel_rfl) (by kernel_rfl) (by kernel_rfl) (fun _ _ _ h => h) (Or.inl ⟨by rfl, ?yux5x16⟩) hHeld ?rux5x16
      case yux5x16 =>
        intro w' hSw
        obtain ⟨hSw0, hSw1, hSw2, hSw3⟩ := hSw
        go_simp
        with_reducible rfl
      case rux5x16 =>
      refine wpAnyH_take (i := 6) (v := ?vux6x17) rfl (by kernel_rfl) (by kernel_rfl) (by kernel_rfl) (fun _ _ _ h => h) (Or.inl ⟨by rfl, ?yux6x17⟩) hHeld ?rux6x17
      case yux6x17 =>
        intro w' hSw
        obtain ⟨hSw0, hSw1, hSw2, hSw3⟩ := hSw
        go_simp
        with_reducible rfl
      case rux6x17 =>
      refine wpAnyH_take (i := 7) (v := ?vux7x18) rfl (by kernel_rfl) (by kernel_rfl) (by kernel_rfl) (fun _ _ _ h => h) (Or.inl ⟨by rfl, ?yux7x18⟩) hHeld ?rux7x18
      case yux7x18 =>
        intro w' hSw
        obtain ⟨hSw0, hSw1, hSw2, hSw3⟩ := hSw
        go_simp
        with_reducible rfl
      case rux7x18 =>
      have cp50 := zp5.c0
      have cp51 := zp5.c1
      have gp50 := zp5.fz 0
      have gp51 := zp5.fz 1
      refine wpAnyH_ready (rs := [10]) (by kernel_rfl) (by simp) ?_
      refine AllReadyH.cons rfl (fun K hK => ?_) AllReadyH.nil
      go_simp
      refine hK.out _ _ ⟨(HV.out _ ((KT.setCell hgp5 _).setCell hgp5 _)).1.1, (HV.out _ ((KT.setCell hgp5 _).setCell hgp5 _)).1.2, (HV.out _ ((KT.setCell hgp5 _).setCell hgp5 _)).2.1.1, (HV.out _ ((KT.setCell hgp5 _).setCell hgp5 _)).2.1.2⟩ (fun hHeld => ?_)
      clear hK K
      have ep5 := set2_at (x := (.bool sq)) (y := (.slice aq kq cq)) cp50 cp51
      have ng := D.NIs.box2 ng cp50 cp51 (.bool sq) (.slice aq kq cq)
      have nq := D.NIs.box2 nq cp50 cp51 (.bool sq) (.slice aq kq cq)
      have KT := (KT.setCell (p := ⟨p5, 0, none⟩) hgp5 (.bool sq)).setCell (p := ⟨p5, 1, none⟩) hgp5 (.slice aq kq cq)
      have zp6 := zp6.far dp6p5 (.bool sq) (.slice aq kq cq)
      clear cp50 cp51 gp50 gp51
      generalize ((wq.setCell ⟨p5, 0, none⟩ (.bool sq)).setCell ⟨p5, 1, none⟩ (.slice aq kq cq)) = Ws0 at ep5 zp6 ng nq KT hHeld ⊢
      have cp60 := zp6.c0
      have cp61 := zp6.c1
      have gp60 := zp6.fz 0
      have gp61 := zp6.fz 1
      refine wpAnyH_ready (rs := [11]) (by kernel_rfl) (by simp) ?_
      refine AllReadyH.cons rfl (fun K hK => ?_) AllReadyH.nil
      go_simp
      refine hK.out _ _ ⟨(HV.out _ ((KT.setCell hgp6 _).setCell hgp6 _)).1.1, (HV.out _ ((KT.setCell hgp6 _).setCell hgp6 _)).1.2, (HV.out _ ((KT.setCell hgp6 _).setCell hgp6 _)).2.1.1, (HV.out _ ((KT.setCell hgp6 _).setCell hgp6 _)).2.1.2⟩ (fun hHeld => ?_)
      clear hK K
      have ep6 := set2_at (x := (.bool tq)) (y := (.slice ar kr cr)) cp60 cp61
      have ep5 := And.intro (set2_far (x := (.bool tq)) (y := (.slice ar kr cr)) ep5.1 dp6p5) (set2_far (x := (.bool tq)) (y := (.slice ar kr cr)) ep5.2 dp6p5)
      have ng := D.NIs.box2 ng cp60 cp61 (.bool tq) (.slice ar kr cr)
      have nq := D.NIs.box2 nq cp60 cp61 (.bool tq) (.slice ar kr cr)
      have KT := (KT.setCell (p := ⟨p6, 0, none⟩) hgp6 (.bool tq)).setCell (p := ⟨p6, 1, none⟩) hgp6 (.slice ar kr cr)
      clear cp60 cp61 gp60 gp61
      generalize ((Ws0.setCell ⟨p6, 0, none⟩ (.bool tq)).setCell ⟨p6, 1, none⟩ (.slice ar kr cr)) = Ws1 at ep5 ep6  ng nq KT hHeld ⊢
      refine wpAnyH_done (by kernel_rfl) ?_ _
      go_wp2_with fail
      go_meet
      case rel => exact ⟨p5, sq, aq, kq, cq, rfl, KT, ep5, nq, HLq.out, hgp5⟩
    refine AllReadyH.cons rfl (fun K hK => ?_) ?_
    · go_simp
      refine hK.out _ _ ⟨(HV.out _ (KT.alloc _)).1.1, (HV.out _ (KT.alloc _)).1.2, (HV.out _ (KT.alloc _)).2.1.1, (HV.out _ (KT.alloc _)).2.1.2⟩ (fun hHeld => ?_)
      clear hK K
      have zp5 : ZN (Wd.alloc (.cells #[.bool false, .slice none 0 0] 56)) Wd.heap.size := ZN.alloc _
      have hgp5 : W.heap.size ≤ Wd.heap.size := KT.size
      have KT := KT.alloc (.cells #[.bool false, .slice none 0 0] 56)
      obtain ⟨p5, hpp5⟩ : ∃ p, p = Wd.heap.size := ⟨_, rfl⟩
      rw [← hpp5] at zp5 hgp5  ⊢
      generalize Wd.alloc (.cells #[.bool false, .slice none 0 0] 56) = Wa8 at zp5   KT hHeld ⊢
      clear hpp5
      refine wpAnyH_ready (rs := [3, 9]) (by kernel_rfl) (by simp) ?_
      refine AllReadyH.cons rfl (fun K hK => ?_) ?_
      · go_simp
        refine (D.Common_any m n aoa aob ka kb ca cb x y _ (HA.out.1.kept (HKW.out.trans KT)) (HA.out.2.1.kept (HKW.out.trans KT)) HL.out.1 HL.out.2).mono ?_
        rintro e wg ⟨hkg, ag, kg, cg, rfl, ng, lg⟩
        have HLg := hid' lg
        clear lg
        refine hK.out _ _ ⟨(HV.out _ (KT.trans hkg)).1.1, (HV.out _ (KT.trans hkg)).1.2, (HV.out _ (KT.trans hkg)).2.1.1, (HV.out _ (KT.trans hkg)).2.1.2⟩ (fun hHeld => ?_)
        clear hK K
        have zp5 := zp5.kept hkg
        have KT := KT.trans hkg
        refine wpAnyH_ready (rs := [4, 9]) (by kernel_rfl) (by simp) ?_
        refine AllReadyH.cons rfl (fun K hK => ?_) ?_
        · go_simp
          refine (D.Divide_any n false aob ag kb kg cb cg y _ _ (HA.out.2.1.kept (HKW.out.trans KT)) ng HL.out.2 (by have h1 := HLg.out; have h2 := HL.out; omega) HG.out).mono ?_
          rintro e wq ⟨hkq, sq, aq, kq, cq, tq, ar, kr, cr, rfl, nq, nr, lq, lr⟩
          have HLq := hid' lq
          clear lq lr
          refine hK.out _ _ ⟨(HV.out _ (KT.trans hkq)).1.1, (HV.out _ (KT.trans hkq)).1.2, (HV.out _ (KT.trans hkq)).2.1.1, (HV.out _ (KT.trans hkq)).2.1.2⟩ (fun hHeld => ?_)
          clear hK K
          have zp5 := zp5.kept hkq
          have ng := D.NIs.kept ng hkq
          have KT := KT.trans hkq
          refine wpAnyH_take (i := 5) (v := ?vux5x19) rfl (by kernel_rfl) (by kernel_rfl) (by kernel_rfl) (fun _ _ _ h => h) (Or.inl ⟨by rfl, ?yux5x19⟩) hHeld ?rux5x19
          case yux5x19 =>
            intro w' hSw
            obtain ⟨hSw0, hSw1, hSw2, hSw3⟩ := hSw
            go_simp
            with_reducible rfl
          case rux5x19 =>
          refine wpAnyH_take (i := 6) (v := ?vux6x20) rfl (by kernel_rfl) (by kernel_rfl) (by kernel_rfl) (fun _ _ _ h => h) (Or.inl ⟨by rfl, ?yux6x20⟩) hHeld ?rux6x20
          case yux6x20 =>
            intro w' hSw
            obtain ⟨hSw0, hSw1, hSw2, hSw3⟩ := hSw
            go_simp
            with_reducible rfl
          case rux6x20 =>
          refine wpAnyH_take (i := 7) (v := ?vux7x21) rfl (by kernel_rfl) (by kernel_rfl) (by kernel_rfl) (fun _ _ _ h => h) (Or.inl ⟨by rfl, ?yux7x21⟩) hHeld ?rux7x21
          case yux7x21 =>
            intro w' hSw
            obtain ⟨hSw0, hSw1, hSw2, hSw3⟩ := hSw
            go_simp
            with_reducible rfl
          case rux7x21 =>
          refine wpAnyH_ready (rs := [9]) (by kernel_rfl) (by simp) ?_
          refine AllReadyH.cons rfl (fun K hK => ?_) AllReadyH.nil
          go_simp
          refine hK.out _ _ ⟨(HV.out _ (KT.alloc _)).1.1, (HV.out _ (KT.alloc _)).1.2, (HV.out _ (KT.alloc _)).2.1.1, (HV.out _ (KT.alloc _)).2.1.2⟩ (fun hHeld => ?_)
          clear hK K
          have zp6 : ZN (wq.alloc (.cells #[.bool false, .slice none 0 0] 56)) wq.heap.size := ZN.alloc _
          have hgp6 : W.heap.size ≤ wq.heap.size := KT.size
          have dp6p5 : ¬ (wq.heap.size = p5) := by have := zp5.lt; omega
          have dp5p6 : ¬ (p5 = wq.heap.size) := by have := zp5.lt; omega
          have zp5 := zp5.kept ((Kept.refl wq).alloc (.cells #[.bool false, .slice none 0 0] 56))
          have ng := D.NIs.kept ng ((Kept.refl wq).alloc (.cells #[.bool false, .slice none 0 0] 56))
          have nq := D.NIs.kept nq ((Kept.refl wq).alloc (.cells #[.bool false, .slice none 0 0] 56))
          have KT := KT.alloc (.cells #[.bool false, .slice none 0 0] 56)
          obtain ⟨p6, hpp6⟩ : ∃ p, p = wq.heap.size := ⟨_, rfl⟩
          rw [← hpp6] at zp6 hgp6 dp6p5 dp5p6 ⊢
          generalize wq.alloc (.cells #[.bool false, .slice none 0 0] 56) = Wa9 at zp6 zp5 ng nq KT hHeld ⊢
          clear hpp6
          have cp50 := zp5.c0
          have cp51 := zp5.c1
          have gp50 := zp5.fz 0
          have gp51 := zp5.fz 1
          refine wpAnyH_ready (rs := [10]) (by kernel_rfl) (by simp) ?_
          refine AllReadyH.cons rfl (fun K hK => ?_) AllReadyH.nil
          go_simp
          refine hK.out _ _ ⟨(HV.out _ ((KT.setCell hgp5 _).setCell hgp5 _)).1.1, (HV.out _ ((KT.setCell hgp5 _).setCell hgp5 _)).1.2, (HV.out _ ((KT.setCell hgp5 _).setCell hgp5 _)).2.1.1, (HV.out _ ((KT.setCell hgp5 _).setCell hgp5 _)).2.1.2⟩ (fun hHeld => ?_)
          clear hK K
          have ep5 := set2_at (x := (.bool sq)) (y := (.slice aq kq cq)) cp50 cp51
          have ng := D.NIs.box2 ng cp50 cp51 (.bool sq) (.slice aq kq cq)
          have nq := D.NIs.box2 nq cp50 cp51 (.bool sq) (.slice aq kq cq)
          have KT := (KT.setCell (p := ⟨p5, 0, none⟩) hgp5 (.bool sq)).setCell (p := ⟨p5, 1, none⟩) hgp5 (.slice aq kq cq)
          have zp6 := zp6.far dp6p5 (.bool sq) (.slice aq kq cq)
          clear cp50 cp51 gp50 gp51
          generalize ((Wa9.setCell ⟨p5, 0, none⟩ (.bool sq)).setCell ⟨p5, 1, none⟩ (.slice aq kq cq)) = Ws0 at ep5 zp6 ng nq KT hHeld ⊢
          have cp60 := zp6.c0
          have cp61 := zp6.c1
          have gp60 := zp6.fz 0
          have gp61 := zp6.fz 1
          refine wpAnyH_ready (rs := [11]) (by kernel_rfl) (by simp) ?_
          refine AllReadyH.cons rfl (fun K hK => ?_) AllReadyH.nil
          go_simp
          refine hK.out _ _ ⟨(HV.out _ ((KT.setCell hgp6 _).setCell hgp6 _)).1.1, (HV.out _ ((KT.setCell hgp6 _).setCell hgp6 _)).1.2, (HV.out _ ((KT.setCell hgp6 _).setCell hgp6 _)).2.1.1, (HV.out _ ((KT.setCell hgp6 _).setCell hgp6 _)).2.1.2⟩ (fun hHeld => ?_)
          clear hK K
          have ep6 := set2_at (x := (.bool tq)) (y := (.slice ar kr cr)) cp60 cp61
          have ep5 := And.intro (set2_far (x := (.bool tq)) (y := (.slice ar kr cr)) ep5.1 dp6p5) (set2_far (x := (.bool tq)) (y := (.slice ar kr cr)) ep5.2 dp6p5)
          have ng := D.NIs.box2 ng cp60 cp61 (.bool tq) (.slice ar kr cr)
          have nq := D.NIs.box2 nq cp60 cp61 (.bool tq) (.slice ar kr cr)
          have KT := (KT.setCell (p := ⟨p6, 0, none⟩) hgp6 (.bool tq)).setCell (p := ⟨p6, 1, none⟩) hgp6 (.slice ar kr cr)
          clear cp60 cp61 gp60 gp61
          generalize ((Ws0.setCell ⟨p6, 0, none⟩ (.bool tq)).setCell ⟨p6, 1, none⟩ (.slice ar kr cr)) = Ws1 at ep5 ep6  ng nq KT hHeld ⊢
          refine wpAnyH_done (by kernel_rfl) ?_ _
          go_wp2_with fail
          go_meet
          case rel => exact ⟨p5, sq, aq, kq, cq, rfl, KT, ep5, nq, HLq.out, hgp5⟩
        refine AllReadyH.cons rfl (fun K hK => ?_) AllReadyH.nil
        go_simp
        refine hK.out _ _ ⟨(HV.out _ (KT.alloc _)).1.1, (HV.out _ (KT.alloc _)).1.2, (HV.out _ (KT.alloc _)).2.1.1, (HV.out _ (KT.alloc _)).2.1.2⟩ (fun hHeld => ?_)
        clear hK K
        have zp6 : ZN (wg.alloc (.cells #[.bool false, .slice none 0 0] 56)) wg.heap.size := ZN.alloc _
        have hgp6 : W.heap.size ≤ wg.heap.size := KT.size
        have dp6p5 : ¬ (wg.heap.size = p5) := by have := zp5.lt; omega
        have dp5p6 : ¬ (p5 = wg.heap.size) := by have := zp5.lt; omega
        have zp5 := zp5.kept ((Kept.refl wg).alloc (.cells #[.bool false, .slice none 0 0] 56))
        have ng := D.NIs.kept ng ((Kept.refl wg).alloc (.cells #[.bool false, .slice none 0 0] 56))
        have KT := KT.alloc (.cells #[.bool false, .slice none 0 0] 56)
        obtain ⟨p6, hpp6⟩ : ∃ p, p = wg.heap.size := ⟨_, rfl⟩
        rw [← hpp6] at zp6 hgp6 dp6p5 dp5p6 ⊢
        generalize wg.alloc (.cells #[.bool false, .slice none 0 0] 56) = Wa9 at zp6 zp5 ng KT hHeld ⊢
        clear hpp6
        refine wpAnyH_ready (rs := [4]) (by kernel_rfl) (by simp) ?_
        refine AllReadyH.cons rfl (fun K hK => ?_) AllReadyH.nil
        go_simp
        refine (D.Divide_any n false aob ag kb kg cb cg y _ _ (HA.out.2.1.kept (HKW.out.trans KT)) ng HL.out.2 (by have h1 := HLg.out; have h2 := HL.out; omega) HG.out).mono ?_
        rintro e wq ⟨hkq, sq, aq, kq, cq, tq, ar, kr, cr, rfl, nq, nr, lq, lr⟩
        have HLq := hid' lq
        clear lq lr
        refine hK.out _ _ ⟨(HV.out _ (KT.trans hkq)).1.1, (HV.out _ (KT.trans hkq)).1.2, (HV.out _ (KT.trans hkq)).2.1.1, (HV.out _ (KT.trans hkq)).2.1.2⟩ (fun hHeld => ?_)
        clear hK K
        have zp5 := zp5.kept hkq
        have zp6 := zp6.kept hkq
        have ng := D.NIs.kept ng hkq
        have KT := KT.trans hkq
        refine wpAnyH_take (i := 5) (v := ?vux5x22) rfl (by kernel_rfl) (by kernel_rfl) (by kernel_rfl) (fun _ _ _ h => h) (Or.inl ⟨by rfl, ?yux5x22⟩) hHeld ?rux5x22
        case yux5x22 =>
          intro w' hSw
          obtain ⟨hSw0, hSw1, hSw2, hSw3⟩ := hSw
          go_simp
          with_reducible rfl
        case rux5x22 =>
        refine wpAnyH_take (i := 6) (v := ?vux6x23) rfl (by kernel_rfl) (by kernel_rfl) (by kernel_rfl) (fun _ _ _ h => h) (Or.inl ⟨by rfl, ?yux6x23⟩) hHeld ?rux6x23
        case yux6x23 =>
          intro w' hSw
          obtain ⟨hSw0, hSw1, hSw2, hSw3⟩ := hSw
          go_simp
          with_reducible rfl
        case rux6x23 =>
        refine wpAnyH_take (i := 7) (v := ?vux7x24) rfl (by kernel_rfl) (by kernel_rfl) (by kernel_rfl) (fun _ _ _ h => h) (Or.inl ⟨by rfl, ?yux7x24⟩) hHeld ?rux7x24
        case yux7x24 =>
          intro w' hSw
          obtain ⟨hSw0, hSw1, hSw2, hSw3⟩ := hSw
          go_simp
          with_reducible rfl
        case rux7x24 =>
        have cp50 := zp5.c0
        have cp51 := zp5.c1
        have gp50 := zp5.fz 0
        have gp51 := zp5.fz 1
        refine wpAnyH_ready (rs := [10]) (by kernel_rfl) (by simp) ?_
        refine AllReadyH.cons rfl (fun K hK => ?_) AllReadyH.nil
        go_simp
        refine hK.out _ _ ⟨(HV.out _ ((KT.setCell hgp5 _).setCell hgp5 _)).1.1, (HV.out _ ((KT.setCell hgp5 _).setCell hgp5 _)).1.2, (HV.out _ ((KT.setCell hgp5 _).setCell hgp5 _)).2.1.1, (HV.out _ ((KT.setCell hgp5 _).setCell hgp5 _)).2.1.2⟩ (fun hHeld => ?_)
        clear hK K
        have ep5 := set2_at (x := (.bool sq)) (y := (.slice aq kq cq)) cp50 cp51
        have ng := D.NIs.box2 ng cp50 cp51 (.bool sq) (.slice aq kq cq)
        have nq := D.NIs.box2 nq cp50 cp51 (.bool sq) (.slice aq kq cq)
        have KT := (KT.setCell (p := ⟨p5, 0, none⟩) hgp5 (.bool sq)).setCell (p := ⟨p5, 1, none⟩) hgp5 (.slice aq kq cq)
        have zp6 := zp6.far dp6p5 (.bool sq) (.slice aq kq cq)
        clear cp50 cp51 gp50 gp51
        generalize ((wq.setCell ⟨p5, 0, none⟩ (.bool sq)).setCell ⟨p5, 1, none⟩ (.slice aq kq cq)) = Ws0 at ep5 zp6 ng nq KT hHeld ⊢
        have cp60 := zp6.c0
        have cp61 := zp6.c1
        have gp60 := zp6.fz 0
        have gp61 := zp6.fz 1
        refine wpAnyH_ready (rs := [11]) (by kernel_rfl) (by simp) ?_
        refine AllReadyH.cons rfl (fun K hK => ?_) AllReadyH.nil
        go_simp
        refine hK.out _ _ ⟨(HV.out _ ((KT.setCell hgp6 _).setCell hgp6 _)).1.1, (HV.out _ ((KT.setCell hgp6 _).setCell hgp6 _)).1.2, (HV.out _ ((KT.setCell hgp6 _).setCell hgp6 _)).2.1.1, (HV.out _ ((KT.setCell hgp6 _).setCell hgp6 _)).2.1.2⟩ (fun hHeld => ?_)
        clear hK K
        have ep6 := set2_at (x := (.bool tq)) (y := (.slice ar kr cr)) cp60 cp61
        have ep5 := And.intro (set2_far (x := (.bool tq)) (y := (.slice ar kr cr)) ep5.1 dp6p5) (set2_far (x := (.bool tq)) (y := (.slice ar kr cr)) ep5.2 dp6p5)
        have ng := D.NIs.box2 ng cp60 cp61 (.bool tq) (.slice ar kr cr)
        have nq := D.NIs.box2 nq cp60 cp61 (.bool tq) (.slice ar kr cr)
        have KT := (KT.setCell (p := ⟨p6, 0, none⟩) hgp6 (.bool tq)).setCell (p := ⟨p6, 1, none⟩) hgp6 (.slice ar kr cr)
        clear cp60 cp61 gp60 gp61
        generalize ((Ws0.setCell ⟨p6, 0, none⟩ (.bool tq)).setCell ⟨p6, 1, none⟩ (.slice ar kr cr)) = Ws1 at ep5 ep6  ng nq KT hHeld ⊢
        refine wpAnyH_done (by kernel_rfl) ?_ _
        go_wp2_with fail
        go_meet
        case rel => exact ⟨p5, sq, aq, kq, cq, rfl, KT, ep5, nq, HLq.out, hgp5⟩
      refine AllReadyH.cons rfl (fun K hK => ?_) AllReadyH.nil
      go_simp
      refine hK.out _ _ ⟨(HV.out _ (KT.alloc _)).1.1, (HV.out _ (KT.alloc _)).1.2, (HV.out _ (KT.alloc _)).2.1.1, (HV.out _ (KT.alloc _)).2.1.2⟩ (fun hHeld => ?_)
      clear hK K
      have zp6 : ZN (Wa8.alloc (.cells #[.bool false, .slice none 0 0] 56)) Wa8.heap.size := ZN.alloc _
      have hgp6 : W.heap.size ≤ Wa8.heap.size := KT.size
      have dp6p5 : ¬ (Wa8.heap.size = p5) := by have := zp5.lt; omega
      have dp5p6 : ¬ (p5 = Wa8.heap.size) := by have := zp5.lt; omega
      have zp5 := zp5.kept ((Kept.refl Wa8).alloc (.cells #[.bool false, .slice none 0 0] 56))
      have KT := KT.alloc (.cells #[.bool false, .slice none 0 0] 56)
      obtain ⟨p6, hpp6⟩ : ∃ p, p = Wa8.heap.size := ⟨_, rfl⟩
      rw [← hpp6] at zp6 hgp6 dp6p5 dp5p6 ⊢
      generalize Wa8.alloc (.cells #[.bool false, .slice none 0 0] 56) = Wa9 at zp6 zp5  KT hHeld ⊢
      clear hpp6
      refine wpAnyH_ready (rs := [3]) (by kernel_rfl) (by simp) ?_
      refine AllReadyH.cons rfl (fun K hK => ?_) AllReadyH.nil
      go_simp
      refine (D.Common_any m n aoa aob ka kb ca cb x y _ (HA.out.1.kept (HKW.out.trans KT)) (HA.out.2.1.kept (HKW.out.trans KT)) HL.out.1 HL.out.2).mono ?_
      rintro e wg ⟨hkg, ag, kg, cg, rfl, ng, lg⟩
      have HLg := hid' lg
      clear lg
      refine hK.out _ _ ⟨(HV.out _ (KT.trans hkg)).1.1, (HV.out _ (KT.trans hkg)).1.2, (HV.out _ (KT.trans hkg)).2.1.1, (HV.out _ (KT.trans hkg)).2.1.2⟩ (fun hHeld => ?_)
      clear hK K
      have zp5 := zp5.kept hkg
      have zp6 := zp6.kept hkg
      have KT := KT.trans hkg
      refine wpAnyH_ready (rs := [4]) (by kernel_rfl) (by simp) ?_
      refine AllReadyH.cons rfl (fun K hK => ?_) AllReadyH.nil
      go_simp
      refine (D.Divide_any n false aob ag kb kg cb cg y _ _ (HA.out.2.1.kept (HKW.out.trans KT)) ng HL.out.2 (by have h1 := HLg.out; have h2 := HL.out; omega) HG.out).mono ?_
      rintro e wq ⟨hkq, sq, aq, kq, cq, tq, ar, kr, cr, rfl, nq, nr, lq, lr⟩
      have HLq := hid' lq
      clear lq lr
      refine hK.out _ _ ⟨(HV.out _ (KT.trans hkq)).1.1, (HV.out _ (KT.trans hkq)).1.2, (HV.out _ (KT.trans hkq)).2.1.1, (HV.out _ (KT.trans hkq)).2.1.2⟩ (fun hHeld => ?_)
      clear hK K
      have zp5 := zp5.kept hkq
      have zp6 := zp6.kept hkq
      have ng := D.NIs.kept ng hkq
      have KT := KT.trans hkq
      refine wpAnyH_take (i := 5) (v := ?vux5x25) rfl (by kernel_rfl) (by kernel_rfl) (by kernel_rfl) (fun _ _ _ h => h) (Or.inl ⟨by rfl, ?yux5x25⟩) hHeld ?rux5x25
      case yux5x25 =>
        intro w' hSw
        obtain ⟨hSw0, hSw1, hSw2, hSw3⟩ := hSw
        go_simp
        with_reducible rfl
      case rux5x25 =>
      refine wpAnyH_take (i := 6) (v := ?vux6x26) rfl (by kernel_rfl) (by kernel_rfl) (by kernel_rfl) (fun _ _ _ h => h) (Or.inl ⟨by rfl, ?yux6x26⟩) hHeld ?rux6x26
      case yux6x26 =>
        intro w' hSw
        obtain ⟨hSw0, hSw1, hSw2, hSw3⟩ := hSw
        go_simp
        with_reducible rfl
      case rux6x26 =>
      refine wpAnyH_take (i := 7) (v := ?vux7x27) rfl (by kernel_rfl) (by kernel_rfl) (by kernel_rfl) (fun _ _ _ h => h) (Or.inl ⟨by rfl, ?yux7x27⟩) hHeld ?rux7x27
      case yux7x27 =>
        intro w' hSw
        obtain ⟨hSw0, hSw1, hSw2, hSw3⟩ := hSw
        go_simp
        with_reducible rfl
      case rux7x27 =>
      have cp50 := zp5.c0
      have cp51 := zp5.c1
      have gp50 := zp5.fz 0
      have gp51 := zp5.fz 1
      refine wpAnyH_ready (rs := [10]) (by kernel_rfl) (by simp) ?_
      refine AllReadyH.cons rfl (fun K hK => ?_) AllReadyH.nil
      go_simp
      refine hK.out _ _ ⟨(HV.out _ ((KT.setCell hgp5 _).setCell hgp5 _)).1.1, (HV.out _ ((KT.setCell hgp5 _).setCell hgp5 _)).1.2, (HV.out _ ((KT.setCell hgp5 _).setCell hgp5 _)).2.1.1, (HV.out _ ((KT.setCell hgp5 _).setCell hgp5 _)).2.1.2⟩ (fun hHeld => ?_)
      clear hK K
      have ep5 := set2_at (x := (.bool sq)) (y := (.slice aq kq cq)) cp50 cp51
      have ng := D.NIs.box2 ng cp50 cp51 (.bool sq) (.slice aq kq cq)
      have nq := D.NIs.box2 nq cp50 cp51 (.bool sq) (.slice aq kq cq)
      have KT := (KT.setCell (p := ⟨p5, 0, none⟩) hgp5 (.bool sq)).setCell (p := ⟨p5, 1, none⟩) hgp5 (.slice aq kq cq)
      have zp6 := zp6.far dp6p5 (.bool sq) (.slice aq kq cq)
      clear cp50 cp51 gp50 gp51
      generalize ((wq.setCell ⟨p5, 0, none⟩ (.bool sq)).setCell ⟨p5, 1, none⟩ (.slice aq kq cq)) = Ws0 at ep5 zp6 ng nq KT hHeld ⊢
      have cp60 := zp6.c0
      have cp61 := zp6.c1
      have gp60 := zp6.fz 0
      have gp61 := zp6.fz 1
      refine wpAnyH_ready (rs := [11]) (by kernel_rfl) (by simp) ?_
      refine AllReadyH.cons rfl (fun K hK => ?_) AllReadyH.nil
      go_simp
      refine hK.out _ _ ⟨(HV.out _ ((KT.setCell hgp6 _).setCell hgp6 _)).1.1, (HV.out _ ((KT.setCell hgp6 _).setCell hgp6 _)).1.2, (HV.out _ ((KT.setCell hgp6 _).setCell hgp6 _)).2.1.1, (HV.out _ ((KT.setCell hgp6 _).setCell hgp6 _)).2.1.2⟩ (fun hHeld => ?_)
      clear hK K
      have ep6 := set2_at (x := (.bool tq)) (y := (.slice ar kr cr)) cp60 cp61
      have ep5 := And.intro (set2_far (x := (.bool tq)) (y := (.slice ar kr cr)) ep5.1 dp6p5) (set2_far (x := (.bool tq)) (y := (.slice ar kr cr)) ep5.2 dp6p5)
      have ng := D.NIs.box2 ng cp60 cp61 (.bool tq) (.slice ar kr cr)
      have nq := D.NIs.box2 nq cp60 cp61 (.bool tq) (.slice ar kr cr)
      have KT := (KT.setCell (p := ⟨p6, 0, none⟩) hgp6 (.bool tq)).setCell (p := ⟨p6, 1, none⟩) hgp6 (.slice ar kr cr)
      clear cp60 cp61 gp60 gp61
      generalize ((Ws0.setCell ⟨p6, 0, none⟩ (.bool tq)).setCell ⟨p6, 1, none⟩ (.slice ar kr cr)) = Ws1 at ep5 ep6  ng nq KT hHeld ⊢
      refine wpAnyH_done (by kernel_rfl) ?_ _
      go_wp2_with fail
      go_meet
      case rel => exact ⟨p5, sq, aq, kq, cq, rfl, KT, ep5, nq, HLq.out, hgp5⟩
    refine AllReadyH.cons rfl (fun K hK => ?_) AllReadyH.nil
    go_simp
    refine hK.out _ _ ⟨(HV.out _ (KT.alloc _)).1.1, (HV.out _ (KT.alloc _)).1.2, (HV.out _ (KT.alloc _)).2.1.1, (HV.out _ (KT.alloc _)).2.1.2⟩ (fun hHeld => ?_)
    clear hK K
    have zp6 : ZN (Wd.alloc (.cells #[.bool false, .slice none 0 0] 56)) Wd.heap.size := ZN.alloc _
    have hgp6 : W.heap.size ≤ Wd.heap.size := KT.size
    have KT := KT.alloc (.cells #[.bool false, .slice none 0 0] 56)
    obtain ⟨p6, hpp6⟩ : ∃ p, p = Wd.heap.size := ⟨_, rfl⟩
    rw [← hpp6] at zp6 hgp6  ⊢
    generalize Wd.alloc (.cells #[.bool false, .slice none 0 0] 56) = Wa9 at zp6   KT hHeld ⊢
    clear hpp6
    refine wpAnyH_ready (rs := [3, 8]) (by kernel_rfl) (by simp) ?_
    refine AllReadyH.cons rfl (fun K hK => ?_) ?_
    · go_simp
      refine (D.Common_any m n aoa aob ka kb ca cb x y _ (HA.out.1.kept (HKW.out.trans KT)) (HA.out.2.1.kept (HKW.out.trans KT)) HL.out.1 HL.out.2).mono ?_
      rintro e wg ⟨hkg, ag, kg, cg, rfl, ng, lg⟩
      have HLg := hid' lg
      clear lg
      refine hK.out _ _ ⟨(HV.out _ (KT.trans hkg)).1.1, (HV.out _ (KT.trans hkg)).1.2, (HV.out _ (KT.trans hkg)).2.1.1, (HV.out _ (KT.trans hkg)).2.1.2⟩ (fun hHeld => ?_)
      clear hK K
      have zp6 := zp6.kept hkg
      have KT := KT.trans hkg
      refine wpAnyH_ready (rs := [4, 8]) (by kernel_rfl) (by simp) ?_
      refine AllReadyH.cons rfl (fun K hK => ?_) ?_
      · go_simp
        refine (D.Divide_any n false aob ag kb kg cb cg y _ _ (HA.out.2.1.kept (HKW.out.trans KT)) ng HL.out.2 (by have h1 := HLg.out; have h2 := HL.out; omega) HG.out).mono ?_
        rintro e wq ⟨hkq, sq, aq, kq, cq, tq, ar, kr, cr, rfl, nq, nr, lq, lr⟩
        have HLq := hid' lq
        clear lq lr
        refine hK.out _ _ ⟨(HV.out _ (KT.trans hkq)).1.1, (HV.out _ (KT.trans hkq)).1.2, (HV.out _ (KT.trans hkq)).2.1.1, (HV.out _ (KT.trans hkq)).2.1.2⟩ (fun hHeld => ?_)
        clear hK K
        have zp6 := zp6.kept hkq
        have ng := D.NIs.kept ng hkq
        have KT := KT.trans hkq
        refine wpAnyH_take (i := 5) (v := ?vux5x28) rfl (by kernel_rfl) (by kernel_rfl) (by kernel_rfl) (fun _ _ _ h => h) (Or.inl ⟨by rfl, ?yux5x28⟩) hHeld ?rux5x28
        case yux5x28 =>
          intro w' hSw
          obtain ⟨hSw0, hSw1, hSw2, hSw3⟩ := hSw
          go_simp
          with_reducible rfl
        case rux5x28 =>
        refine wpAnyH_take (i := 6) (v := ?vux6x29) rfl (by kernel_rfl) (by kernel_rfl) (by kernel_rfl) (fun _ _ _ h => h) (Or.inl ⟨by rfl, ?yux6x29⟩) hHeld ?rux6x29
        case yux6x29 =>
          intro w' hSw
          obtain ⟨hSw0, hSw1, hSw2, hSw3⟩ := hSw
          go_simp
          with_reducible rfl
        case rux6x29 =>
        refine wpAnyH_take (i := 7) (v := ?vux7x30) rfl (by kernel_rfl) (by kernel_rfl) (by kernel_rfl) (fun _ _ _ h => h) (Or.inl ⟨by rfl, ?yux7x30⟩) hHeld ?rux7x30
        case yux7x30 =>
          intro w' hSw
          obtain ⟨hSw0, hSw1, hSw2, hSw3⟩ := hSw
          go_simp
          with_reducible rfl
        case rux7x30 =>
        refine wpAnyH_ready (rs := [8]) (by kernel_rfl) (by simp) ?_
        refine AllReadyH.cons rfl (fun K hK => ?_) AllReadyH.nil
        go_simp
        refine hK.out _ _ ⟨(HV.out _ (KT.alloc _)).1.1, (HV.out _ (KT.alloc _)).1.2, (HV.out _ (KT.alloc _)).2.1.1, (HV.out _ (KT.alloc _)).2.1.2⟩ (fun hHeld => ?_)
        clear hK K
        have zp5 : ZN (wq.alloc (.cells #[.bool false, .slice none 0 0] 56)) wq.heap.size := ZN.alloc _
        have hgp5 : W.heap.size ≤ wq.heap.size := KT.size
        have dp5p6 : ¬ (wq.heap.size = p6) := by have := zp6.lt; omega
        have dp6p5 : ¬ (p6 = wq.heap.size) := by have := zp6.lt; omega
        have zp6 := zp6.kept ((Kept.refl wq).alloc (.cells #[.bool false, .slice none 0 0] 56))
        have ng := D.NIs.kept ng ((Kept.refl wq).alloc (.cells #[.bool false, .slice none 0 0] 56))
        have nq := D.NIs.kept nq ((Kept.refl wq).alloc (.cells #[.bool false, .slice none 0 0] 56))
        have KT := KT.alloc (.cells #[.bool false, .slice none 0 0] 56)
        obtain ⟨p5, hpp5⟩ : ∃ p, p = wq.heap.size := ⟨_, rfl⟩
        rw [← hpp5] at zp5 hgp5 dp5p6 dp6p5 ⊢
        generalize wq.alloc (.cells #[.bool false, .slice none 0 0] 56) = Wa8 at zp5 zp6 ng nq KT hHeld ⊢
        clear hpp5
        have cp50 := zp5.c0
        have cp51 := zp5.c1
        have gp50 := zp5.fz 0
        have gp51 := zp5.fz 1
        refine wpAnyH_ready (rs := [10]) (by kernel_rfl) (by simp) ?_
        refine AllReadyH.cons rfl (fun K hK => ?_) AllReadyH.nil
        go_simp
        refine hK.out _ _ ⟨(HV.out _ ((KT.setCell hgp5 _).setCell hgp5 _)).1.1, (HV.out _ ((KT.setCell hgp5 _).setCell hgp5 _)).1.2, (HV.out _ ((KT.setCell hgp5 _).setCell hgp5 _)).2.1.1, (HV.out _ ((KT.setCell hgp5 _).setCell hgp5 _)).2.1.2⟩ (fun hHeld => ?_)
        clear hK K
        have ep5 := set2_at (x := (.bool sq)) (y := (.slice aq kq cq)) cp50 cp51
        have ng := D.NIs.box2 ng cp50 cp51 (.bool sq) (.slice aq kq cq)
        have nq := D.NIs.box2 nq cp50 cp51 (.bool sq) (.slice aq kq cq)
        have KT := (KT.setCell (p := ⟨p5, 0, none⟩) hgp5 (.bool sq)).setCell (p := ⟨p5, 1, none⟩) hgp5 (.slice aq kq cq)
        have zp6 := zp6.far dp6p5 (.bool sq) (.slice aq kq cq)
        clear cp50 cp51 gp50 gp51
        generalize ((Wa8.setCell ⟨p5, 0, none⟩ (.bool sq)).setCell ⟨p5, 1, none⟩ (.slice aq kq cq)) = Ws0 at ep5 zp6 ng nq KT hHeld ⊢
        have cp60 := zp6.c0
        have cp61 := zp6.c1
        have gp60 := zp6.fz 0
        have gp61 := zp6.fz 1
        refine wpAnyH_ready (rs := [11]) (by kernel_rfl) (by simp) ?_
        refine AllReadyH.cons rfl (fun K hK => ?_) AllReadyH.nil
        go_simp
        refine hK.out _ _ ⟨(HV.out _ ((KT.setCell hgp6 _).setCell hgp6 _)).1.1, (HV.out _ ((KT.setCell hgp6 _).setCell hgp6 _)).1.2, (HV.out _ ((KT.setCell hgp6 _).setCell hgp6 _)).2.1.1, (HV.out _ ((KT.setCell hgp6 _).setCell hgp6 _)).2.1.2⟩ (fun hHeld => ?_)
        clear hK K
        have ep6 := set2_at (x := (.bool tq)) (y := (.slice ar kr cr)) cp60 cp61
        have ep5 := And.intro (set2_far (x := (.bool tq)) (y := (.slice ar kr cr)) ep5.1 dp6p5) (set2_far (x := (.bool tq)) (y := (.slice ar kr cr)) ep5.2 dp6p5)
        have ng := D.NIs.box2 ng cp60 cp61 (.bool tq) (.slice ar kr cr)
        have nq := D.NIs.box2 nq cp60 cp61 (.bool tq) (.slice ar kr cr)
        have KT := (KT.setCell (p := ⟨p6, 0, none⟩) hgp6 (.bool tq)).setCell (p := ⟨p6, 1, none⟩) hgp6 (.slice ar kr cr)
        clear cp60 cp61 gp60 gp61
        generalize ((Ws0.setCell ⟨p6, 0, none⟩ (.bool tq)).setCell ⟨p6, 1, none⟩ (.slice ar kr cr)) = Ws1 at ep5 ep6  ng nq KT hHeld ⊢
        refine wpAnyH_done (by kernel_rfl) ?_ _
        go_wp2_with fail
        go_meet
        case rel => exact ⟨p5, sq, aq, kq, cq, rfl, KT, ep5, nq, HLq.out, hgp5⟩
      refine AllReadyH.cons rfl (fun K hK => ?_) AllReadyH.nil
      go_simp
      refine hK.out _ _ ⟨(HV.out _ (KT.alloc _)).1.1, (HV.out _ (KT.alloc _)).1.2, (HV.out _ (KT.alloc _)).2.1.1, (HV.out _ (KT.alloc _)).2.1.2⟩ (fun hHeld => ?_)
      clear hK K
      have zp5 : ZN (wg.alloc (.cells #[.bool false, .slice none 0 0] 56)) wg.heap.size := ZN.alloc _
      have hgp5 : W.heap.size ≤ wg.heap.size := KT.size
      have dp5p6 : ¬ (wg.heap.size = p6) := by have := zp6.lt; omega
      have dp6p5 : ¬ (p6 = wg.heap.size) := by have := zp6.lt; omega
      have zp6 := zp6.kept ((Kept.refl wg).alloc (.cells #[.bool false, .slice none 0 0] 56))
      have ng := D.NIs.kept ng ((Kept.refl wg).alloc (.cells #[.bool false, .slice none 0 0] 56))
      have KT := KT.alloc (.cells #[.bool false, .slice none 0 0] 56)
      obtain ⟨p5, hpp5⟩ : ∃ p, p = wg.heap.size := ⟨_, rfl⟩
      rw [← hpp5] at zp5 hgp5 dp5p6 dp6p5 ⊢
      generalize wg.alloc (.cells #[.bool false, .slice none 0 0] 56) = Wa8 at zp5 zp6 ng KT hHeld ⊢
      clear hpp5
      refine wpAnyH_ready (rs := [4]) (by kernel_rfl) (by simp) ?_
      refine AllReadyH.cons rfl (fun K hK => ?_) AllReadyH.nil
      go_simp
      refine (D.Divide_any n false aob ag kb kg cb cg y _ _ (HA.out.2.1.kept (HKW.out.trans KT)) ng HL.out.2 (by have h1 := HLg.out; have h2 := HL.out; omega) HG.out).mono ?_
      rintro e wq ⟨hkq, sq, aq, kq, cq, tq, ar, kr, cr, rfl, nq, nr, lq, lr⟩
      have HLq := hid' lq
      clear lq lr
      refine hK.out _ _ ⟨(HV.out _ (KT.trans hkq)).1.1, (HV.out _ (KT.trans hkq)).1.2, (HV.out _ (KT.trans hkq)).2.1.1, (HV.out _ (KT.trans hkq)).2.1.2⟩ (fun hHeld => ?_)
      clear hK K
      have zp6 := zp6.kept hkq
      have zp5 := zp5.kept hkq
      have ng := D.NIs.kept ng hkq
      have KT := KT.trans hkq
      refine wpAnyH_take (i := 5) (v := ?vux5x31) rfl (by kernel_rfl) (by kernel_rfl) (by kernel_rfl) (fun _ _ _ h => h) (Or.inl ⟨by rfl, ?yux5x31⟩) hHeld ?rux5x31
      case yux5x31 =>
        intro w' hSw
        obtain ⟨hSw0, hSw1, hSw2, hSw3⟩ := hSw
        go_simp
        with_reducible rfl
      case rux5x31 =>
      refine wpAnyH_take (i := 6) (v := ?vux6x32) rfl (by kernel_rfl) (by kernel_rfl) (by kernel_rfl) (fun _ _ _ h => h) (Or.inl ⟨by rfl, ?yux6x32⟩) hHeld ?rux6x32
      case yux6x32 =>
        intro w' hSw
        obtain ⟨hSw0, hSw1, hSw2, hSw3⟩ := hSw
        go_simp
        with_reducible rfl
      case rux6x32 =>
      refine wpAnyH_take (i := 7) (v := ?vux7x33) rfl (by kernel_rfl) (by kernel_rfl) (by kernel_rfl) (fun _ _ _ h => h) (Or.inl ⟨by rfl, ?yux7x33⟩) hHeld ?rux7x33
      case yux7x33 =>
        intro w' hSw
        obtain ⟨hSw0, hSw1, hSw2, hSw3⟩ := hSw
        go_simp
        with_reducible rfl
      case rux7x33 =>
      have cp50 := zp5.c0
      have cp51 := zp5.c1
      have gp50 := zp5.fz 0
      have gp51 := zp5.fz 1
      refine wpAnyH_ready (rs := [10]) (by kernel_rfl) (by simp) ?_
      refine AllReadyH.cons rfl (fun K hK => ?_) AllReadyH.nil
      go_simp
      refine hK.out _ _ ⟨(HV.out _ ((KT.setCell hgp5 _).setCell hgp5 _)).1.1, (HV.out _ ((KT.setCell hgp5 _).setCell hgp5 _)).1.2, (HV.out _ ((KT.setCell hgp5 _).setCell hgp5 _)).2.1.1, (HV.out _ ((KT.setCell hgp5 _).setCell hgp5 _)).2.1.2⟩ (fun hHeld => ?_)
      clear hK K
      have ep5 := set2_at (x := (.bool sq)) (y := (.slice aq kq cq)) cp50 cp51
      have ng := D.NIs.box2 ng cp50 cp51 (.bool sq) (.slice aq kq cq)
      have nq := D.NIs.box2 nq cp50 cp51 (.bool sq) (.slice aq kq cq)
      have KT := (KT.setCell (p := ⟨p5, 0, none⟩) hgp5 (.bool sq)).setCell (p := ⟨p5, 1, none⟩) hgp5 (.slice aq kq cq)
      have zp6 := zp6.far dp6p5 (.bool sq) (.slice aq kq cq)
      clear cp50 cp51 gp50 gp51
      generalize ((wq.setCell ⟨p5, 0, none⟩ (.bool sq)).setCell ⟨p5, 1, none⟩ (.slice aq kq cq)) = Ws0 at ep5 zp6 ng nq KT hHeld ⊢
      have cp60 := zp6.c0
      have cp61 := zp6.c1
      have gp60 := zp6.fz 0
      have gp61 := zp6.fz 1
      refine wpAnyH_ready (rs := [11]) (by kernel_rfl) (by simp) ?_
      refine AllReadyH.cons rfl (fun K hK => ?_) AllReadyH.nil
      go_simp
      refine hK.out _ _ ⟨(HV.out _ ((KT.setCell hgp6 _).setCell hgp6 _)).1.1, (HV.out _ ((KT.setCell hgp6 _).setCell hgp6 _)).1.2, (HV.out _ ((KT.setCell hgp6 _).setCell hgp6 _)).2.1.1, (HV.out _ ((KT.setCell hgp6 _).setCell hgp6 _)).2.1.2⟩ (fun hHeld => ?_)
      clear hK K
      have ep6 := set2_at (x := (.bool tq)) (y := (.slice ar kr cr)) cp60 cp61
      have ep5 := And.intro (set2_far (x := (.bool tq)) (y := (.slice ar kr cr)) ep5.1 dp6p5) (set2_far (x := (.bool tq)) (y := (.slice ar kr cr)) ep5.2 dp6p5)
      have ng := D.NIs.box2 ng cp60 cp61 (.bool tq) (.slice ar kr cr)
      have nq := D.NIs.box2 nq cp60 cp61 (.bool tq) (.slice ar kr cr)
      have KT := (KT.setCell (p := ⟨p6, 0, none⟩) hgp6 (.bool tq)).setCell (p := ⟨p6, 1, none⟩) hgp6 (.slice ar kr cr)
      clear cp60 cp61 gp60 gp61
      generalize ((Ws0.setCell ⟨p6, 0, none⟩ (.bool tq)).setCell ⟨p6, 1, none⟩ (.slice ar kr cr)) = Ws1 at ep5 ep6  ng nq KT hHeld ⊢
      refine wpAnyH_done (by kernel_rfl) ?_ _
      go_wp2_with fail
      go_meet
      case rel => exact ⟨p5, sq, aq, kq, cq, rfl, KT, ep5, nq, HLq.out, hgp5⟩
    refine AllReadyH.cons rfl (fun K hK => ?_) AllReadyH.nil
    go_simp
    refine hK.out _ _ ⟨(HV.out _ (KT.alloc _)).1.1, (HV.out _ (KT.alloc _)).1.2, (HV.out _ (KT.alloc _)).2.1.1, (HV.out _ (KT.alloc _)).2.1.2⟩ (fun hHeld => ?_)
    clear hK K
    have zp5 : ZN (Wa9.alloc (.cells #[.bool false, .slice none 0 0] 56)) Wa9.heap.size := ZN.alloc _
    have hgp5 : W.heap.size ≤ Wa9.heap.size := KT.size
    have dp5p6 : ¬ (Wa9.heap.size = p6) := by have := zp6.lt; omega
    have dp6p5 : ¬ (p6 = Wa9.heap.size) := by have := zp6.lt; omega
    have zp6 := zp6.kept ((Kept.refl Wa9).alloc (.cells #[.bool false, .slice none 0 0] 56))
    have KT := KT.alloc (.cells #[.bool false, .slice none 0 0] 56)
    obtain ⟨p5, hpp5⟩ : ∃ p, p = Wa9.heap.size := ⟨_, rfl⟩
    rw [← hpp5] at zp5 hgp5 dp5p6 dp6p5 ⊢
    generalize Wa9.alloc (.cells #[.bool false, .slice none 0 0] 56) = Wa8 at zp5 zp6  KT hHeld ⊢
    clear hpp5
    refine wpAnyH_ready (rs := [3]) (by kernel_rfl) (by simp) ?_
    refine AllReadyH.cons rfl (fun K hK => ?_) AllReadyH.nil
    go_simp
    refine (D.Common_any m n aoa aob ka kb ca cb x y _ (HA.out.1.kept (HKW.out.trans KT)) (HA.out.2.1.kept (HKW.out.trans KT)) HL.out.1 HL.out.2).mono ?_
    rintro e wg ⟨hkg, ag, kg, cg, rfl, ng, lg⟩
    have HLg := hid' lg
    clear lg
    refine hK.out _ _ ⟨(HV.out _ (KT.trans hkg)).1.1, (HV.out _ (KT.trans hkg)).1.2, (HV.out _ (KT.trans hkg)).2.1.1, (HV.out _ (KT.trans hkg)).2.1.2⟩ (fun hHeld => ?_)
    clear hK K
    have zp6 := zp6.kept hkg
    have zp5 := zp5.kept hkg
    have KT := KT.trans hkg
    refine wpAnyH_ready (rs := [4]) (by kernel_rfl) (by simp) ?_
    refine AllReadyH.cons rfl (fun K hK => ?_) AllReadyH.nil
    go_simp
    refine (D.Divide_any n false aob ag kb kg cb cg y _ _ (HA.out.2.1.kept (HKW.out.trans KT)) ng HL.out.2 (by have h1 := HLg.out; have h2 := HL.out; omega) HG.out).mono ?_
    rintro e wq ⟨hkq, sq, aq, kq, cq, tq, ar, kr, cr, rfl, nq, nr, lq, lr⟩
    have HLq := hid' lq
    clear lq lr
    refine hK.out _ _ ⟨(HV.out _ (KT.trans hkq)).1.1, (HV.out _ (KT.trans hkq)).1.2, (HV.out _ (KT.trans hkq)).2.1.1, (HV.out _ (KT.trans hkq)).2.1.2⟩ (fun hHeld => ?_)
    clear hK K
    have zp6 := zp6.kept hkq
    have zp5 := zp5.kept hkq
    have ng := D.NIs.kept ng hkq
    have KT := KT.trans hkq
    refine wpAnyH_take (i := 5) (v := ?vux5x34) rfl (by kernel_rfl) (by kernel_rfl) (by kernel_rfl) (fun _ _ _ h => h) (Or.inl ⟨by rfl, ?yux5x34⟩) hHeld ?rux5x34
    case yux5x34 =>
      intro w' hSw
      obtain ⟨hSw0, hSw1, hSw2, hSw3⟩ := hSw
      go_simp
      with_reducible rfl
    case rux5x34 =>
    refine wpAnyH_take (i := 6) (v := ?vux6x35) rfl (by kernel_rfl) (by kernel_rfl) (by kernel_rfl) (fun _ _ _ h => h) (Or.inl ⟨by rfl, ?yux6x35⟩) hHeld ?rux6x35
    case yux6x35 =>
      intro w' hSw
      obtain ⟨hSw0, hSw1, hSw2, hSw3⟩ := hSw
      go_simp
      with_reducible rfl
    case rux6x35 =>
    refine wpAnyH_take (i := 7) (v := ?vux7x36) rfl (by kernel_rfl) (by kernel_rfl) (by kernel_rfl) (fun _ _ _ h => h) (Or.inl ⟨by rfl, ?yux7x36⟩) hHeld ?rux7x36
    case yux7x36 =>
      intro w' hSw
      obtain ⟨hSw0, hSw1, hSw2, hSw3⟩ := hSw
      go_simp
      with_reducible rfl
    case rux7x36 =>
    have cp50 := zp5.c0
    have cp51 := zp5.c1
    have gp50 := zp5.fz 0
    have gp51 := zp5.fz 1
    refine wpAnyH_ready (rs := [10]) (by kernel_rfl) (by simp) ?_
    refine AllReadyH.cons rfl (fun K hK => ?_) AllReadyH.nil
    go_simp
    refine hK.out _ _ ⟨(HV.out _ ((KT.setCell hgp5 _).setCell hgp5 _)).1.1, (HV.out _ ((KT.setCell hgp5 _).setCell hgp5 _)).1.2, (HV.out _ ((KT.setCell hgp5 _).setCell hgp5 _)).2.1.1, (HV.out _ ((KT.setCell hgp5 _).setCell hgp5 _)).2.1.2⟩ (fun hHeld => ?_)
    clear hK K
    have ep5 := set2_at (x := (.bool sq)) (y := (.slice aq kq cq)) cp50 cp51
    have ng := D.NIs.box2 ng cp50 cp51 (.bool sq) (.slice aq kq cq)
    have nq := D.NIs.box2 nq cp50 cp51 (.bool sq) (.slice aq kq cq)
    have KT := (KT.setCell (p := ⟨p5, 0, none⟩) hgp5 (.bool sq)).setCell (p := ⟨p5, 1, none⟩) hgp5 (.slice aq kq cq)
    have zp6 := zp6.far dp6p5 (.bool sq) (.slice aq kq cq)
    clear cp50 cp51 gp50 gp51
    generalize ((wq.setCell ⟨p5, 0, none⟩ (.bool sq)).setCell ⟨p5, 1, none⟩ (.slice aq kq cq)) = Ws0 at ep5 zp6 ng nq KT hHeld ⊢
    have cp60 := zp6.c0
    have cp61 := zp6.c1
    have gp60 := zp6.fz 0
    have gp61 := zp6.fz 1
    refine wpAnyH_ready (rs := [11]) (by kernel_rfl) (by simp) ?_
    refine AllReadyH.cons rfl (fun K hK => ?_) AllReadyH.nil
    go_simp
    refine hK.out _ _ ⟨(HV.out _ ((KT.setCell hgp6 _).setCell hgp6 _)).1.1, (HV.out _ ((KT.setCell hgp6 _).setCell hgp6 _)).1.2, (HV.out _ ((KT.setCell hgp6 _).setCell hgp6 _)).2.1.1, (HV.out _ ((KT.setCell hgp6 _).setCell hgp6 _)).2.1.2⟩ (fun hHeld => ?_)
    clear hK K
    have ep6 := set2_at (x := (.bool tq)) (y := (.slice ar kr cr)) cp60 cp61
    have ep5 := And.intro (set2_far (x := (.bool tq)) (y := (.slice ar kr cr)) ep5.1 dp6p5) (set2_far (x := (.bool tq)) (y := (.slice ar kr cr)) ep5.2 dp6p5)
    have ng := D.NIs.box2 ng cp60 cp61 (.bool tq) (.slice ar kr cr)
    have nq := D.NIs.box2 nq cp60 cp61 (.bool tq) (.slice ar kr cr)
    have KT := (KT.setCell (p := ⟨p6, 0, none⟩) hgp6 (.bool tq)).setCell (p := ⟨p6, 1, none⟩) hgp6 (.slice ar kr cr)
    clear cp60 cp61 gp60 gp61
    generalize ((Ws0.setCell ⟨p6, 0, none⟩ (.bool tq)).setCell ⟨p6, 1, none⟩ (.slice ar kr cr)) = Ws1 at ep5 ep6  ng nq KT hHeld ⊢
    refine wpAnyH_done (by kernel_rfl) ?_ _
    go_wp2_with fail
    go_meet
    case rel => exact ⟨p5, sq, aq, kq, cq, rfl, KT, ep5, nq, HLq.out, hgp5⟩

  case rest =>
    obtain ⟨p5, sq, aq, kq, cq, rfl, HC⟩ := hcut
    obtain ⟨⟨q0, q1⟩, -, -⟩ := HV.out _ HC.out.1
    have q2 := HC.out.2.1.1
    have q3 := HC.out.2.1.2
    have n4 := HP.out.2.2
    go_wp2_with fail
    refine (D.Times_any m sq aoa aq ka kq ca cq x _ _ (HA.out.1.kept (HKW.out.trans HC.out.1)) HC.out.2.2.1 (by have := HL.out.1; omega) (by have h1 := HL.out.2; have h2 := HC.out.2.2.2.1; omega)).mono ?_
    rw [HM.out]
    rintro e w2 ⟨hk2, s, ao, k, c, rfl, hn, hl⟩
    have HK2 := hid' (HC.out.1.trans hk2)
    have z := (HV.out _ HK2.out).2.2
    have HN := hid' (And.intro hn (And.intro hl z))
    have e0 := z.c0
    have e1 := z.c1
    have e2 := z.fz 0
    have e3 := z.fz 1
    clear q0 q1 q2 q3 hk2 hn hl z
    go_wp2
    refine bodyPost_ret (v := .agg #[.bool s, .slice ao k c]) (by simp [results, Try.results32, go_sem, e0, e1]) rfl ⟨((HKW.out.trans HK2.out).setCell HP.out.1 _).setCell HP.out.1 _, s, ao, k, c, rfl, D.NIs.box2 HN.out.1 e0 e1 _ _, by have h1 := HN.out.2.1; have h2 := HC.out.2.2.2.1; omega⟩

end F
end Go.Proofs.Ytfpcoolkkmnngaa
