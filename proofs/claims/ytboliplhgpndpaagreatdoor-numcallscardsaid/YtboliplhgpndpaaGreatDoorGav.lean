/- shuntref02: Take, Give, told, Times, Held. shuntref02: Take, Give, told. shuntref02: Plus, Over, Held, Minus, Less, Sign. shuntref02: told, Make. rat's Make, Round, Whole, of whatever is handed in. -/
import Derived.Test.YtboliplhgpndpaaGreatDoorGlow
import Derived.Test.YtboliplhgpndpaaGreatDoorGaj
import Derived.Test.YtboliplhgpndpaaGreatDoorGah
import Derived.Test.YtboliplhgpndpaaGreatDoorFfault
import Derived.Test.YtboliplhgpndpaaGreatDoorGap
import Derived.Test.YtboliplhgpndpaaGreatDoorFround
namespace Go.Proofs.YtboliplhgpndpaaGreatDoor
open Go.RowKit
namespace F
def ToldIs (B : Nat) (w : World) (e : Ending) (N D : Int) : Prop :=
 (∃ s ao k c l t ap k' c' l', e = .returned (.tuple #[.agg #[.bool s, .slice ao k c, .bool t, .slice ap k' c'], .int .i64 0]) ∧ New B w (.slice ao k c) l ∧ M.Right s l ∧ M.int s l = N ∧ New B w (.slice ap k' c') l' ∧ M.Right t l' ∧ M.int t l' = D) ∨ (e = .returned (.tuple #[.agg #[.bool false, .slice none 0 0, .bool false, .slice none 0 0], .int .i64 13]) ∧ (M.W72 ≤ N.natAbs ∨ M.W72 ≤ D.natAbs))
theorem New.rset4 {B p : Nat} {w : World} {v : Value} {l : List Nat} {y0 y1 y2 y3 : Value} (h : New B w v l) (hz : RRow w p y0 y1 y2 y3) (x0 x1 x2 x3 : Value) : New B (put4 w p x0 x1 x2 x3) v l := by
 obtain ⟨hb, ⟨rfl, rfl⟩ | ⟨b, N, f, rfl, hB, hN, hr, hf⟩⟩ := h
 ·
  exact ⟨hb, .inl ⟨rfl, rfl⟩⟩
 ·
  have hne : b ≠ p := by
   intro e
   subst e
   obtain ⟨c, h1, _, _⟩ := hr
   obtain ⟨c', h2, _, _⟩ := hz
   rw [h1] at h2
   simp at h2
  exact ⟨hb, .inr ⟨b, N, f, rfl, hB, hN, World.rowIs.setOther (World.rowIs.setOther (World.rowIs.setOther (World.rowIs.setOther hr hne x0) hne x1) hne x2) hne x3, hf⟩⟩
set_option maxRecDepth 100000 in
set_option maxHeartbeats 4000000 in
theorem FTimes_any (s t s' t' : Bool) (a1 a2 b1 b2 : Option Addr) (k1 c1 k2 c2 k3 c3 k4 c4 : Nat) (X Y X' Y' : Int) (w : World) (h1 : D.NIs w s (.slice a1 k1 c1) X) (h2 : D.NIs w t (.slice a2 k2 c2) Y) (h3 : D.NIs w s' (.slice b1 k3 c3) X') (h4 : D.NIs w t' (.slice b2 k4 c4) Y') (hk1 : k1 + k3 ≤ 1000) (hk2 : k2 + k4 ≤ 1000) (hy : Y ≠ 0) (hy' : Y' ≠ 0) :
  Calls Tryz.prog 83 #[.agg #[.bool s, .slice a1 k1 c1, .bool t, .slice a2 k2 c2], .agg #[.bool s', .slice b1 k3 c3, .bool t', .slice b2 k4 c4]] w fun e w' => Kept w w' ∧ ∃ v N D, e = .returned v ∧ FIs w' v N D (k1 + k3) (k2 + k4) ∧ Low (X * X') (Y * Y') N D := by
 have HA : Hid (D.NIs w s (.slice a1 k1 c1) X ∧ D.NIs w t (.slice a2 k2 c2) Y ∧ D.NIs w s' (.slice b1 k3 c3) X' ∧ D.NIs w t' (.slice b2 k4 c4) Y') := ⟨h1, h2, h3, h4⟩
 have HL : Hid (k1 + k3 ≤ 1000 ∧ k2 + k4 ≤ 1000 ∧ Y * Y' ≠ 0) := ⟨hk1, hk2, Int.mul_ne_zero hy hy'⟩
 clear h1 h2 h3 h4 hk1 hk2 hy hy'
 go_enter Tryz.func83, Tryz.ntmps83
 go_upto_region 1 with fail
 have r2 := ((FRow.alloc w (.bool s) (.slice a1 k1 c1) (.bool t) (.slice a2 k2 c2)).kept (((Kept.refl _).alloc (.cells #[.bool s', .slice b1 k3 c3, .bool t', .slice b2 k4 c4] 93)).alloc (.cells #[.bool false, .slice none 0 0, .bool false, .slice none 0 0] 93)))
 have r3 := ((FRow.alloc (w.alloc (.cells #[.bool s, .slice a1 k1 c1, .bool t, .slice a2 k2 c2] 93)) (.bool s') (.slice b1 k3 c3) (.bool t') (.slice b2 k4 c4)).kept ((Kept.refl _).alloc (.cells #[.bool false, .slice none 0 0, .bool false, .slice none 0 0] 93)))
 have r4 := FRow.alloc ((w.alloc (.cells #[.bool s, .slice a1 k1 c1, .bool t, .slice a2 k2 c2] 93)).alloc (.cells #[.bool s', .slice b1 k3 c3, .bool t', .slice b2 k4 c4] 93)) (.bool false) (.slice none 0 0) (.bool false) (.slice none 0 0)
 have hK := ((((Kept.refl w).alloc (.cells #[.bool s, .slice a1 k1 c1, .bool t, .slice a2 k2 c2] 93)).alloc (.cells #[.bool s', .slice b1 k3 c3, .bool t', .slice b2 k4 c4] 93)).alloc (.cells #[.bool false, .slice none 0 0, .bool false, .slice none 0 0] 93))
 simp only [World.size_alloc] at r3 r4
 generalize ((w.alloc (.cells #[.bool s, .slice a1 k1 c1, .bool t, .slice a2 k2 c2] 93)).alloc (.cells #[.bool s', .slice b1 k3 c3, .bool t', .slice b2 k4 c4] 93)).alloc (.cells #[.bool false, .slice none 0 0, .bool false, .slice none 0 0] 93) = W at r2 r3 r4 hK ⊢
 obtain ⟨p4, hp4⟩ : ∃ p, p = w.heap.size + 1 + 1 := ⟨_, rfl⟩
 rw [← hp4] at r4 ⊢
 obtain ⟨p3, hp3⟩ : ∃ p, p = w.heap.size + 1 := ⟨_, rfl⟩
 rw [← hp3] at r3 ⊢
 obtain ⟨p2, hp2⟩ : ∃ p, p = w.heap.size := ⟨_, rfl⟩
 rw [← hp2] at r2 ⊢
 have HP : Hid (w.heap.size ≤ p4) := by show _ ≤ _; omega
 have n42 : ¬ p4 = p2 := by omega
 have n43 : ¬ p4 = p3 := by omega
 have HV : Hid (∀ V, Kept W V → FRow V p2 (.bool s) (.slice a1 k1 c1) (.bool t) (.slice a2 k2 c2) ∧ FRow V p3 (.bool s') (.slice b1 k3 c3) (.bool t') (.slice b2 k4 c4) ∧ FRow V p4 (.bool false) (.slice none 0 0) (.bool false) (.slice none 0 0) ∧ Kept w V) := fun V hV => ⟨r2.kept hV, r3.kept hV, r4.kept hV, hK.trans hV⟩
 have q0 := r2.c0
 have q1 := r2.c1
 have q2 := r2.c2
 have q3 := r2.c3
 have q4 := r3.c0
 have q5 := r3.c1
 have q6 := r3.c2
 have q7 := r3.c3
 clear hp2 hp3 hp4 r2 r3 r4 hK
 go_region_held3 (fun w' => w'.cell? ⟨p2, 0, none⟩ = some (.bool s) ∧ w'.cell? ⟨p2, 1, none⟩ = some (.slice a1 k1 c1) ∧ w'.cell? ⟨p2, 2, none⟩ = some (.bool t) ∧ w'.cell? ⟨p2, 3, none⟩ = some (.slice a2 k2 c2) ∧ w'.cell? ⟨p3, 0, none⟩ = some (.bool s') ∧ w'.cell? ⟨p3, 1, none⟩ = some (.slice b1 k3 c3) ∧ w'.cell? ⟨p3, 2, none⟩ = some (.bool t') ∧ w'.cell? ⟨p3, 3, none⟩ = some (.slice b2 k4 c4)) (go_keep) (first
  | (go_at_call_of 29 (Value.slice a1 k1 c1); refine (D.Times_any s s' a1 b1 k1 k3 c1 c3 X X' _ (HA.out.1.kept (HV.out _ (Kept.refl _).drew).2.2.2) (HA.out.2.2.1.kept (HV.out _ (Kept.refl _).drew).2.2.2) (by have := HL.out; omega) (by have := HL.out; omega)).mono ?_; rintro e w3 ⟨hk3, s3, a3, k3', c3', rfl, n3, l3⟩; have K3 := (Kept.refl W).drew.trans hk3; have H3 := hid' (And.intro n3 l3); clear n3 l3; obtain ⟨⟨d0, d1, d2, d3⟩, d4, d5, d6, d7⟩ := frow_two (HV.out _ K3).1 (HV.out _ K3).2.1)
  | (go_at_call_of 29 (Value.slice a2 k2 c2); refine (D.Times_any t t' a2 b2 k2 k4 c2 c4 Y Y' _ (HA.out.2.1.kept (HV.out _ K3).2.2.2) (HA.out.2.2.2.kept (HV.out _ K3).2.2.2) (by have := HL.out; omega) (by have := HL.out; omega)).mono ?_; rintro e w4 ⟨hk4, s4, a4, k4', c4', rfl, n4, l4⟩; have K4 := K3.trans hk4; have H4 := hid' (And.intro n4 (And.intro l4 (H3.out.1.kept hk4))); clear n4 l4; obtain ⟨⟨b0', b1', b2', b3'⟩, b4', b5', b6', b7'⟩ := frow_two (HV.out _ K4).1 (HV.out _ K4).2.1)
  | (go_at_call 76; refine (Lowest_any s3 s4 a3 a4 k3' c3' k4' c4' (X * X') (Y * Y') _ H4.out.2.2 H4.out.1 (by have h1 := H3.out.2; have h2 := HL.out; omega) (by have h1 := H4.out.2.1; have h2 := HL.out; omega) HL.out.2.2).mono ?_; rintro e w5 ⟨hk5, v5, N5, D5, rfl, hF5, hL5⟩; have K5 := K4.trans hk5; obtain ⟨s5, a5, k5, c5, t5, a6, k6, c6, rfl, n5, n6, l5, l6⟩ := hF5; have H5 := hid' (And.intro n5 (And.intro n6 (And.intro l5 (And.intro l6 hL5)))); clear n5 n6 l5 l6 hL5; obtain ⟨⟨g0, g1, g2, g3⟩, g4, g5, g6, g7⟩ := frow_two (HV.out _ K5).1 (HV.out _ K5).2.1; have z4 := (HV.out _ K5).2.2.1; have e0 := z4.c0; have e1 := z4.c1; have e2 := z4.c2; have e3 := z4.c3; have y0 := z4.fz 0; have y1 := z4.fz 1; have y2 := z4.fz 2; have y3 := z4.fz 3))
 have HZ := hid' (And.intro z4 (HV.out _ K5).2.2.2)
 have HLL : Hid (k5 ≤ k1 + k3 ∧ k6 ≤ k2 + k4) := by have h1 := H3.out.2; have h2 := H4.out.2.1; have h3 := H5.out; show _ ∧ _; omega
 clear q0 q1 q2 q3 q4 q5 q6 q7 d0 d1 d2 d3 d4 d5 d6 d7 b0' b1' b2' b3' b4' b5' b6' b7' g0 g1 g2 g3 g4 g5 g6 g7 hk3 hk4 hk5 K3 K4 K5 HV z4
 go_wp2
 refine bodyPost_ret (v := .agg #[.bool s5, .slice a5 k5 c5, .bool t5, .slice a6 k6 c6]) (by simp [results, Tryz.results83, go_sem, e0, e1, e2, e3]) rfl ⟨Kept.put4 HZ.out.2 HP.out _ _ _ _, _, N5, D5, rfl, ⟨s5, a5, k5, c5, t5, a6, k6, c6, rfl, nset4 H5.out.1 HZ.out.1, nset4 H5.out.2.1 HZ.out.1, HLL.out.1, HLL.out.2⟩, H5.out.2.2.2.2⟩
end F
end Go.Proofs.YtboliplhgpndpaaGreatDoor

namespace Go.Proofs.YtboliplhgpndpaaGreatDoor
open Go.RowKit
namespace F
theorem frow_all {w : World} {p : Nat} {x0 x1 x2 x3 : Value} (h : FRow w p x0 x1 x2 x3) : w.cell? ⟨p, 0, none⟩ = some x0 ∧ w.cell? ⟨p, 1, none⟩ = some x1 ∧ w.cell? ⟨p, 2, none⟩ = some x2 ∧ w.cell? ⟨p, 3, none⟩ = some x3 := ⟨h.c0, h.c1, h.c2, h.c3⟩
def ToldX (B : Nat) (w : World) (s : Bool) (ao : Option Addr) (k c : Nat) (t : Bool) (ap : Option Addr) (k' c' : Nat) (ec N Q : Int) : Prop :=
 (ec = 0 ∧ ∃ l l', New B w (.slice ao k c) l ∧ M.Right s l ∧ M.int s l = N ∧ New B w (.slice ap k' c') l' ∧ M.Right t l' ∧ M.int t l' = Q) ∨ (ec = 13 ∧ s = false ∧ t = false ∧ (ao, k, c) = (none, 0, 0) ∧ (ap, k', c') = (none, 0, 0) ∧ (M.W72 ≤ N.natAbs ∨ M.W72 ≤ Q.natAbs))
theorem ToldIs.split {B : Nat} {w : World} {e : Ending} {N Q : Int} (h : ToldIs B w e N Q) : ∃ s ao k c t ap k' c' ec, e = .returned (.tuple #[.agg #[.bool s, .slice ao k c, .bool t, .slice ap k' c'], .int .i64 ec]) ∧ ToldX B w s ao k c t ap k' c' ec N Q := by
 rcases h with ⟨s, ao, k, c, l, t, ap, k', c', l', rfl, h1, h2, h3, h4, h5, h6⟩ | ⟨rfl, h⟩
 ·
  exact ⟨s, ao, k, c, t, ap, k', c', 0, rfl, .inl ⟨rfl, l, l', h1, h2, h3, h4, h5, h6⟩⟩
 ·
  exact ⟨false, none, 0, 0, false, none, 0, 0, 13, rfl, .inr ⟨rfl, rfl, rfl, rfl, rfl, h⟩⟩
theorem ToldX.mono {B B' : Nat} {w : World} {s t : Bool} {ao ap : Option Addr} {k c k' c' : Nat} {ec N Q : Int} (h : ToldX B w s ao k c t ap k' c' ec N Q) (hB : B' ≤ B) : ToldX B' w s ao k c t ap k' c' ec N Q := by
 rcases h with ⟨e, l, l', h1, h2, h3, h4, h5⟩ | h
 ·
  exact .inl ⟨e, l, l', h1.mono hB, h2, h3, h4.mono hB, h5⟩
 ·
  exact .inr h
theorem ToldX.put4 {B p : Nat} {w : World} {s t : Bool} {ao ap : Option Addr} {k c k' c' : Nat} {ec N Q : Int} {y0 y1 y2 y3 : Value} (h : ToldX B w s ao k c t ap k' c' ec N Q) (hz : RRow w p y0 y1 y2 y3) (x0 x1 x2 x3 : Value) : ToldIs B (F.put4 w p x0 x1 x2 x3) (.returned (.tuple #[.agg #[.bool s, .slice ao k c, .bool t, .slice ap k' c'], .int .i64 ec])) N Q := by
 rcases h with ⟨rfl, l, l', h1, h2, h3, h4, h5, h6⟩ | ⟨rfl, rfl, rfl, h1, h2, h3⟩
 ·
  exact .inl ⟨s, ao, k, c, l, t, ap, k', c', l', rfl, New.rset4 h1 hz _ _ _ _, h2, h3, New.rset4 h4 hz _ _ _ _, h5, h6⟩
 ·
  simp only [Prod.mk.injEq] at h1 h2
  obtain ⟨rfl, rfl, rfl⟩ := h1
  obtain ⟨rfl, rfl, rfl⟩ := h2
  exact .inr ⟨rfl, h3⟩
def GivenIs (B : Nat) (w : World) (e : Ending) (N D : Int) (k k' : Nat) : Prop :=
 ∃ s ao n c l t ap n' c' l', e = .returned (.agg #[.bool s, .slice ao n c, .bool t, .slice ap n' c']) ∧ New B w (.slice ao n c) l ∧ M.Tr l ∧ M.int s l = N ∧ l.length = (k + 1) / 2 ∧ (l = [] → s = false) ∧ New B w (.slice ap n' c') l' ∧ M.Tr l' ∧ M.int t l' = D ∧ l'.length = (k' + 1) / 2 ∧ (l' = [] → t = false)
theorem give_int {s : Bool} {l d : List Nat} (h : M.val l = D.val d) : M.int s l = D.int s d := by unfold M.int D.int; rw [h]
theorem give_zero {s : Bool} {l d : List Nat} (h : D.Right s d) (hl : l.length = (d.length + 1) / 2) (e : l = []) : s = false := by
 apply h.zero
 rw [e] at hl
 simp at hl
 exact List.length_eq_zero_iff.1 (by omega)
set_option maxRecDepth 100000 in
set_option maxHeartbeats 4000000 in
theorem FGive_any (s t : Bool) (a1 a2 : Option Addr) (k1 c1 k2 c2 : Nat) (N Q : Int) (w : World) (h1 : D.NIs w s (.slice a1 k1 c1) N) (h2 : D.NIs w t (.slice a2 k2 c2) Q) (hl1 : k1 ≤ 10000) (hl2 : k2 ≤ 10000) :
  Calls Tryz.prog 41 #[.agg #[.bool s, .slice a1 k1 c1, .bool t, .slice a2 k2 c2]] w fun e w' => Kept w w' ∧ GivenIs w.heap.size w' e N Q k1 k2 := by
 obtain ⟨d1, s1, r1, i1, rfl⟩ := h1.len
 obtain ⟨d2, s2, r2, i2, rfl⟩ := h2.len
 have HA : Hid ((D.Sl w (.slice a1 d1.length c1) d1 ∧ D.Right s d1 ∧ D.int s d1 = N) ∧ (D.Sl w (.slice a2 d2.length c2) d2 ∧ D.Right t d2 ∧ D.int t d2 = Q) ∧ d1.length ≤ 10000 ∧ d2.length ≤ 10000) := ⟨⟨s1, r1, i1⟩, ⟨s2, r2, i2⟩, hl1, hl2⟩
 clear h1 h2 s1 r1 i1 s2 r2 i2 hl1 hl2
 go_enter Tryz.func41, Tryz.ntmps41
 go_upto_region 1 with fail
 have r1 := ((FRow.alloc w (.bool s) (.slice a1 d1.length c1) (.bool t) (.slice a2 d2.length c2)).kept ((Kept.refl _).alloc (.cells #[.bool false, .slice none 0 0, .bool false, .slice none 0 0] 39)))
 have r2 := RRow.alloc (w.alloc (.cells #[.bool s, .slice a1 d1.length c1, .bool t, .slice a2 d2.length c2] 93)) (.bool false) (.slice none 0 0) (.bool false) (.slice none 0 0)
 have hK := ((Kept.refl w).alloc (.cells #[.bool s, .slice a1 d1.length c1, .bool t, .slice a2 d2.length c2] 93)).alloc (.cells #[.bool false, .slice none 0 0, .bool false, .slice none 0 0] 39)
 simp only [World.size_alloc] at r2
 generalize (w.alloc (.cells #[.bool s, .slice a1 d1.length c1, .bool t, .slice a2 d2.length c2] 93)).alloc (.cells #[.bool false, .slice none 0 0, .bool false, .slice none 0 0] 39) = W at r1 r2 hK ⊢
 obtain ⟨p2, hp2⟩ : ∃ p, p = w.heap.size + 1 := ⟨_, rfl⟩
 rw [← hp2] at r2 ⊢
 obtain ⟨p1, hp1⟩ : ∃ p, p = w.heap.size := ⟨_, rfl⟩
 rw [← hp1] at r1 ⊢
 have HP : Hid (w.heap.size ≤ p2 ∧ w.heap.size ≤ W.heap.size) := ⟨by omega, hK.size⟩
 have n21 : ¬ p2 = p1 := by omega
 have HV : Hid (∀ V, Kept W V → FRow V p1 (.bool s) (.slice a1 d1.length c1) (.bool t) (.slice a2 d2.length c2) ∧ RRow V p2 (.bool false) (.slice none 0 0) (.bool false) (.slice none 0 0) ∧ Kept w V) := fun V hV => ⟨r1.kept hV, r2.kept hV, hK.trans hV⟩
 obtain ⟨q0, q1, q2, q3⟩ := frow_all r1
 clear hp1 hp2 r1 r2 hK
 go_region_held3 (fun w' => w'.cell? ⟨p1, 0, none⟩ = some (.bool s) ∧ w'.cell? ⟨p1, 1, none⟩ = some (.slice a1 d1.length c1) ∧ w'.cell? ⟨p1, 2, none⟩ = some (.bool t) ∧ w'.cell? ⟨p1, 3, none⟩ = some (.slice a2 d2.length c2)) (go_keep) (first
  | (go_at_call_of 75 (Value.slice a1 d1.length c1); refine (D.Give_any s a1 c1 d1 _ (HA.out.1.1.kept (HV.out _ (Kept.refl _).drew).2.2) HA.out.1.2.1.tr HA.out.2.2.1).mono ?_; rintro e w3 ⟨hk3, a3, k3, c3, l3, rfl, n3, t3, v3, e3'⟩; have K3 := (Kept.refl W).drew.trans hk3; have H3 := hid' (And.intro (n3.mono (Nat.le_trans HP.out.2 (Kept.refl W).drew.size)) (And.intro t3 (And.intro v3 e3'))); clear n3 t3 v3 e3'; obtain ⟨d0, d1', d2', d3⟩ := frow_all (HV.out _ K3).1)
  | (go_at_call_of 75 (Value.slice a2 d2.length c2); refine (D.Give_any t a2 c2 d2 _ (HA.out.2.1.1.kept (HV.out _ K3).2.2) HA.out.2.1.2.1.tr HA.out.2.2.2).mono ?_; rintro e w4 ⟨hk4, a4, k4, c4, l4, rfl, n4, t4, v4, e4'⟩; have K4 := K3.trans hk4; have H4 := hid' (And.intro (n4.mono (Nat.le_trans HP.out.2 K3.size)) (And.intro t4 (And.intro v4 (And.intro e4' (H3.out.1.kept hk4))))); clear n4 t4 v4 e4'; obtain ⟨g0, g1, g2, g3⟩ := frow_all (HV.out _ K4).1; have z4 := (HV.out _ K4).2.1; have e0 := z4.c0; have e1 := z4.c1; have e2 := z4.c2; have e3 := z4.c3; have y0 := z4.fz 0; have y1 := z4.fz 1; have y2 := z4.fz 2; have y3 := z4.fz 3))
 have HZ := hid' (And.intro z4 (HV.out _ K4).2.2)
 clear q0 q1 q2 q3 d0 d1' d2' d3 g0 g1 g2 g3 hk3 hk4 K3 K4 HV z4
 go_wp2
 refine bodyPost_ret (v := .agg #[.bool s, .slice a3 k3 c3, .bool t, .slice a4 k4 c4]) (by simp [results, Tryz.results41, go_sem, e0, e1, e2, e3]) rfl ⟨Kept.put4 HZ.out.2 HP.out.1 _ _ _ _, s, a3, k3, c3, l3, t, a4, k4, c4, l4, rfl, New.rset4 H4.out.2.2.2.2 HZ.out.1 _ _ _ _, H3.out.2.1, ?_, H3.out.2.2.2, give_zero HA.out.1.2.1 H3.out.2.2.2, New.rset4 H4.out.1 HZ.out.1 _ _ _ _, H4.out.2.1, ?_, H4.out.2.2.2.1, give_zero HA.out.2.1.2.1 H4.out.2.2.2.1⟩
 ·
  rw [give_int H3.out.2.2.1]; exact HA.out.1.2.2
 ·
  rw [give_int H4.out.2.2.1]; exact HA.out.2.1.2.2
end F
end Go.Proofs.YtboliplhgpndpaaGreatDoor

namespace Go.Proofs.YtboliplhgpndpaaGreatDoor
open Go.RowKit
namespace F
set_option maxRecDepth 100000 in
set_option maxHeartbeats 4000000 in
theorem FHeld_any (s t s' t' : Bool) (a1 a2 b1 b2 : Option Addr) (k1 c1 k2 c2 k3 c3 k4 c4 : Nat) (X Y X' Y' : Int) (w : World) (h1 : D.NIs w s (.slice a1 k1 c1) X) (h2 : D.NIs w t (.slice a2 k2 c2) Y) (h3 : D.NIs w s' (.slice b1 k3 c3) X') (h4 : D.NIs w t' (.slice b2 k4 c4) Y') (hk : k1 ≤ 300 ∧ k2 ≤ 300 ∧ k3 ≤ 300 ∧ k4 ≤ 300) :
  Calls Tryz.prog 46 #[.agg #[.bool s, .slice a1 k1 c1, .bool t, .slice a2 k2 c2], .agg #[.bool s', .slice b1 k3 c3, .bool t', .slice b2 k4 c4]] w fun e w' => Kept w w' ∧ e = .returned (.int .i64 (isgn (X * Y') (X' * Y))) := by
 have HA : Hid (D.NIs w s (.slice a1 k1 c1) X ∧ D.NIs w t (.slice a2 k2 c2) Y ∧ D.NIs w s' (.slice b1 k3 c3) X' ∧ D.NIs w t' (.slice b2 k4 c4) Y' ∧ True) := ⟨h1, h2, h3, h4, trivial⟩
 have HL : Hid ((k1 ≤ 300 ∧ k2 ≤ 300 ∧ k3 ≤ 300 ∧ k4 ≤ 300) ∧ True) := ⟨hk, trivial⟩
 clear h1 h2 h3 h4 hk
 go_enter Tryz.func46, Tryz.ntmps46
 go_upto_region 1 with fail
 have r2 := ((FRow.alloc w (.bool s) (.slice a1 k1 c1) (.bool t) (.slice a2 k2 c2)).kept (((Kept.refl _).alloc (.cells #[.bool s', .slice b1 k3 c3, .bool t', .slice b2 k4 c4] 93))))
 have r3 := ((FRow.alloc (w.alloc (.cells #[.bool s, .slice a1 k1 c1, .bool t, .slice a2 k2 c2] 93)) (.bool s') (.slice b1 k3 c3) (.bool t') (.slice b2 k4 c4)).kept ((Kept.refl _)))
 have r4 := trivial
 have hK := ((((Kept.refl w).alloc (.cells #[.bool s, .slice a1 k1 c1, .bool t, .slice a2 k2 c2] 93)).alloc (.cells #[.bool s', .slice b1 k3 c3, .bool t', .slice b2 k4 c4] 93)))
 simp only [World.size_alloc] at r3
 generalize ((w.alloc (.cells #[.bool s, .slice a1 k1 c1, .bool t, .slice a2 k2 c2] 93)).alloc (.cells #[.bool s', .slice b1 k3 c3, .bool t', .slice b2 k4 c4] 93)) = W at r2 r3 hK ⊢
 obtain ⟨p4, hp4⟩ : ∃ p, p = w.heap.size + 1 + 1 := ⟨_, rfl⟩
 obtain ⟨p3, hp3⟩ : ∃ p, p = w.heap.size + 1 := ⟨_, rfl⟩
 rw [← hp3] at r3 ⊢
 obtain ⟨p2, hp2⟩ : ∃ p, p = w.heap.size := ⟨_, rfl⟩
 rw [← hp2] at r2 ⊢
 have HP : Hid (w.heap.size ≤ p4) := by show _ ≤ _; omega
 have n42 : ¬ p4 = p2 := by omega
 have n43 : ¬ p4 = p3 := by omega
 have HV : Hid (∀ V, Kept W V → FRow V p2 (.bool s) (.slice a1 k1 c1) (.bool t) (.slice a2 k2 c2) ∧ FRow V p3 (.bool s') (.slice b1 k3 c3) (.bool t') (.slice b2 k4 c4) ∧ True ∧ Kept w V) := fun V hV => ⟨r2.kept hV, r3.kept hV, trivial, hK.trans hV⟩
 obtain ⟨⟨q0', q1', q2', q3'⟩, q4', q5', q6', q7'⟩ := frow_two r2 r3
 clear hp2 hp3 hp4 r2 r3 r4 hK
 go_region_held3 (fun w' => w'.cell? ⟨p2, 0, none⟩ = some (.bool s) ∧ w'.cell? ⟨p2, 1, none⟩ = some (.slice a1 k1 c1) ∧ w'.cell? ⟨p2, 2, none⟩ = some (.bool t) ∧ w'.cell? ⟨p2, 3, none⟩ = some (.slice a2 k2 c2) ∧ w'.cell? ⟨p3, 0, none⟩ = some (.bool s') ∧ w'.cell? ⟨p3, 1, none⟩ = some (.slice b1 k3 c3) ∧ w'.cell? ⟨p3, 2, none⟩ = some (.bool t') ∧ w'.cell? ⟨p3, 3, none⟩ = some (.slice b2 k4 c4)) (go_keep) (first
  | (go_at_call_of 29 (Value.slice a1 k1 c1); refine (D.Times_any s t' a1 b2 k1 k4 c1 c4 X Y' _ (HA.out.1.kept (HV.out _ (Kept.refl _).drew).2.2.2) (HA.out.2.2.2.1.kept (HV.out _ (Kept.refl _).drew).2.2.2) (by have := HL.out.1; omega) (by have := HL.out.1; omega)).mono ?_; rintro e w1 ⟨hk1, s1x, a1x, k1x, c1x, rfl, n1, l1⟩; have H1' : Hid (D.NIs w1 s1x (.slice a1x k1x c1x) (X * Y') ∧ k1x ≤ 600) := ⟨n1, by have := HL.out.1; omega⟩; clear n1 l1; have K1 := (Kept.refl W).drew.trans hk1; obtain ⟨⟨da0', da1', da2', da3'⟩, da4', da5', da6', da7'⟩ := frow_two (HV.out _ K1).1 (HV.out _ K1).2.1)
  | (go_at_call 29; refine (D.Times_any s' t b1 a2 k3 k2 c3 c2 X' Y _ (HA.out.2.2.1.kept (HV.out _ K1).2.2.2) (HA.out.2.1.kept (HV.out _ K1).2.2.2) (by have := HL.out.1; omega) (by have := HL.out.1; omega)).mono ?_; rintro e w2 ⟨hk2, s2x, a2x, k2x, c2x, rfl, n2, l2⟩; have H2' : Hid (D.NIs w2 s2x (.slice a2x k2x c2x) (X' * Y) ∧ k2x ≤ 600) := ⟨n2, by have := HL.out.1; omega⟩; clear n2 l2; have K2 := K1.trans hk2; obtain ⟨⟨db0', db1', db2', db3'⟩, db4', db5', db6', db7'⟩ := frow_two (HV.out _ K2).1 (HV.out _ K2).2.1)
  | (go_at_call 63; refine (D.Held_any s1x s2x a1x a2x k1x k2x c1x c2x _ _ _ (H1'.out.1.kept hk2) H2'.out.1 (by have := H1'.out.2; omega) (by have := H2'.out.2; omega)).mono ?_; rintro e w3 ⟨rfl, hk3⟩; have K3 := K2.trans hk3; obtain ⟨⟨dc0', dc1', dc2', dc3'⟩, dc4', dc5', dc6', dc7'⟩ := frow_two (HV.out _ K3).1 (HV.out _ K3).2.1))
 have HZ := hid' (HV.out _ K3).2.2.2
 clear q0' q1' q2' q3' q4' q5' q6' q7' da0' da1' da2' da3' da4' da5' da6' da7' db0' db1' db2' db3' db4' db5' db6' db7' dc0' dc1' dc2' dc3' dc4' dc5' dc6' dc7' hk1 hk2 hk3 K1 K2 K3 HV
 go_wp2
 go_ret
 exact ⟨HZ.out, rfl⟩
end F
end Go.Proofs.YtboliplhgpndpaaGreatDoor

namespace Go.Proofs.YtboliplhgpndpaaGreatDoor
open Go.RowKit
namespace F
def MadeIs (B : Nat) (w : World) (e : Ending) (m n : Bool) (a b : List Nat) : Prop :=
 (¬ (R m a ∧ R n b) ∧ e = .returned (.tuple #[.agg #[.bool false, .slice none 0 0, .bool false, .slice none 0 0], .int .i64 10])) ∨ (R m a ∧ R n b ∧ ((b.length = 0 ∧ e = .returned (.tuple #[.agg #[.bool false, .slice none 0 0, .bool false, .slice none 0 0], .int .i64 11])) ∨ (0 < b.length ∧ ∃ N Q, Low (M.int m a) (M.int n b) N Q ∧ ToldIs B w e N Q)))
end F
end Go.Proofs.YtboliplhgpndpaaGreatDoor

namespace Go.Proofs.YtboliplhgpndpaaGreatDoor
open Go.RowKit
namespace F
def FaultC (m n : Bool) (a d : List Nat) (c : Int) : Prop := (c = 10 ∧ ¬ (R m a ∧ R n d)) ∨ (c = 20 ∧ R m a ∧ R n d ∧ ¬ RatR m n a d) ∨ (c = 0 ∧ RatR m n a d)
theorem FaultC.one {m n : Bool} {a d : List Nat} {c c' : Int} (h : FaultC m n a d c) (h' : FaultC m n a d c') : c = c' := by
 rcases h with ⟨rfl, h⟩ | ⟨rfl, h1, h2, h3⟩ | ⟨rfl, h⟩ <;> rcases h' with ⟨rfl, h'⟩ | ⟨rfl, h1', h2', h3'⟩ | ⟨rfl, h'⟩
 ·
  rfl
 ·
  exact absurd ⟨h1', h2'⟩ h
 ·
  exact absurd ⟨h'.ra, h'.rd⟩ h
 ·
  exact absurd ⟨h1, h2⟩ h'
 ·
  rfl
 ·
  exact absurd h' h3
 ·
  exact absurd ⟨h.ra, h.rd⟩ h'
 ·
  exact absurd h h3'
 ·
  rfl
def RoundIs (e : Ending) (m n : Bool) (a d : List Nat) : Prop := ∃ c, FaultC m n a d c ∧ ((c ≠ 0 ∧ e = .returned (.tuple #[.int .i64 0, .int .i64 c])) ∨ (c = 0 ∧ e = .returned (.tuple #[.int .i64 (gridV (near (M.int m a) (M.val d))), .int .i64 (gridE (near (M.int m a) (M.val d)))])))
end F
end Go.Proofs.YtboliplhgpndpaaGreatDoor
