/- shuntref02: Less, Sign, and Two in all four ways. -/
import Derived.Test.YtblpacgfgifkcaaGreatGap
import Derived.Test.YtblpacgfgifkcaaGreatGaq
import Derived.Test.YtblpacgfgifkcaaGreatGaq
namespace Go.Proofs.YtblpacgfgifkcaaGreat
open Go.RowKit
namespace F
theorem FRow.all8 {w : World} {p : Nat} {x0 x1 x2 x3 : Value} (h : FRow w p x0 x1 x2 x3) : w.cell? ⟨p, 0, none⟩ = some x0 ∧ w.cell? ⟨p, 1, none⟩ = some x1 ∧ w.cell? ⟨p, 2, none⟩ = some x2 ∧ w.cell? ⟨p, 3, none⟩ = some x3 ∧ w.frozen? ⟨p, 0, none⟩ = false ∧ w.frozen? ⟨p, 1, none⟩ = false ∧ w.frozen? ⟨p, 2, none⟩ = false ∧ w.frozen? ⟨p, 3, none⟩ = false := ⟨h.c0, h.c1, h.c2, h.c3, h.fz 0, h.fz 1, h.fz 2, h.fz 3⟩
theorem FRow.put4 {w : World} {p : Nat} {x0 x1 x2 x3 : Value} (h : FRow w p x0 x1 x2 x3) (y0 y1 y2 y3 : Value) : FRow (F.put4 w p y0 y1 y2 y3) p y0 y1 y2 y3 :=
 ((World.rowIs.set (World.rowIs.set (World.rowIs.set (World.rowIs.set h 0 y0) 1 y1) 2 y2) 3 y3).congr fun i hi => by
  match i, hi with
  | 0, _ => rfl
  | 1, _ => rfl
  | 2, _ => rfl
  | 3, _ => rfl)
theorem FRow.farp {w : World} {p q : Nat} {x0 x1 x2 x3 : Value} (h : FRow w p x0 x1 x2 x3) (hne : ¬ p = q) (y0 y1 y2 y3 : Value) : FRow (F.put4 w q y0 y1 y2 y3) p x0 x1 x2 x3 :=
 World.rowIs.setOther (World.rowIs.setOther (World.rowIs.setOther (World.rowIs.setOther h hne y0) hne y1) hne y2) hne y3
def Refused2 (m nA n nB : Bool) (an ad bn bd : List Nat) (c : Int) : Prop :=
 (c = 10 ∧ ¬ ((R m an ∧ R nA ad) ∧ R n bn ∧ R nB bd)) ∨ (c = 20 ∧ ((R m an ∧ R nA ad) ∧ R n bn ∧ R nB bd) ∧ ¬ (RatR m nA an ad ∧ RatR n nB bn bd)) ∨ (c = 0 ∧ RatR m nA an ad ∧ RatR n nB bn bd)
theorem Refused2.rats {m nA n nB : Bool} {an ad bn bd : List Nat} (h : Refused2 m nA n nB an ad bn bd 0) : RatR m nA an ad ∧ RatR n nB bn bd := by
 rcases h with ⟨h, _⟩ | ⟨h, _⟩ | ⟨_, h⟩
 ·
  exact absurd h (by decide)
 ·
  exact absurd h (by decide)
 ·
  exact h
theorem Refused2.one {m nA n nB : Bool} {an ad bn bd : List Nat} {c c' : Int} (h : Refused2 m nA n nB an ad bn bd c) (h' : Refused2 m nA n nB an ad bn bd c') : c = c' := by
 rcases h with ⟨rfl, h⟩ | ⟨rfl, h, h0⟩ | ⟨rfl, h⟩ <;> rcases h' with ⟨rfl, h'⟩ | ⟨rfl, h', h0'⟩ | ⟨rfl, h'⟩
 ·
  rfl
 ·
  exact absurd h' h
 ·
  exact absurd ⟨⟨h'.1.ra, h'.1.rd⟩, h'.2.ra, h'.2.rd⟩ h
 ·
  exact absurd h h'
 ·
  rfl
 ·
  exact absurd h' h0
 ·
  exact absurd ⟨⟨h.1.ra, h.1.rd⟩, h.2.ra, h.2.rd⟩ h'
 ·
  exact absurd h h0'
 ·
  rfl
theorem refused2_of {m nA n nB : Bool} {an ad bn bd : List Nat} {c : Int} (h : Refused 2 (F.two m n) (F.two nA nB) (F.two an bn) (F.two ad bd) c) : Refused2 m nA n nB an ad bn bd c := by
 rcases h with ⟨rfl, i, hi, h⟩ | ⟨hr, ⟨rfl, i, hi, h⟩ | ⟨rfl, h⟩⟩
 ·
  refine .inl ⟨rfl, fun q => h ?_⟩
  match i, hi with
  | 0, _ => exact q.1
  | 1, _ => exact q.2
 ·
  refine .inr (.inl ⟨rfl, ⟨hr 0 (by omega), hr 1 (by omega)⟩, fun q => h ?_⟩)
  match i, hi with
  | 0, _ => exact ⟨q.1.pos, q.1.low⟩
  | 1, _ => exact ⟨q.2.pos, q.2.low⟩
 ·
  exact .inr (.inr ⟨rfl, ⟨(hr 0 (by omega)).1, (hr 0 (by omega)).2, (h 0 (by omega)).1, (h 0 (by omega)).2⟩, (hr 1 (by omega)).1, (hr 1 (by omega)).2, (h 1 (by omega)).1, (h 1 (by omega)).2⟩)
set_option maxHeartbeats 4000000 in
theorem FSign_any (s t : Bool) (a1 a2 : Option Addr) (k1 c1 k2 c2 : Nat) (X : Int) (w : World) (h1 : D.NIs w s (.slice a1 k1 c1) X) (hk : k1 ≤ 300) :
  Calls Tryz.prog 42 #[.agg #[.bool s, .slice a1 k1 c1, .bool t, .slice a2 k2 c2]] w fun e w' => Kept w w' ∧ e = .returned (.int .i64 (isgn X 0)) := by
 have HA : Hid (D.NIs w s (.slice a1 k1 c1) X ∧ k1 ≤ 300) := ⟨h1, hk⟩
 clear h1 hk
 go_enter Tryz.func42, Tryz.ntmps42
 go_wp2_with fail
 refine (D.Sign_any s a1 k1 c1 X _ (HA.out.1.kept ((Kept.refl w).alloc _)) (by have := HA.out.2; omega)).mono ?_
 rintro e w1 ⟨rfl, hk1⟩
 have HK := hid' (((Kept.refl w).alloc _).trans hk1)
 clear hk1
 go_wp2
 go_ret
 exact ⟨HK.out, rfl⟩
def TwoIs (op : Int) (m nA n nB : Bool) (an ad bn bd : List Nat) (B : Nat) (w : World) (e : Ending) : Prop :=
 (op = 43 → ∃ N Q, Low (M.int m an * M.int nB bd + M.int n bn * M.int nA ad) (M.int nA ad * M.int nB bd) N Q ∧ ToldIs B w e N Q) ∧ (op = 45 → ∃ N Q, Low (M.int m an * M.int nB bd + -(M.int n bn) * M.int nA ad) (M.int nA ad * M.int nB bd) N Q ∧ ToldIs B w e N Q) ∧ (op = 42 → ∃ N Q, Low (M.int m an * M.int n bn) (M.int nA ad * M.int nB bd) N Q ∧ ToldIs B w e N Q) ∧ (op = 47 → (M.int n bn = 0 ∧ e = .returned (.tuple #[.agg #[.bool false, .slice none 0 0, .bool false, .slice none 0 0], .int .i64 11])) ∨ (M.int n bn ≠ 0 ∧ ∃ N Q, Low (M.int m an * M.int nB bd) (M.int nA ad * M.int n bn) N Q ∧ ToldIs B w e N Q))
theorem TwoIs.plus {m nA n nB : Bool} {an ad bn bd : List Nat} {B : Nat} {w : World} {e : Ending} (h : ∃ N Q, Low (M.int m an * M.int nB bd + M.int n bn * M.int nA ad) (M.int nA ad * M.int nB bd) N Q ∧ ToldIs B w e N Q) : TwoIs 43 m nA n nB an ad bn bd B w e := ⟨fun _ => h, fun q => absurd q (by decide), fun q => absurd q (by decide), fun q => absurd q (by decide)⟩
theorem TwoIs.minus {m nA n nB : Bool} {an ad bn bd : List Nat} {B : Nat} {w : World} {e : Ending} (h : ∃ N Q, Low (M.int m an * M.int nB bd + -(M.int n bn) * M.int nA ad) (M.int nA ad * M.int nB bd) N Q ∧ ToldIs B w e N Q) : TwoIs 45 m nA n nB an ad bn bd B w e := ⟨fun q => absurd q (by decide), fun _ => h, fun q => absurd q (by decide), fun q => absurd q (by decide)⟩
theorem TwoIs.times {m nA n nB : Bool} {an ad bn bd : List Nat} {B : Nat} {w : World} {e : Ending} (h : ∃ N Q, Low (M.int m an * M.int n bn) (M.int nA ad * M.int nB bd) N Q ∧ ToldIs B w e N Q) : TwoIs 42 m nA n nB an ad bn bd B w e := ⟨fun q => absurd q (by decide), fun q => absurd q (by decide), fun _ => h, fun q => absurd q (by decide)⟩
theorem TwoIs.over {m nA n nB : Bool} {an ad bn bd : List Nat} {B : Nat} {w : World} {e : Ending} (h : (M.int n bn = 0 ∧ e = .returned (.tuple #[.agg #[.bool false, .slice none 0 0, .bool false, .slice none 0 0], .int .i64 11])) ∨ (M.int n bn ≠ 0 ∧ ∃ N Q, Low (M.int m an * M.int nB bd) (M.int nA ad * M.int n bn) N Q ∧ ToldIs B w e N Q)) : TwoIs 47 m nA n nB an ad bn bd B w e := ⟨fun q => absurd q (by decide), fun q => absurd q (by decide), fun q => absurd q (by decide), fun _ => h⟩
set_option maxRecDepth 100000 in
set_option maxHeartbeats 8000000 in
theorem Two_any (op : Int) (m nA n nB : Bool) (a1 a2 b1 b2 : Option Addr) (k1 c1 k2 c2 k3 c3 k4 c4 : Nat) (an ad bn bd : List Nat) (w : World) (ha : Sl w (.slice a1 k1 c1) an) (had : Sl w (.slice a2 k2 c2) ad) (hb : Sl w (.slice b1 k3 c3) bn) (hbd : Sl w (.slice b2 k4 c4) bd) (l1 : an.length ≤ 9223372036854775807) (l2 : ad.length ≤ 9223372036854775807) (l3 : bn.length ≤ 9223372036854775807) (l4 : bd.length ≤ 9223372036854775807) (hop : op = 43 ∨ op = 45 ∨ op = 42 ∨ op = 47) :
  Calls Tryz.prog 13 #[.int .u8 op, .agg #[.bool m, .slice a1 k1 c1, .bool nA, .slice a2 k2 c2], .agg #[.bool n, .slice b1 k3 c3, .bool nB, .slice b2 k4 c4]] w fun e w' => Kept w w' ∧ ∃ c, Refused2 m nA n nB an ad bn bd c ∧ ((c ≠ 0 ∧ e = .returned (.tuple #[.agg #[.bool false, .slice none 0 0, .bool false, .slice none 0 0], .int .i64 c])) ∨ (c = 0 ∧ TwoIs op m nA n nB an ad bn bd w.heap.size w' e)) := by
 have HOP : Hid (op = 43 ∨ op = 45 ∨ op = 42 ∨ op = 47) := hop
 clear hop
 have HA : Hid (Sl w (.slice a1 k1 c1) an ∧ Sl w (.slice a2 k2 c2) ad ∧ Sl w (.slice b1 k3 c3) bn ∧ Sl w (.slice b2 k4 c4) bd ∧ an.length ≤ 9223372036854775807 ∧ ad.length ≤ 9223372036854775807 ∧ bn.length ≤ 9223372036854775807 ∧ bd.length ≤ 9223372036854775807) := ⟨ha, had, hb, hbd, l1, l2, l3, l4⟩
 clear ha had hb hbd l1 l2 l3 l4
 go_enter Tryz.func13, Tryz.ntmps13
 go_upto_region 1 with fail
 have r4 := ((RRow.alloc w (.bool m) (.slice a1 k1 c1) (.bool nA) (.slice a2 k2 c2)).kept (((Kept.refl _).alloc (.cells #[.bool n, .slice b1 k3 c3, .bool nB, .slice b2 k4 c4] 26)).alloc (.cells #[.bool false, .slice none 0 0, .bool false, .slice none 0 0] 26)))
 have r5 := ((RRow.alloc (w.alloc (.cells #[.bool m, .slice a1 k1 c1, .bool nA, .slice a2 k2 c2] 26)) (.bool n) (.slice b1 k3 c3) (.bool nB) (.slice b2 k4 c4)).kept ((Kept.refl _).alloc (.cells #[.bool false, .slice none 0 0, .bool false, .slice none 0 0] 26)))
 have r6 := RRow.alloc ((w.alloc (.cells #[.bool m, .slice a1 k1 c1, .bool nA, .slice a2 k2 c2] 26)).alloc (.cells #[.bool n, .slice b1 k3 c3, .bool nB, .slice b2 k4 c4] 26)) (.bool false) (.slice none 0 0) (.bool false) (.slice none 0 0)
 have hK := (((Kept.refl w).alloc (.cells #[.bool m, .slice a1 k1 c1, .bool nA, .slice a2 k2 c2] 26)).alloc (.cells #[.bool n, .slice b1 k3 c3, .bool nB, .slice b2 k4 c4] 26)).alloc (.cells #[.bool false, .slice none 0 0, .bool false, .slice none 0 0] 26)
 simp only [World.size_alloc] at r5 r6
 generalize ((w.alloc (.cells #[.bool m, .slice a1 k1 c1, .bool nA, .slice a2 k2 c2] 26)).alloc (.cells #[.bool n, .slice b1 k3 c3, .bool nB, .slice b2 k4 c4] 26)).alloc (.cells #[.bool false, .slice none 0 0, .bool false, .slice none 0 0] 26) = W at r4 r5 r6 hK ⊢
 obtain ⟨p6, hp6⟩ : ∃ p, p = w.heap.size + 1 + 1 := ⟨_, rfl⟩
 rw [← hp6] at r6 ⊢
 obtain ⟨p5, hp5⟩ : ∃ p, p = w.heap.size + 1 := ⟨_, rfl⟩
 rw [← hp5] at r5 ⊢
 obtain ⟨p4, hp4⟩ : ∃ p, p = w.heap.size := ⟨_, rfl⟩
 rw [← hp4] at r4 ⊢
 have HP : Hid (w.heap.size ≤ p6) := by show _ ≤ _; omega
 have HV : Hid (∀ V, Kept W V → RRow V p4 (.bool m) (.slice a1 k1 c1) (.bool nA) (.slice a2 k2 c2) ∧ RRow V p5 (.bool n) (.slice b1 k3 c3) (.bool nB) (.slice b2 k4 c4) ∧ RRow V p6 (.bool false) (.slice none 0 0) (.bool false) (.slice none 0 0) ∧ Kept w V) := fun V hV => ⟨r4.kept hV, r5.kept hV, r6.kept hV, hK.trans hV⟩
 obtain ⟨q0, q1, q2, q3⟩ := rrow_all r4
 obtain ⟨r0, r1, r2, r3⟩ := rrow_all r5
 have HK : Hid (∀ x, Kept w (W.alloc x)) := fun x => hK.alloc x
 clear hp4 hp5 hp6 r4 r5 r6 hK
 go_wp2_with fail
 refine (Faults_x _ W.heap.size 0 2 2 _ _ _ _ _ _ _ _ _ _ _ (fun _ => rfl) (by omega) (RatAll.two (m := m) (n := nA) (p := n) (q := nB) (a1 := a1) (a2 := a2) (b1 := b1) (b2 := b2) (k1 := k1) (c1 := c1) (k2 := k2) (c2 := c2) (k3 := k3) (c3 := c3) (k4 := k4) (c4 := c4) (by rw [World.cell?_alloc_at _ _ _ _ (by simp)]; rfl) (by rw [World.cell?_alloc_at _ _ _ _ (by simp)]; rfl) (by rw [World.cell?_alloc_at _ _ _ _ (by simp)]; rfl) (by rw [World.cell?_alloc_at _ _ _ _ (by simp)]; rfl) (by rw [World.cell?_alloc_at _ _ _ _ (by simp)]; rfl) (by rw [World.cell?_alloc_at _ _ _ _ (by simp)]; rfl) (by rw [World.cell?_alloc_at _ _ _ _ (by simp)]; rfl) (by rw [World.cell?_alloc_at _ _ _ _ (by simp)]; rfl) (HA.out.1.kept (HK.out _)) (HA.out.2.1.kept (HK.out _)) (HA.out.2.2.1.kept (HK.out _)) (HA.out.2.2.2.1.kept (HK.out _)) HA.out.2.2.2.2.1 HA.out.2.2.2.2.2.1 HA.out.2.2.2.2.2.2.1 HA.out.2.2.2.2.2.2.2)).mono ?_
 rintro e w1 ⟨hk1, c, rfl, hc⟩
 have HC := hid' (refused2_of hc)
 have HK1 := hid' (((Kept.refl W).alloc _).trans hk1)
 clear hk1 hc q0 q1 q2 q3 r0 r1 r2 r3
 by_cases hc0 : c = 0
 ·
  subst hc0
  have HR := hid' HC.out.rats
  have HQ : Hid (an.length ≤ 72 ∧ ad.length ≤ 72 ∧ bn.length ≤ 72 ∧ bd.length ≤ 72) := ⟨HR.out.1.ra.1, HR.out.1.rd.1, HR.out.2.ra.1, HR.out.2.rd.1⟩
  go_upto_region 4 with fail
  go_cut [9, 10] (fun s9 s10 wc => ∃ (p9 p10 : Nat) (s3 : Bool) (a3 : Option Addr) (k3' c3' : Nat) (t3 : Bool) (a4 : Option Addr) (k4' c4' : Nat) (s5 : Bool) (a5 : Option Addr) (k5' c5' : Nat) (t5 : Bool) (a6 : Option Addr) (k6' c6' : Nat), s9 = .pointer (some ⟨p9, 0, none⟩) ∧ s10 = .pointer (some ⟨p10, 0, none⟩) ∧ Hid (Kept w1 wc ∧ FRow wc p9 (.bool s3) (.slice a3 k3' c3') (.bool t3) (.slice a4 k4' c4') ∧ FRow wc p10 (.bool s5) (.slice a5 k5' c5') (.bool t5) (.slice a6 k6' c6') ∧ D.NIs wc s3 (.slice a3 k3' c3') (M.int m an) ∧ D.NIs wc t3 (.slice a4 k4' c4') (M.int nA ad) ∧ D.NIs wc s5 (.slice a5 k5' c5') (M.int n bn) ∧ D.NIs wc t5 (.slice a6 k6' c6') (M.int nB bd) ∧ (k3' ≤ 144 ∧ k4' ≤ 144) ∧ (k5' ≤ 144 ∧ k6' ≤ 144)))
  case first =>
   have KT : Kept w1 w1.drew := (Kept.refl _).drew
   have sS := hid' (fun (V : World) (K : Kept w1 V) => And.intro ((HV.out _ (HK1.out.trans K)).1.c0) (And.intro ((HV.out _ (HK1.out.trans K)).1.c1) (And.intro ((HV.out _ (HK1.out.trans K)).1.c2) (And.intro ((HV.out _ (HK1.out.trans K)).1.c3) (And.intro ((HV.out _ (HK1.out.trans K)).2.1.c0) (And.intro ((HV.out _ (HK1.out.trans K)).2.1.c1) (And.intro ((HV.out _ (HK1.out.trans K)).2.1.c2) ((HV.out _ (HK1.out.trans K)).2.1.c3))))))))
   refine wp_region_held_drew (S := fun w' => w'.cell? ⟨p4, 0, none⟩ = some (.bool m) ∧ w'.cell? ⟨p4, 1, none⟩ = some (.slice a1 k1 c1) ∧ w'.cell? ⟨p4, 2, none⟩ = some (.bool nA) ∧ w'.cell? ⟨p4, 3, none⟩ = some (.slice a2 k2 c2) ∧ w'.cell? ⟨p5, 0, none⟩ = some (.bool n) ∧ w'.cell? ⟨p5, 1, none⟩ = some (.slice b1 k3 c3) ∧ w'.cell? ⟨p5, 2, none⟩ = some (.bool nB) ∧ w'.cell? ⟨p5, 3, none⟩ = some (.slice b2 k4 c4)) (by kernel_rfl) (sS.out _ KT) (fun hHeld => ?_)
   generalize w1.drew = Wd at KT hHeld ⊢
   refine wpAnyH_take (i := 0) (v := ?vgx0x1) rfl (by kernel_rfl) (by kernel_rfl) (by kernel_rfl) (fun _ _ _ h => h) (Or.inl ⟨by rfl, ?ygx0x1⟩) hHeld ?rgx0x1
   case ygx0x1 =>
    intro w' hSw
    obtain ⟨hSw0, hSw1, hSw2, hSw3, hSw4, hSw5, hSw6, hSw7⟩ := hSw
    go_simp
    with_reducible rfl
   case rgx0x1 =>
   refine wpAnyH_take (i := 2) (v := ?vgx2x2) rfl (by kernel_rfl) (by kernel_rfl) (by kernel_rfl) (fun _ _ _ h => h) (Or.inl ⟨by rfl, ?ygx2x2⟩) hHeld ?rgx2x2
   case ygx2x2 =>
    intro w' hSw
    obtain ⟨hSw0, hSw1, hSw2, hSw3, hSw4, hSw5, hSw6, hSw7⟩ := hSw
    go_simp
    with_reducible rfl
   case rgx2x2 =>
   refine wpAnyH_ready (rs := [1, 4, 5]) (by kernel_rfl) (by simp) ?_
   refine AllReadyH.cons rfl (fun K hK => ?_) ?_
   ·
    go_simp
    refine (FTake_any m nA a1 a2 k1 c1 k2 c2 an ad _ (HA.out.1.kept (HV.out _ (HK1.out.trans KT)).2.2.2) (HA.out.2.1.kept (HV.out _ (HK1.out.trans KT)).2.2.2) (by have := HQ.out; omega) (by have := HQ.out; omega)).mono ?_
    rintro e w3 ⟨hk3, v3, rfl, s3, a3, k3', c3', t3, a4, k4', c4', rfl, n3, n4, l3, l4⟩
    have HL3 : Hid (k3' ≤ 144 ∧ k4' ≤ 144) := ⟨by have := HQ.out; omega, by have := HQ.out; omega⟩
    clear l3 l4
    refine hK.out _ _ (sS.out _ (KT.trans hk3)) (fun hHeld => ?_)
    clear hK K
    have KT := KT.trans hk3
    refine wpAnyH_ready (rs := [3, 4, 5]) (by kernel_rfl) (by simp) ?_
    refine AllReadyH.cons rfl (fun K hK => ?_) ?_
    ·
     go_simp
     refine (FTake_any n nB b1 b2 k3 c3 k4 c4 bn bd _ (HA.out.2.2.1.kept (HV.out _ (HK1.out.trans KT)).2.2.2) (HA.out.2.2.2.1.kept (HV.out _ (HK1.out.trans KT)).2.2.2) (by have := HQ.out; omega) (by have := HQ.out; omega)).mono ?_
     rintro e w5 ⟨hk5, v5, rfl, s5, a5, k5', c5', t5, a6, k6', c6', rfl, n5, n6, l5, l6⟩
     have HL5 : Hid (k5' ≤ 144 ∧ k6' ≤ 144) := ⟨by have := HQ.out; omega, by have := HQ.out; omega⟩
     clear l5 l6
     refine hK.out _ _ (sS.out _ (KT.trans hk5)) (fun hHeld => ?_)
     clear hK K
     have n3 := D.NIs.kept n3 hk5
     have n4 := D.NIs.kept n4 hk5
     have KT := KT.trans hk5
     refine wpAnyH_ready (rs := [4, 5]) (by kernel_rfl) (by simp) ?_
     refine AllReadyH.cons rfl (fun K hK => ?_) ?_
     ·
      go_simp
      refine hK.out _ _ (sS.out _ (KT.alloc _)) (fun hHeld => ?_)
      clear hK K
      have zp9 := FRow.alloc w5 (.bool false) (.slice none 0 0) (.bool false) (.slice none 0 0)
      have hgp9 : w1.heap.size ≤ w5.heap.size := KT.size
      have n3 := D.NIs.kept n3 ((Kept.refl w5).alloc (.cells #[.bool false, .slice none 0 0, .bool false, .slice none 0 0] 68))
      have n4 := D.NIs.kept n4 ((Kept.refl w5).alloc (.cells #[.bool false, .slice none 0 0, .bool false, .slice none 0 0] 68))
      have n5 := D.NIs.kept n5 ((Kept.refl w5).alloc (.cells #[.bool false, .slice none 0 0, .bool false, .slice none 0 0] 68))
      have n6 := D.NIs.kept n6 ((Kept.refl w5).alloc (.cells #[.bool false, .slice none 0 0, .bool false, .slice none 0 0] 68))
      have KT := KT.alloc (.cells #[.bool false, .slice none 0 0, .bool false, .slice none 0 0] 68)
      obtain ⟨p9, hpp9⟩ : ∃ p, p = w5.heap.size := ⟨_, rfl⟩
      rw [← hpp9] at zp9 hgp9  ⊢
      generalize w5.alloc (.cells #[.bool false, .slice none 0 0, .bool false, .slice none 0 0] 68) = Wa4 at zp9  n3 n4 n5 n6 KT hHeld ⊢
      clear hpp9
      refine wpAnyH_ready (rs := [5]) (by kernel_rfl) (by simp) ?_
      refine AllReadyH.cons rfl (fun K hK => ?_) AllReadyH.nil
      go_simp
      refine hK.out _ _ (sS.out _ (KT.alloc _)) (fun hHeld => ?_)
      clear hK K
      have zp10 := FRow.alloc Wa4 (.bool false) (.slice none 0 0) (.bool false) (.slice none 0 0)
      have hgp10 : w1.heap.size ≤ Wa4.heap.size := KT.size
      have dp10p9 : ¬ (Wa4.heap.size = p9) := by have := zp9.lt; omega
      have dp9p10 : ¬ (p9 = Wa4.heap.size) := by have := zp9.lt; omega
      have zp9 := zp9.kept ((Kept.refl Wa4).alloc (.cells #[.bool false, .slice none 0 0, .bool false, .slice none 0 0] 68))
      have n3 := D.NIs.kept n3 ((Kept.refl Wa4).alloc (.cells #[.bool false, .slice none 0 0, .bool false, .slice none 0 0] 68))
      have n4 := D.NIs.kept n4 ((Kept.refl Wa4).alloc (.cells #[.bool false, .slice none 0 0, .bool false, .slice none 0 0] 68))
      have n5 := D.NIs.kept n5 ((Kept.refl Wa4).alloc (.cells #[.bool false, .slice none 0 0, .bool false, .slice none 0 0] 68))
      have n6 := D.NIs.kept n6 ((Kept.refl Wa4).alloc (.cells #[.bool false, .slice none 0 0, .bool false, .slice none 0 0] 68))
      have KT := KT.alloc (.cells #[.bool false, .slice none 0 0, .bool false, .slice none 0 0] 68)
      obtain ⟨p10, hpp10⟩ : ∃ p, p = Wa4.heap.size := ⟨_, rfl⟩
      rw [← hpp10] at zp10 hgp10 dp10p9 dp9p10 ⊢
      generalize Wa4.alloc (.cells #[.bool false, .slice none 0 0, .bool false, .slice none 0 0] 68) = Wa5 at zp10 zp9 n3 n4 n5 n6 KT hHeld ⊢
      clear hpp10
      obtain ⟨cp90, cp91, cp92, cp93, gp90, gp91, gp92, gp93⟩ := zp9.all8
      refine wpAnyH_ready (rs := [6]) (by kernel_rfl) (by simp) ?_
      refine AllReadyH.cons rfl (fun K hK => ?_) AllReadyH.nil
      go_simp
      refine hK.out _ _ (sS.out _ (Kept.put4 KT hgp9 _ _ _ _)) (fun hHeld => ?_)
      clear hK K
      have ep9 := zp9.put4 (.bool s3) (.slice a3 k3' c3') (.bool t3) (.slice a4 k4' c4')
      have n3 := nset4 (y0 := .bool s3) (y1 := .slice a3 k3' c3') (y2 := .bool t3) (y3 := .slice a4 k4' c4') n3 zp9
      have n4 := nset4 (y0 := .bool s3) (y1 := .slice a3 k3' c3') (y2 := .bool t3) (y3 := .slice a4 k4' c4') n4 zp9
      have n5 := nset4 (y0 := .bool s3) (y1 := .slice a3 k3' c3') (y2 := .bool t3) (y3 := .slice a4 k4' c4') n5 zp9
      have n6 := nset4 (y0 := .bool s3) (y1 := .slice a3 k3' c3') (y2 := .bool t3) (y3 := .slice a4 k4' c4') n6 zp9
      have zp10 := zp10.farp dp10p9 (.bool s3) (.slice a3 k3' c3') (.bool t3) (.slice a4 k4' c4')
      have KT := Kept.put4 KT hgp9 (.bool s3) (.slice a3 k3' c3') (.bool t3) (.slice a4 k4' c4')
      clear cp90 cp91 cp92 cp93 gp90 gp91 gp92 gp93 zp9
      unfold put4 at n3 n4 n5 n6 KT ep9 zp10
      generalize (((Wa5.setCell ⟨p9, 0, none⟩ (.bool s3)).setCell ⟨p9, 1, none⟩ (.slice a3 k3' c3')).setCell ⟨p9, 2, none⟩ (.bool t3)).setCell ⟨p9, 3, none⟩ (.slice a4 k4' c4') = Ws0 at ep9 zp10 n3 n4 n5 n6 KT hHeld ⊢
      obtain ⟨cp100, cp101, cp102, cp103, gp100, gp101, gp102, gp103⟩ := zp10.all8
      refine wpAnyH_ready (rs := [7]) (by kernel_rfl) (by simp) ?_
      refine AllReadyH.cons rfl (fun K hK => ?_) AllReadyH.nil
      go_simp
      refine hK.out _ _ (sS.out _ (Kept.put4 KT hgp10 _ _ _ _)) (fun hHeld => ?_)
      clear hK K
      have ep10 := zp10.put4 (.bool s5) (.slice a5 k5' c5') (.bool t5) (.slice a6 k6' c6')
      have ep9 := ep9.farp dp9p10 (.bool s5) (.slice a5 k5' c5') (.bool t5) (.slice a6 k6' c6')
      have n3 := nset4 (y0 := .bool s5) (y1 := .slice a5 k5' c5') (y2 := .bool t5) (y3 := .slice a6 k6' c6') n3 zp10
      have n4 := nset4 (y0 := .bool s5) (y1 := .slice a5 k5' c5') (y2 := .bool t5) (y3 := .slice a6 k6' c6') n4 zp10
      have n5 := nset4 (y0 := .bool s5) (y1 := .slice a5 k5' c5') (y2 := .bool t5) (y3 := .slice a6 k6' c6') n5 zp10
      have n6 := nset4 (y0 := .bool s5) (y1 := .slice a5 k5' c5') (y2 := .bool t5) (y3 := .slice a6 k6' c6') n6 zp10
      have KT := Kept.put4 KT hgp10 (.bool s5) (.slice a5 k5' c5') (.bool t5) (.slice a6 k6' c6')
      clear cp100 cp101 cp102 cp103 gp100 gp101 gp102 gp103 zp10
      unfold put4 at n3 n4 n5 n6 KT ep9 ep10
      generalize (((Ws0.setCell ⟨p10, 0, none⟩ (.bool s5)).setCell ⟨p10, 1, none⟩ (.slice a5 k5' c5')).setCell ⟨p10, 2, none⟩ (.bool t5)).setCell ⟨p10, 3, none⟩ (.slice a6 k6' c6') = Ws1 at ep9 ep10  n3 n4 n5 n6 KT hHeld ⊢
      refine wpAnyH_done (by kernel_rfl) ?_ _
      go_wp2_with fail
      go_meet
      case rel => exact ⟨p9, p10, s3, a3, k3', c3', t3, a4, k4', c4', s5, a5, k5', c5', t5, a6, k6', c6', rfl, rfl, KT, ep9, ep10, n3, n4, n5, n6, HL3.out, HL5.out⟩
     refine AllReadyH.cons rfl (fun K hK => ?_) AllReadyH.nil
     go_simp
     refine hK.out _ _ (sS.out _ (KT.alloc _)) (fun hHeld => ?_)
     clear hK K
     have zp10 := FRow.alloc w5 (.bool false) (.slice none 0 0) (.bool false) (.slice none 0 0)
     have hgp10 : w1.heap.size ≤ w5.heap.size := KT.size
     have n3 := D.NIs.kept n3 ((Kept.refl w5).alloc (.cells #[.bool false, .slice none 0 0, .bool false, .slice none 0 0] 68))
     have n4 := D.NIs.kept n4 ((Kept.refl w5).alloc (.cells #[.bool false, .slice none 0 0, .bool false, .slice none 0 0] 68))
     have n5 := D.NIs.kept n5 ((Kept.refl w5).alloc (.cells #[.bool false, .slice none 0 0, .bool false, .slice none 0 0] 68))
     have n6 := D.NIs.kept n6 ((Kept.refl w5).alloc (.cells #[.bool false, .slice none 0 0, .bool false, .slice none 0 0] 68))
     have KT := KT.alloc (.cells #[.bool false, .slice none 0 0, .bool false, .slice none 0 0] 68)
     obtain ⟨p10, hpp10⟩ : ∃ p, p = w5.heap.size := ⟨_, rfl⟩
     rw [← hpp10] at zp10 hgp10  ⊢
     generalize w5.alloc (.cells #[.bool false, .slice none 0 0, .bool false, .slice none 0 0] 68) = Wa5 at zp10  n3 n4 n5 n6 KT hHeld ⊢
     clear hpp10
     refine wpAnyH_ready (rs := [4]) (by kernel_rfl) (by simp) ?_
     refine AllReadyH.cons rfl (fun K hK => ?_) AllReadyH.nil
     go_simp
     refine hK.out _ _ (sS.out _ (KT.alloc _)) (fun hHeld => ?_)
     clear hK K
     have zp9 := FRow.alloc Wa5 (.bool false) (.slice none 0 0) (.bool false) (.slice none 0 0)
     have hgp9 : w1.heap.size ≤ Wa5.heap.size := KT.size
     have dp9p10 : ¬ (Wa5.heap.size = p10) := by have := zp10.lt; omega
     have dp10p9 : ¬ (p10 = Wa5.heap.size) := by have := zp10.lt; omega
     have zp10 := zp10.kept ((Kept.refl Wa5).alloc (.cells #[.bool false, .slice none 0 0, .bool false, .slice none 0 0] 68))
     have n3 := D.NIs.kept n3 ((Kept.refl Wa5).alloc (.cells #[.bool false, .slice none 0 0, .bool false, .slice none 0 0] 68))
     have n4 := D.NIs.kept n4 ((Kept.refl Wa5).alloc (.cells #[.bool false, .slice none 0 0, .bool false, .slice none 0 0] 68))
     have n5 := D.NIs.kept n5 ((Kept.refl Wa5).alloc (.cells #[.bool false, .slice none 0 0, .bool false, .slice none 0 0] 68))
     have n6 := D.NIs.kept n6 ((Kept.refl Wa5).alloc (.cells #[.bool false, .slice none 0 0, .bool false, .slice none 0 0] 68))
     have KT := KT.alloc (.cells #[.bool false, .slice none 0 0, .bool false, .slice none 0 0] 68)
     obtain ⟨p9, hpp9⟩ : ∃ p, p = Wa5.heap.size := ⟨_, rfl⟩
     rw [← hpp9] at zp9 hgp9 dp9p10 dp10p9 ⊢
     generalize Wa5.alloc (.cells #[.bool false, .slice none 0 0, .bool false, .slice none 0 0] 68) = Wa4 at zp9 zp10 n3 n4 n5 n6 KT hHeld ⊢
     clear hpp9
     obtain ⟨cp90, cp91, cp92, cp93, gp90, gp91, gp92, gp93⟩ := zp9.all8
     refine wpAnyH_ready (rs := [6]) (by kernel_rfl) (by simp) ?_
     refine AllReadyH.cons rfl (fun K hK => ?_) AllReadyH.nil
     go_simp
     refine hK.out _ _ (sS.out _ (Kept.put4 KT hgp9 _ _ _ _)) (fun hHeld => ?_)
     clear hK K
     have ep9 := zp9.put4 (.bool s3) (.slice a3 k3' c3') (.bool t3) (.slice a4 k4' c4')
     have n3 := nset4 (y0 := .bool s3) (y1 := .slice a3 k3' c3') (y2 := .bool t3) (y3 := .slice a4 k4' c4') n3 zp9
     have n4 := nset4 (y0 := .bool s3) (y1 := .slice a3 k3' c3') (y2 := .bool t3) (y3 := .slice a4 k4' c4') n4 zp9
     have n5 := nset4 (y0 := .bool s3) (y1 := .slice a3 k3' c3') (y2 := .bool t3) (y3 := .slice a4 k4' c4') n5 zp9
     have n6 := nset4 (y0 := .bool s3) (y1 := .slice a3 k3' c3') (y2 := .bool t3) (y3 := .slice a4 k4' c4') n6 zp9
     have zp10 := zp10.farp dp10p9 (.bool s3) (.slice a3 k3' c3') (.bool t3) (.slice a4 k4' c4')
     have KT := Kept.put4 KT hgp9 (.bool s3) (.slice a3 k3' c3') (.bool t3) (.slice a4 k4' c4')
     clear cp90 cp91 cp92 cp93 gp90 gp91 gp92 gp93 zp9
     unfold put4 at n3 n4 n5 n6 KT ep9 zp10
     generalize (((Wa4.setCell ⟨p9, 0, none⟩ (.bool s3)).setCell ⟨p9, 1, none⟩ (.slice a3 k3' c3')).setCell ⟨p9, 2, none⟩ (.bool t3)).setCell ⟨p9, 3, none⟩ (.slice a4 k4' c4') = Ws0 at ep9 zp10 n3 n4 n5 n6 KT hHeld ⊢
     obtain ⟨cp100, cp101, cp102, cp103, gp100, gp101, gp102, gp103⟩ := zp10.all8
     refine wpAnyH_ready (rs := [7]) (by kernel_rfl) (by simp) ?_
     refine AllReadyH.cons rfl (fun K hK => ?_) AllReadyH.nil
     go_simp
     refine hK.out _ _ (sS.out _ (Kept.put4 KT hgp10 _ _ _ _)) (fun hHeld => ?_)
     clear hK K
     have ep10 := zp10.put4 (.bool s5) (.slice a5 k5' c5') (.bool t5) (.slice a6 k6' c6')
     have ep9 := ep9.farp dp9p10 (.bool s5) (.slice a5 k5' c5') (.bool t5) (.slice a6 k6' c6')
     have n3 := nset4 (y0 := .bool s5) (y1 := .slice a5 k5' c5') (y2 := .bool t5) (y3 := .slice a6 k6' c6') n3 zp10
     have n4 := nset4 (y0 := .bool s5) (y1 := .slice a5 k5' c5') (y2 := .bool t5) (y3 := .slice a6 k6' c6') n4 zp10
     have n5 := nset4 (y0 := .bool s5) (y1 := .slice a5 k5' c5') (y2 := .bool t5) (y3 := .slice a6 k6' c6') n5 zp10
     have n6 := nset4 (y0 := .bool s5) (y1 := .slice a5 k5' c5') (y2 := .bool t5) (y3 := .slice a6 k6' c6') n6 zp10
     have KT := Kept.put4 KT hgp10 (.bool s5) (.slice a5 k5' c5') (.bool t5) (.slice a6 k6' c6')
     clear cp100 cp101 cp102 cp103 gp100 gp101 gp102 gp103 zp10
     unfold put4 at n3 n4 n5 n6 KT ep9 ep10
     generalize (((Ws0.setCell ⟨p10, 0, none⟩ (.bool s5)).setCell ⟨p10, 1, none⟩ (.slice a5 k5' c5')).setCell ⟨p10, 2, none⟩ (.bool t5)).setCell ⟨p10, 3, none⟩ (.slice a6 k6' c6') = Ws1 at ep9 ep10  n3 n4 n5 n6 KT hHeld ⊢
     refine wpAnyH_done (by kernel_rfl) ?_ _
     go_wp2_with fail
     go_meet
     case rel => exact ⟨p9, p10, s3, a3, k3', c3', t3, a4, k4', c4', s5, a5, k5', c5', t5, a6, k6', c6', rfl, rfl, KT, ep9, ep10, n3, n4, n5, n6, HL3.out, HL5.out⟩
    refine AllReadyH.cons rfl (fun K hK => ?_) ?_
    ·
     go_simp
     refine hK.out _ _ (sS.out _ (KT.alloc _)) (fun hHeld => ?_)
     clear hK K
     have zp9 := FRow.alloc w3 (.bool false) (.slice none 0 0) (.bool false) (.slice none 0 0)
     have hgp9 : w1.heap.size ≤ w3.heap.size := KT.size
     have n3 := D.NIs.kept n3 ((Kept.refl w3).alloc (.cells #[.bool false, .slice none 0 0, .bool false, .slice none 0 0] 68))
     have n4 := D.NIs.kept n4 ((Kept.refl w3).alloc (.cells #[.bool false, .slice none 0 0, .bool false, .slice none 0 0] 68))
     have KT := KT.alloc (.cells #[.bool false, .slice none 0 0, .bool false, .slice none 0 0] 68)
     obtain ⟨p9, hpp9⟩ : ∃ p, p = w3.heap.size := ⟨_, rfl⟩
     rw [← hpp9] at zp9 hgp9  ⊢
     generalize w3.alloc (.cells #[.bool false, .slice none 0 0, .bool false, .slice none 0 0] 68) = Wa4 at zp9  n3 n4 KT hHeld ⊢
     clear hpp9
     refine wpAnyH_ready (rs := [3, 5]) (by kernel_rfl) (by simp) ?_
     refine AllReadyH.cons rfl (fun K hK => ?_) ?_
     ·
      go_simp
      refine (FTake_any n nB b1 b2 k3 c3 k4 c4 bn bd _ (HA.out.2.2.1.kept (HV.out _ (HK1.out.trans KT)).2.2.2) (HA.out.2.2.2.1.kept (HV.out _ (HK1.out.trans KT)).2.2.2) (by have := HQ.out; omega) (by have := HQ.out; omega)).mono ?_
      rintro e w5 ⟨hk5, v5, rfl, s5, a5, k5', c5', t5, a6, k6', c6', rfl, n5, n6, l5, l6⟩
      have HL5 : Hid (k5' ≤ 144 ∧ k6' ≤ 144) := ⟨by have := HQ.out; omega, by have := HQ.out; omega⟩
      clear l5 l6
      refine hK.out _ _ (sS.out _ (KT.trans hk5)) (fun hHeld => ?_)
      clear hK K
      have zp9 := zp9.kept hk5
      have n3 := D.NIs.kept n3 hk5
      have n4 := D.NIs.kept n4 hk5
      have KT := KT.trans hk5
      refine wpAnyH_ready (rs := [5]) (by kernel_rfl) (by simp) ?_
      refine AllReadyH.cons rfl (fun K hK => ?_) AllReadyH.nil
      go_simp
      refine hK.out _ _ (sS.out _ (KT.alloc _)) (fun hHeld => ?_)
      clear hK K
      have zp10 := FRow.alloc w5 (.bool false) (.slice none 0 0) (.bool false) (.slice none 0 0)
      have hgp10 : w1.heap.size ≤ w5.heap.size := KT.size
      have dp10p9 : ¬ (w5.heap.size = p9) := by have := zp9.lt; omega
      have dp9p10 : ¬ (p9 = w5.heap.size) := by have := zp9.lt; omega
      have zp9 := zp9.kept ((Kept.refl w5).alloc (.cells #[.bool false, .slice none 0 0, .bool false, .slice none 0 0] 68))
      have n3 := D.NIs.kept n3 ((Kept.refl w5).alloc (.cells #[.bool false, .slice none 0 0, .bool false, .slice none 0 0] 68))
      have n4 := D.NIs.kept n4 ((Kept.refl w5).alloc (.cells #[.bool false, .slice none 0 0, .bool false, .slice none 0 0] 68))
      have n5 := D.NIs.kept n5 ((Kept.refl w5).alloc (.cells #[.bool false, .slice none 0 0, .bool false, .slice none 0 0] 68))
      have n6 := D.NIs.kept n6 ((Kept.refl w5).alloc (.cells #[.bool false, .slice none 0 0, .bool false, .slice none 0 0] 68))
      have KT := KT.alloc (.cells #[.bool false, .slice none 0 0, .bool false, .slice none 0 0] 68)
      obtain ⟨p10, hpp10⟩ : ∃ p, p = w5.heap.size := ⟨_, rfl⟩
      rw [← hpp10] at zp10 hgp10 dp10p9 dp9p10 ⊢
      generalize w5.alloc (.cells #[.bool false, .slice none 0 0, .bool false, .slice none 0 0] 68) = Wa5 at zp10 zp9 n3 n4 n5 n6 KT hHeld ⊢
      clear hpp10
      obtain ⟨cp90, cp91, cp92, cp93, gp90, gp91, gp92, gp93⟩ := zp9.all8
      refine wpAnyH_ready (rs := [6]) (by kernel_rfl) (by simp) ?_
      refine AllReadyH.cons rfl (fun K hK => ?_) AllReadyH.nil
      go_simp
      refine hK.out _ _ (sS.out _ (Kept.put4 KT hgp9 _ _ _ _)) (fun hHeld => ?_)
      clear hK K
      have ep9 := zp9.put4 (.bool s3) (.slice a3 k3' c3') (.bool t3) (.slice a4 k4' c4')
      have n3 := nset4 (y0 := .bool s3) (y1 := .slice a3 k3' c3') (y2 := .bool t3) (y3 := .slice a4 k4' c4') n3 zp9
      have n4 := nset4 (y0 := .bool s3) (y1 := .slice a3 k3' c3') (y2 := .bool t3) (y3 := .slice a4 k4' c4') n4 zp9
      have n5 := nset4 (y0 := .bool s3) (y1 := .slice a3 k3' c3') (y2 := .bool t3) (y3 := .slice a4 k4' c4') n5 zp9
      have n6 := nset4 (y0 := .bool s3) (y1 := .slice a3 k3' c3') (y2 := .bool t3) (y3 := .slice a4 k4' c4') n6 zp9
      have zp10 := zp10.farp dp10p9 (.bool s3) (.slice a3 k3' c3') (.bool t3) (.slice a4 k4' c4')
      have KT := Kept.put4 KT hgp9 (.bool s3) (.slice a3 k3' c3') (.bool t3) (.slice a4 k4' c4')
      clear cp90 cp91 cp92 cp93 gp90 gp91 gp92 gp93 zp9
      unfold put4 at n3 n4 n5 n6 KT ep9 zp10
      generalize (((Wa5.setCell ⟨p9, 0, none⟩ (.bool s3)).setCell ⟨p9, 1, none⟩ (.slice a3 k3' c3')).setCell ⟨p9, 2, none⟩ (.bool t3)).setCell ⟨p9, 3, none⟩ (.slice a4 k4' c4') = Ws0 at ep9 zp10 n3 n4 n5 n6 KT hHeld ⊢
      obtain ⟨cp100, cp101, cp102, cp103, gp100, gp101, gp102, gp103⟩ := zp10.all8
      refine wpAnyH_ready (rs := [7]) (by kernel_rfl) (by simp) ?_
      refine AllReadyH.cons rfl (fun K hK => ?_) AllReadyH.nil
      go_simp
      refine hK.out _ _ (sS.out _ (Kept.put4 KT hgp10 _ _ _ _)) (fun hHeld => ?_)
      clear hK K
      have ep10 := zp10.put4 (.bool s5) (.slice a5 k5' c5') (.bool t5) (.slice a6 k6' c6')
      have ep9 := ep9.farp dp9p10 (.bool s5) (.slice a5 k5' c5') (.bool t5) (.slice a6 k6' c6')
      have n3 := nset4 (y0 := .bool s5) (y1 := .slice a5 k5' c5') (y2 := .bool t5) (y3 := .slice a6 k6' c6') n3 zp10
      have n4 := nset4 (y0 := .bool s5) (y1 := .slice a5 k5' c5') (y2 := .bool t5) (y3 := .slice a6 k6' c6') n4 zp10
      have n5 := nset4 (y0 := .bool s5) (y1 := .slice a5 k5' c5') (y2 := .bool t5) (y3 := .slice a6 k6' c6') n5 zp10
      have n6 := nset4 (y0 := .bool s5) (y1 := .slice a5 k5' c5') (y2 := .bool t5) (y3 := .slice a6 k6' c6') n6 zp10
      have KT := Kept.put4 KT hgp10 (.bool s5) (.slice a5 k5' c5') (.bool t5) (.slice a6 k6' c6')
      clear cp100 cp101 cp102 cp103 gp100 gp101 gp102 gp103 zp10
      unfold put4 at n3 n4 n5 n6 KT ep9 ep10
      generalize (((Ws0.setCell ⟨p10, 0, none⟩ (.bool s5)).setCell ⟨p10, 1, none⟩ (.slice a5 k5' c5')).setCell ⟨p10, 2, none⟩ (.bool t5)).setCell ⟨p10, 3, none⟩ (.slice a6 k6' c6') = Ws1 at ep9 ep10  n3 n4 n5 n6 KT hHeld ⊢
      refine wpAnyH_done (by kernel_rfl) ?_ _
      go_wp2_with fail
      go_meet
      case rel => exact ⟨p9, p10, s3, a3, k3', c3', t3, a4, k4', c4', s5, a5, k5', c5', t5, a6, k6', c6', rfl, rfl, KT, ep9, ep10, n3, n4, n5, n6, HL3.out, HL5.out⟩
     refine AllReadyH.cons rfl (fun K hK => ?_) AllReadyH.nil
     go_simp
     refine hK.out _ _ (sS.out _ (KT.alloc _)) (fun hHeld => ?_)
     clear hK K
     have zp10 := FRow.alloc Wa4 (.bool false) (.slice none 0 0) (.bool false) (.slice none 0 0)
     have hgp10 : w1.heap.size ≤ Wa4.heap.size := KT.size
     have dp10p9 : ¬ (Wa4.heap.size = p9) := by have := zp9.lt; omega
     have dp9p10 : ¬ (p9 = Wa4.heap.size) := by have := zp9.lt; omega
     have zp9 := zp9.kept ((Kept.refl Wa4).alloc (.cells #[.bool false, .slice none 0 0, .bool false, .slice none 0 0] 68))
     have n3 := D.NIs.kept n3 ((Kept.refl Wa4).alloc (.cells #[.bool false, .slice none 0 0, .bool false, .slice none 0 0] 68))
     have n4 := D.NIs.kept n4 ((Kept.refl Wa4).alloc (.cells #[.bool false, .slice none 0 0, .bool false, .slice none 0 0] 68))
     have KT := KT.alloc (.cells #[.bool false, .slice none 0 0, .bool false, .slice none 0 0] 68)
     obtain ⟨p10, hpp10⟩ : ∃ p, p = Wa4.heap.size := ⟨_, rfl⟩
     rw [← hpp10] at zp10 hgp10 dp10p9 dp9p10 ⊢
     generalize Wa4.alloc (.cells #[.bool false, .slice none 0 0, .bool false, .slice none 0 0] 68) = Wa5 at zp10 zp9 n3 n4 KT hHeld ⊢
     clear hpp10
     refine wpAnyH_ready (rs := [3]) (by kernel_rfl) (by simp) ?_
     refine AllReadyH.cons rfl (fun K hK => ?_) AllReadyH.nil
     go_simp
     refine (FTake_any n nB b1 b2 k3 c3 k4 c4 bn bd _ (HA.out.2.2.1.kept (HV.out _ (HK1.out.trans KT)).2.2.2) (HA.out.2.2.2.1.kept (HV.out _ (HK1.out.trans KT)).2.2.2) (by have := HQ.out; omega) (by have := HQ.out; omega)).mono ?_
     rintro e w5 ⟨hk5, v5, rfl, s5, a5, k5', c5', t5, a6, k6', c6', rfl, n5, n6, l5, l6⟩
     have HL5 : Hid (k5' ≤ 144 ∧ k6' ≤ 144) := ⟨by have := HQ.out; omega, by have := HQ.out; omega⟩
     clear l5 l6
     refine hK.out _ _ (sS.out _ (KT.trans hk5)) (fun hHeld => ?_)
     clear hK K
     have zp9 := zp9.kept hk5
     have zp10 := zp10.kept hk5
     have n3 := D.NIs.kept n3 hk5
     have n4 := D.NIs.kept n4 hk5
     have KT := KT.trans hk5
     obtain ⟨cp90, cp91, cp92, cp93, gp90, gp91, gp92, gp93⟩ := zp9.all8
     refine wpAnyH_ready (rs := [6]) (by kernel_rfl) (by simp) ?_
     refine AllReadyH.cons rfl (fun K hK => ?_) AllReadyH.nil
     go_simp
     refine hK.out _ _ (sS.out _ (Kept.put4 KT hgp9 _ _ _ _)) (fun hHeld => ?_)
     clear hK K
     have ep9 := zp9.put4 (.bool s3) (.slice a3 k3' c3') (.bool t3) (.slice a4 k4' c4')
     have n3 := nset4 (y0 := .bool s3) (y1 := .slice a3 k3' c3') (y2 := .bool t3) (y3 := .slice a4 k4' c4') n3 zp9
     have n4 := nset4 (y0 := .bool s3) (y1 := .slice a3 k3' c3') (y2 := .bool t3) (y3 := .slice a4 k4' c4') n4 zp9
     have n5 := nset4 (y0 := .bool s3) (y1 := .slice a3 k3' c3') (y2 := .bool t3) (y3 := .slice a4 k4' c4') n5 zp9
     have n6 := nset4 (y0 := .bool s3) (y1 := .slice a3 k3' c3') (y2 := .bool t3) (y3 := .slice a4 k4' c4') n6 zp9
     have zp10 := zp10.farp dp10p9 (.bool s3) (.slice a3 k3' c3') (.bool t3) (.slice a4 k4' c4')
     have KT := Kept.put4 KT hgp9 (.bool s3) (.slice a3 k3' c3') (.bool t3) (.slice a4 k4' c4')
     clear cp90 cp91 cp92 cp93 gp90 gp91 gp92 gp93 zp9
     unfold put4 at n3 n4 n5 n6 KT ep9 zp10
     generalize (((w5.setCell ⟨p9, 0, none⟩ (.bool s3)).setCell ⟨p9, 1, none⟩ (.slice a3 k3' c3')).setCell ⟨p9, 2, none⟩ (.bool t3)).setCell ⟨p9, 3, none⟩ (.slice a4 k4' c4') = Ws0 at ep9 zp10 n3 n4 n5 n6 KT hHeld ⊢
     obtain ⟨cp100, cp101, cp102, cp103, gp100, gp101, gp102, gp103⟩ := zp10.all8
     refine wpAnyH_ready (rs := [7]) (by kernel_rfl) (by simp) ?_
     refine AllReadyH.cons rfl (fun K hK => ?_) AllReadyH.nil
     go_simp
     refine hK.out _ _ (sS.out _ (Kept.put4 KT hgp10 _ _ _ _)) (fun hHeld => ?_)
     clear hK K
     have ep10 := zp10.put4 (.bool s5) (.slice a5 k5' c5') (.bool t5) (.slice a6 k6' c6')
     have ep9 := ep9.farp dp9p10 (.bool s5) (.slice a5 k5' c5') (.bool t5) (.slice a6 k6' c6')
     have n3 := nset4 (y0 := .bool s5) (y1 := .slice a5 k5' c5') (y2 := .bool t5) (y3 := .slice a6 k6' c6') n3 zp10
     have n4 := nset4 (y0 := .bool s5) (y1 := .slice a5 k5' c5') (y2 := .bool t5) (y3 := .slice a6 k6' c6') n4 zp10
     have n5 := nset4 (y0 := .bool s5) (y1 := .slice a5 k5' c5') (y2 := .bool t5) (y3 := .slice a6 k6' c6') n5 zp10
     have n6 := nset4 (y0 := .bool s5) (y1 := .slice a5 k5' c5') (y2 := .bool t5) (y3 := .slice a6 k6' c6') n6 zp10
     have KT := Kept.put4 KT hgp10 (.bool s5) (.slice a5 k5' c5') (.bool t5) (.slice a6 k6' c6')
     clear cp100 cp101 cp102 cp103 gp100 gp101 gp102 gp103 zp10
     unfold put4 at n3 n4 n5 n6 KT ep9 ep10
     generalize (((Ws0.setCell ⟨p10, 0, none⟩ (.bool s5)).setCell ⟨p10, 1, none⟩ (.slice a5 k5' c5')).setCell ⟨p10, 2, none⟩ (.bool t5)).setCell ⟨p10, 3, none⟩ (.slice a6 k6' c6') = Ws1 at ep9 ep10  n3 n4 n5 n6 KT hHeld ⊢
     refine wpAnyH_done (by kernel_rfl) ?_ _
     go_wp2_with fail
     go_meet
     case rel => exact ⟨p9, p10, s3, a3, k3', c3', t3, a4, k4', c4', s5, a5, k5', c5', t5, a6, k6', c6', rfl, rfl, KT, ep9, ep10, n3, n4, n5, n6, HL3.out, HL5.out⟩
    refine AllReadyH.cons rfl (fun K hK => ?_) AllReadyH.nil
    go_simp
    refine hK.out _ _ (sS.out _ (KT.alloc _)) (fun hHeld => ?_)
    clear hK K
    have zp10 := FRow.alloc w3 (.bool false) (.slice none 0 0) (.bool false) (.slice none 0 0)
    have hgp10 : w1.heap.size ≤ w3.heap.size := KT.size
    have n3 := D.NIs.kept n3 ((Kept.refl w3).alloc (.cells #[.bool false, .slice none 0 0, .bool false, .slice none 0 0] 68))
    have n4 := D.NIs.kept n4 ((Kept.refl w3).alloc (.cells #[.bool false, .slice none 0 0, .bool false, .slice none 0 0] 68))
    have KT := KT.alloc (.cells #[.bool false, .slice none 0 0, .bool false, .slice none 0 0] 68)
    obtain ⟨p10, hpp10⟩ : ∃ p, p = w3.heap.size := ⟨_, rfl⟩
    rw [← hpp10] at zp10 hgp10  ⊢
    generalize w3.alloc (.cells #[.bool false, .slice none 0 0, .bool false, .slice none 0 0] 68) = Wa5 at zp10  n3 n4 KT hHeld ⊢
    clear hpp10
    refine wpAnyH_ready (rs := [3, 4]) (by kernel_rfl) (by simp) ?_
    refine AllReadyH.cons rfl (fun K hK => ?_) ?_
    ·
     go_simp
     refine (FTake_any n nB b1 b2 k3 c3 k4 c4 bn bd _ (HA.out.2.2.1.kept (HV.out _ (HK1.out.trans KT)).2.2.2) (HA.out.2.2.2.1.kept (HV.out _ (HK1.out.trans KT)).2.2.2) (by have := HQ.out; omega) (by have := HQ.out; omega)).mono ?_
     rintro e w5 ⟨hk5, v5, rfl, s5, a5, k5', c5', t5, a6, k6', c6', rfl, n5, n6, l5, l6⟩
     have HL5 : Hid (k5' ≤ 144 ∧ k6' ≤ 144) := ⟨by have := HQ.out; omega, by have := HQ.out; omega⟩
     clear l5 l6
     refine hK.out _ _ (sS.out _ (KT.trans hk5)) (fun hHeld => ?_)
     clear hK K
     have zp10 := zp10.kept hk5
     have n3 := D.NIs.kept n3 hk5
     have n4 := D.NIs.kept n4 hk5
     have KT := KT.trans hk5
     refine wpAnyH_ready (rs := [4]) (by kernel_rfl) (by simp) ?_
     refine AllReadyH.cons rfl (fun K hK => ?_) AllReadyH.nil
     go_simp
     refine hK.out _ _ (sS.out _ (KT.alloc _)) (fun hHeld => ?_)
     clear hK K
     have zp9 := FRow.alloc w5 (.bool false) (.slice none 0 0) (.bool false) (.slice none 0 0)
     have hgp9 : w1.heap.size ≤ w5.heap.size := KT.size
     have dp9p10 : ¬ (w5.heap.size = p10) := by have := zp10.lt; omega
     have dp10p9 : ¬ (p10 = w5.heap.size) := by have := zp10.lt; omega
     have zp10 := zp10.kept ((Kept.refl w5).alloc (.cells #[.bool false, .slice none 0 0, .bool false, .slice none 0 0] 68))
     have n3 := D.NIs.kept n3 ((Kept.refl w5).alloc (.cells #[.bool false, .slice none 0 0, .bool false, .slice none 0 0] 68))
     have n4 := D.NIs.kept n4 ((Kept.refl w5).alloc (.cells #[.bool false, .slice none 0 0, .bool false, .slice none 0 0] 68))
     have n5 := D.NIs.kept n5 ((Kept.refl w5).alloc (.cells #[.bool false, .slice none 0 0, .bool false, .slice none 0 0] 68))
     have n6 := D.NIs.kept n6 ((Kept.refl w5).alloc (.cells #[.bool false, .slice none 0 0, .bool false, .slice none 0 0] 68))
     have KT := KT.alloc (.cells #[.bool false, .slice none 0 0, .bool false, .slice none 0 0] 68)
     obtain ⟨p9, hpp9⟩ : ∃ p, p = w5.heap.size := ⟨_, rfl⟩
     rw [← hpp9] at zp9 hgp9 dp9p10 dp10p9 ⊢
     generalize w5.alloc (.cells #[.bool false, .slice none 0 0, .bool false, .slice none 0 0] 68) = Wa4 at zp9 zp10 n3 n4 n5 n6 KT hHeld ⊢
     clear hpp9
     obtain ⟨cp90, cp91, cp92, cp93, gp90, gp91, gp92, gp93⟩ := zp9.all8
     refine wpAnyH_ready (rs := [6]) (by kernel_rfl) (by simp) ?_
     refine AllReadyH.cons rfl (fun K hK => ?_) AllReadyH.nil
     go_simp
     refine hK.out _ _ (sS.out _ (Kept.put4 KT hgp9 _ _ _ _)) (fun hHeld => ?_)
     clear hK K
     have ep9 := zp9.put4 (.bool s3) (.slice a3 k3' c3') (.bool t3) (.slice a4 k4' c4')
     have n3 := nset4 (y0 := .bool s3) (y1 := .slice a3 k3' c3') (y2 := .bool t3) (y3 := .slice a4 k4' c4') n3 zp9
     have n4 := nset4 (y0 := .bool s3) (y1 := .slice a3 k3' c3') (y2 := .bool t3) (y3 := .slice a4 k4' c4') n4 zp9
     have n5 := nset4 (y0 := .bool s3) (y1 := .slice a3 k3' c3') (y2 := .bool t3) (y3 := .slice a4 k4' c4') n5 zp9
     have n6 := nset4 (y0 := .bool s3) (y1 := .slice a3 k3' c3') (y2 := .bool t3) (y3 := .slice a4 k4' c4') n6 zp9
     have zp10 := zp10.farp dp10p9 (.bool s3) (.slice a3 k3' c3') (.bool t3) (.slice a4 k4' c4')
     have KT := Kept.put4 KT hgp9 (.bool s3) (.slice a3 k3' c3') (.bool t3) (.slice a4 k4' c4')
     clear cp90 cp91 cp92 cp93 gp90 gp91 gp92 gp93 zp9
     unfold put4 at n3 n4 n5 n6 KT ep9 zp10
     generalize (((Wa4.setCell ⟨p9, 0, none⟩ (.bool s3)).setCell ⟨p9, 1, none⟩ (.slice a3 k3' c3')).setCell ⟨p9, 2, none⟩ (.bool t3)).setCell ⟨p9, 3, none⟩ (.slice a4 k4' c4') = Ws0 at ep9 zp10 n3 n4 n5 n6 KT hHeld ⊢
     obtain ⟨cp100, cp101, cp102, cp103, gp100, gp101, gp102, gp103⟩ := zp10.all8
     refine wpAnyH_ready (rs := [7]) (by kernel_rfl) (by simp) ?_
     refine AllReadyH.cons rfl (fun K hK => ?_) AllReadyH.nil
     go_simp
     refine hK.out _ _ (sS.out _ (Kept.put4 KT hgp10 _ _ _ _)) (fun hHeld => ?_)
     clear hK K
     have ep10 := zp10.put4 (.bool s5) (.slice a5 k5' c5') (.bool t5) (.slice a6 k6' c6')
     have ep9 := ep9.farp dp9p10 (.bool s5) (.slice a5 k5' c5') (.bool t5) (.slice a6 k6' c6')
     have n3 := nset4 (y0 := .bool s5) (y1 := .slice a5 k5' c5') (y2 := .bool t5) (y3 := .slice a6 k6' c6') n3 zp10
     have n4 := nset4 (y0 := .bool s5) (y1 := .slice a5 k5' c5') (y2 := .bool t5) (y3 := .slice a6 k6' c6') n4 zp10
     have n5 := nset4 (y0 := .bool s5) (y1 := .slice a5 k5' c5') (y2 := .bool t5) (y3 := .slice a6 k6' c6') n5 zp10
     have n6 := nset4 (y0 := .bool s5) (y1 := .slice a5 k5' c5') (y2 := .bool t5) (y3 := .slice a6 k6' c6') n6 zp10
     have KT := Kept.put4 KT hgp10 (.bool s5) (.slice a5 k5' c5') (.bool t5) (.slice a6 k6' c6')
     clear cp100 cp101 cp102 cp103 gp100 gp101 gp102 gp103 zp10
     unfold put4 at n3 n4 n5 n6 KT ep9 ep10
     generalize (((Ws0.setCell ⟨p10, 0, none⟩ (.bool s5)).setCell ⟨p10, 1, none⟩ (.slice a5 k5' c5')).setCell ⟨p10, 2, none⟩ (.bool t5)).setCell ⟨p10, 3, none⟩ (.slice a6 k6' c6') = Ws1 at ep9 ep10  n3 n4 n5 n6 KT hHeld ⊢
     refine wpAnyH_done (by kernel_rfl) ?_ _
     go_wp2_with fail
     go_meet
     case rel => exact ⟨p9, p10, s3, a3, k3', c3', t3, a4, k4', c4', s5, a5, k5', c5', t5, a6, k6', c6', rfl, rfl, KT, ep9, ep10, n3, n4, n5, n6, HL3.out, HL5.out⟩
    refine AllReadyH.cons rfl (fun K hK => ?_) AllReadyH.nil
    go_simp
    refine hK.out _ _ (sS.out _ (KT.alloc _)) (fun hHeld => ?_)
    clear hK K
    have zp9 := FRow.alloc Wa5 (.bool false) (.slice none 0 0) (.bool false) (.slice none 0 0)
    have hgp9 : w1.heap.size ≤ Wa5.heap.size := KT.size
    have dp9p10 : ¬ (Wa5.heap.size = p10) := by have := zp10.lt; omega
    have dp10p9 : ¬ (p10 = Wa5.heap.size) := by have := zp10.lt; omega
    have zp10 := zp10.kept ((Kept.refl Wa5).alloc (.cells #[.bool false, .slice none 0 0, .bool false, .slice none 0 0] 68))
    have n3 := D.NIs.kept n3 ((Kept.refl Wa5).alloc (.cells #[.bool false, .slice none 0 0, .bool false, .slice none 0 0] 68))
    have n4 := D.NIs.kept n4 ((Kept.refl Wa5).alloc (.cells #[.bool false, .slice none 0 0, .bool false, .slice none 0 0] 68))
    have KT := KT.alloc (.cells #[.bool false, .slice none 0 0, .bool false, .slice none 0 0] 68)
    obtain ⟨p9, hpp9⟩ : ∃ p, p = Wa5.heap.size := ⟨_, rfl⟩
    rw [← hpp9] at zp9 hgp9 dp9p10 dp10p9 ⊢
    generalize Wa5.alloc (.cells #[.bool false, .slice none 0 0, .bool false, .slice none 0 0] 68) = Wa4 at zp9 zp10 n3 n4 KT hHeld ⊢
    clear hpp9
    refine wpAnyH_ready (rs := [3]) (by kernel_rfl) (by simp) ?_
    refine AllReadyH.cons rfl (fun K hK => ?_) AllReadyH.nil
    go_simp
    refine (FTake_any n nB b1 b2 k3 c3 k4 c4 bn bd _ (HA.out.2.2.1.kept (HV.out _ (HK1.out.trans KT)).2.2.2) (HA.out.2.2.2.1.kept (HV.out _ (HK1.out.trans KT)).2.2.2) (by have := HQ.out; omega) (by have := HQ.out; omega)).mono ?_
    rintro e w5 ⟨hk5, v5, rfl, s5, a5, k5', c5', t5, a6, k6', c6', rfl, n5, n6, l5, l6⟩
    have HL5 : Hid (k5' ≤ 144 ∧ k6' ≤ 144) := ⟨by have := HQ.out; omega, by have := HQ.out; omega⟩
    clear l5 l6
    refine hK.out _ _ (sS.out _ (KT.trans hk5)) (fun hHeld => ?_)
    clear hK K
    have zp10 := zp10.kept hk5
    have zp9 := zp9.kept hk5
    have n3 := D.NIs.kept n3 hk5
    have n4 := D.NIs.kept n4 hk5
    have KT := KT.trans hk5
    obtain ⟨cp90, cp91, cp92, cp93, gp90, gp91, gp92, gp93⟩ := zp9.all8
    refine wpAnyH_ready (rs := [6]) (by kernel_rfl) (by simp) ?_
    refine AllReadyH.cons rfl (fun K hK => ?_) AllReadyH.nil
    go_simp
    refine hK.out _ _ (sS.out _ (Kept.put4 KT hgp9 _ _ _ _)) (fun hHeld => ?_)
    clear hK K
    have ep9 := zp9.put4 (.bool s3) (.slice a3 k3' c3') (.bool t3) (.slice a4 k4' c4')
    have n3 := nset4 (y0 := .bool s3) (y1 := .slice a3 k3' c3') (y2 := .bool t3) (y3 := .slice a4 k4' c4') n3 zp9
    have n4 := nset4 (y0 := .bool s3) (y1 := .slice a3 k3' c3') (y2 := .bool t3) (y3 := .slice a4 k4' c4') n4 zp9
    have n5 := nset4 (y0 := .bool s3) (y1 := .slice a3 k3' c3') (y2 := .bool t3) (y3 := .slice a4 k4' c4') n5 zp9
    have n6 := nset4 (y0 := .bool s3) (y1 := .slice a3 k3' c3') (y2 := .bool t3) (y3 := .slice a4 k4' c4') n6 zp9
    have zp10 := zp10.farp dp10p9 (.bool s3) (.slice a3 k3' c3') (.bool t3) (.slice a4 k4' c4')
    have KT := Kept.put4 KT hgp9 (.bool s3) (.slice a3 k3' c3') (.bool t3) (.slice a4 k4' c4')
    clear cp90 cp91 cp92 cp93 gp90 gp91 gp92 gp93 zp9
    unfold put4 at n3 n4 n5 n6 KT ep9 zp10
    generalize (((w5.setCell ⟨p9, 0, none⟩ (.bool s3)).setCell ⟨p9, 1, none⟩ (.slice a3 k3' c3')).setCell ⟨p9, 2, none⟩ (.bool t3)).setCell ⟨p9, 3, none⟩ (.slice a4 k4' c4') = Ws0 at ep9 zp10 n3 n4 n5 n6 KT hHeld ⊢
    obtain ⟨cp100, cp101, cp102, cp103, gp100, gp101, gp102, gp103⟩ := zp10.all8
    refine wpAnyH_ready (rs := [7]) (by kernel_rfl) (by simp) ?_
    refine AllReadyH.cons rfl (fun K hK => ?_) AllReadyH.nil
    go_simp
    refine hK.out _ _ (sS.out _ (Kept.put4 KT hgp10 _ _ _ _)) (fun hHeld => ?_)
    clear hK K
    have ep10 := zp10.put4 (.bool s5) (.slice a5 k5' c5') (.bool t5) (.slice a6 k6' c6')
    have ep9 := ep9.farp dp9p10 (.bool s5) (.slice a5 k5' c5') (.bool t5) (.slice a6 k6' c6')
    have n3 := nset4 (y0 := .bool s5) (y1 := .slice a5 k5' c5') (y2 := .bool t5) (y3 := .slice a6 k6' c6') n3 zp10
    have n4 := nset4 (y0 := .bool s5) (y1 := .slice a5 k5' c5') (y2 := .bool t5) (y3 := .slice a6 k6' c6') n4 zp10
    have n5 := nset4 (y0 := .bool s5) (y1 := .slice a5 k5' c5') (y2 := .bool t5) (y3 := .slice a6 k6' c6') n5 zp10
    have n6 := nset4 (y0 := .bool s5) (y1 := .slice a5 k5' c5') (y2 := .bool t5) (y3 := .slice a6 k6' c6') n6 zp10
    have KT := Kept.put4 KT hgp10 (.bool s5) (.slice a5 k5' c5') (.bool t5) (.slice a6 k6' c6')
    clear cp100 cp101 cp102 cp103 gp100 gp101 gp102 gp103 zp10
    unfold put4 at n3 n4 n5 n6 KT ep9 ep10
    generalize (((Ws0.setCell ⟨p10, 0, none⟩ (.bool s5)).setCell ⟨p10, 1, none⟩ (.slice a5 k5' c5')).setCell ⟨p10, 2, none⟩ (.bool t5)).setCell ⟨p10, 3, none⟩ (.slice a6 k6' c6') = Ws1 at ep9 ep10  n3 n4 n5 n6 KT hHeld ⊢
    refine wpAnyH_done (by kernel_rfl) ?_ _
    go_wp2_with fail
    go_meet
    case rel => exact ⟨p9, p10, s3, a3, k3', c3', t3, a4, k4', c4', s5, a5, k5', c5', t5, a6, k6', c6', rfl, rfl, KT, ep9, ep10, n3, n4, n5, n6, HL3.out, HL5.out⟩
   refine AllReadyH.cons rfl (fun K hK => ?_) ?_
   ·
    go_simp
    refine hK.out _ _ (sS.out _ (KT.alloc _)) (fun hHeld => ?_)
    clear hK K
    have zp9 := FRow.alloc Wd (.bool false) (.slice none 0 0) (.bool false) (.slice none 0 0)
    have hgp9 : w1.heap.size ≤ Wd.heap.size := KT.size
    have KT := KT.alloc (.cells #[.bool false, .slice none 0 0, .bool false, .slice none 0 0] 68)
    obtain ⟨p9, hpp9⟩ : ∃ p, p = Wd.heap.size := ⟨_, rfl⟩
    rw [← hpp9] at zp9 hgp9  ⊢
    generalize Wd.alloc (.cells #[.bool false, .slice none 0 0, .bool false, .slice none 0 0] 68) = Wa4 at zp9   KT hHeld ⊢
    clear hpp9
    refine wpAnyH_ready (rs := [1, 5]) (by kernel_rfl) (by simp) ?_
    refine AllReadyH.cons rfl (fun K hK => ?_) ?_
    ·
     go_simp
     refine (FTake_any m nA a1 a2 k1 c1 k2 c2 an ad _ (HA.out.1.kept (HV.out _ (HK1.out.trans KT)).2.2.2) (HA.out.2.1.kept (HV.out _ (HK1.out.trans KT)).2.2.2) (by have := HQ.out; omega) (by have := HQ.out; omega)).mono ?_
     rintro e w3 ⟨hk3, v3, rfl, s3, a3, k3', c3', t3, a4, k4', c4', rfl, n3, n4, l3, l4⟩
     have HL3 : Hid (k3' ≤ 144 ∧ k4' ≤ 144) := ⟨by have := HQ.out; omega, by have := HQ.out; omega⟩
     clear l3 l4
     refine hK.out _ _ (sS.out _ (KT.trans hk3)) (fun hHeld => ?_)
     clear hK K
     have zp9 := zp9.kept hk3
     have KT := KT.trans hk3
     refine wpAnyH_ready (rs := [3, 5]) (by kernel_rfl) (by simp) ?_
     refine AllReadyH.cons rfl (fun K hK => ?_) ?_
     ·
      go_simp
      refine (FTake_any n nB b1 b2 k3 c3 k4 c4 bn bd _ (HA.out.2.2.1.kept (HV.out _ (HK1.out.trans KT)).2.2.2) (HA.out.2.2.2.1.kept (HV.out _ (HK1.out.trans KT)).2.2.2) (by have := HQ.out; omega) (by have := HQ.out; omega)).mono ?_
      rintro e w5 ⟨hk5, v5, rfl, s5, a5, k5', c5', t5, a6, k6', c6', rfl, n5, n6, l5, l6⟩
      have HL5 : Hid (k5' ≤ 144 ∧ k6' ≤ 144) := ⟨by have := HQ.out; omega, by have := HQ.out; omega⟩
      clear l5 l6
      refine hK.out _ _ (sS.out _ (KT.trans hk5)) (fun hHeld => ?_)
      clear hK K
      have zp9 := zp9.kept hk5
      have n3 := D.NIs.kept n3 hk5
      have n4 := D.NIs.kept n4 hk5
      have KT := KT.trans hk5
      refine wpAnyH_ready (rs := [5]) (by kernel_rfl) (by simp) ?_
      refine AllReadyH.cons rfl (fun K hK => ?_) AllReadyH.nil
      go_simp
      refine hK.out _ _ (sS.out _ (KT.alloc _)) (fun hHeld => ?_)
      clear hK K
      have zp10 := FRow.alloc w5 (.bool false) (.slice none 0 0) (.bool false) (.slice none 0 0)
      have hgp10 : w1.heap.size ≤ w5.heap.size := KT.size
      have dp10p9 : ¬ (w5.heap.size = p9) := by have := zp9.lt; omega
      have dp9p10 : ¬ (p9 = w5.heap.size) := by have := zp9.lt; omega
      have zp9 := zp9.kept ((Kept.refl w5).alloc (.cells #[.bool false, .slice none 0 0, .bool false, .slice none 0 0] 68))
      have n3 := D.NIs.kept n3 ((Kept.refl w5).alloc (.cells #[.bool false, .slice none 0 0, .bool false, .slice none 0 0] 68))
      have n4 := D.NIs.kept n4 ((Kept.refl w5).alloc (.cells #[.bool false, .slice none 0 0, .bool false, .slice none 0 0] 68))
      have n5 := D.NIs.kept n5 ((Kept.refl w5).alloc (.cells #[.bool false, .slice none 0 0, .bool false, .slice none 0 0] 68))
      have n6 := D.NIs.kept n6 ((Kept.refl w5).alloc (.cells #[.bool false, .slice none 0 0, .bool false, .slice none 0 0] 68))
      have KT := KT.alloc (.cells #[.bool false, .slice none 0 0, .bool false, .slice none 0 0] 68)
      obtain ⟨p10, hpp10⟩ : ∃ p, p = w5.heap.size := ⟨_, rfl⟩
      rw [← hpp10] at zp10 hgp10 dp10p9 dp9p10 ⊢
      generalize w5.alloc (.cells #[.bool false, .slice none 0 0, .bool false, .slice none 0 0] 68) = Wa5 at zp10 zp9 n3 n4 n5 n6 KT hHeld ⊢
      clear hpp10
      obtain ⟨cp90, cp91, cp92, cp93, gp90, gp91, gp92, gp93⟩ := zp9.all8
      refine wpAnyH_ready (rs := [6]) (by kernel_rfl) (by simp) ?_
      refine AllReadyH.cons rfl (fun K hK => ?_) AllReadyH.nil
      go_simp
      refine hK.out _ _ (sS.out _ (Kept.put4 KT hgp9 _ _ _ _)) (fun hHeld => ?_)
      clear hK K
      have ep9 := zp9.put4 (.bool s3) (.slice a3 k3' c3') (.bool t3) (.slice a4 k4' c4')
      have n3 := nset4 (y0 := .bool s3) (y1 := .slice a3 k3' c3') (y2 := .bool t3) (y3 := .slice a4 k4' c4') n3 zp9
      have n4 := nset4 (y0 := .bool s3) (y1 := .slice a3 k3' c3') (y2 := .bool t3) (y3 := .slice a4 k4' c4') n4 zp9
      have n5 := nset4 (y0 := .bool s3) (y1 := .slice a3 k3' c3') (y2 := .bool t3) (y3 := .slice a4 k4' c4') n5 zp9
      have n6 := nset4 (y0 := .bool s3) (y1 := .slice a3 k3' c3') (y2 := .bool t3) (y3 := .slice a4 k4' c4') n6 zp9
      have zp10 := zp10.farp dp10p9 (.bool s3) (.slice a3 k3' c3') (.bool t3) (.slice a4 k4' c4')
      have KT := Kept.put4 KT hgp9 (.bool s3) (.slice a3 k3' c3') (.bool t3) (.slice a4 k4' c4')
      clear cp90 cp91 cp92 cp93 gp90 gp91 gp92 gp93 zp9
      unfold put4 at n3 n4 n5 n6 KT ep9 zp10
      generalize (((Wa5.setCell ⟨p9, 0, none⟩ (.bool s3)).setCell ⟨p9, 1, none⟩ (.slice a3 k3' c3')).setCell ⟨p9, 2, none⟩ (.bool t3)).setCell ⟨p9, 3, none⟩ (.slice a4 k4' c4') = Ws0 at ep9 zp10 n3 n4 n5 n6 KT hHeld ⊢
      obtain ⟨cp100, cp101, cp102, cp103, gp100, gp101, gp102, gp103⟩ := zp10.all8
      refine wpAnyH_ready (rs := [7]) (by kernel_rfl) (by simp) ?_
      refine AllReadyH.cons rfl (fun K hK => ?_) AllReadyH.nil
      go_simp
      refine hK.out _ _ (sS.out _ (Kept.put4 KT hgp10 _ _ _ _)) (fun hHeld => ?_)
      clear hK K
      have ep10 := zp10.put4 (.bool s5) (.slice a5 k5' c5') (.bool t5) (.slice a6 k6' c6')
      have ep9 := ep9.farp dp9p10 (.bool s5) (.slice a5 k5' c5') (.bool t5) (.slice a6 k6' c6')
      have n3 := nset4 (y0 := .bool s5) (y1 := .slice a5 k5' c5') (y2 := .bool t5) (y3 := .slice a6 k6' c6') n3 zp10
      have n4 := nset4 (y0 := .bool s5) (y1 := .slice a5 k5' c5') (y2 := .bool t5) (y3 := .slice a6 k6' c6') n4 zp10
      have n5 := nset4 (y0 := .bool s5) (y1 := .slice a5 k5' c5') (y2 := .bool t5) (y3 := .slice a6 k6' c6') n5 zp10
      have n6 := nset4 (y0 := .bool s5) (y1 := .slice a5 k5' c5') (y2 := .bool t5) (y3 := .slice a6 k6' c6') n6 zp10
      have KT := Kept.put4 KT hgp10 (.bool s5) (.slice a5 k5' c5') (.bool t5) (.slice a6 k6' c6')
      clear cp100 cp101 cp102 cp103 gp100 gp101 gp102 gp103 zp10
      unfold put4 at n3 n4 n5 n6 KT ep9 ep10
      generalize (((Ws0.setCell ⟨p10, 0, none⟩ (.bool s5)).setCell ⟨p10, 1, none⟩ (.slice a5 k5' c5')).setCell ⟨p10, 2, none⟩ (.bool t5)).setCell ⟨p10, 3, none⟩ (.slice a6 k6' c6') = Ws1 at ep9 ep10  n3 n4 n5 n6 KT hHeld ⊢
      refine wpAnyH_done (by kernel_rfl) ?_ _
      go_wp2_with fail
      go_meet
      case rel => exact ⟨p9, p10, s3, a3, k3', c3', t3, a4, k4', c4', s5, a5, k5', c5', t5, a6, k6', c6', rfl, rfl, KT, ep9, ep10, n3, n4, n5, n6, HL3.out, HL5.out⟩
     refine AllReadyH.cons rfl (fun K hK => ?_) AllReadyH.nil
     go_simp
     refine hK.out _ _ (sS.out _ (KT.alloc _)) (fun hHeld => ?_)
     clear hK K
     have zp10 := FRow.alloc w3 (.bool false) (.slice none 0 0) (.bool false) (.slice none 0 0)
     have hgp10 : w1.heap.size ≤ w3.heap.size := KT.size
     have dp10p9 : ¬ (w3.heap.size = p9) := by have := zp9.lt; omega
     have dp9p10 : ¬ (p9 = w3.heap.size) := by have := zp9.lt; omega
     have zp9 := zp9.kept ((Kept.refl w3).alloc (.cells #[.bool false, .slice none 0 0, .bool false, .slice none 0 0] 68))
     have n3 := D.NIs.kept n3 ((Kept.refl w3).alloc (.cells #[.bool false, .slice none 0 0, .bool false, .slice none 0 0] 68))
     have n4 := D.NIs.kept n4 ((Kept.refl w3).alloc (.cells #[.bool false, .slice none 0 0, .bool false, .slice none 0 0] 68))
     have KT := KT.alloc (.cells #[.bool false, .slice none 0 0, .bool false, .slice none 0 0] 68)
     obtain ⟨p10, hpp10⟩ : ∃ p, p = w3.heap.size := ⟨_, rfl⟩
     rw [← hpp10] at zp10 hgp10 dp10p9 dp9p10 ⊢
     generalize w3.alloc (.cells #[.bool false, .slice none 0 0, .bool false, .slice none 0 0] 68) = Wa5 at zp10 zp9 n3 n4 KT hHeld ⊢
     clear hpp10
     refine wpAnyH_ready (rs := [3]) (by kernel_rfl) (by simp) ?_
     refine AllReadyH.cons rfl (fun K hK => ?_) AllReadyH.nil
     go_simp
     refine (FTake_any n nB b1 b2 k3 c3 k4 c4 bn bd _ (HA.out.2.2.1.kept (HV.out _ (HK1.out.trans KT)).2.2.2) (HA.out.2.2.2.1.kept (HV.out _ (HK1.out.trans KT)).2.2.2) (by have := HQ.out; omega) (by have := HQ.out; omega)).mono ?_
     rintro e w5 ⟨hk5, v5, rfl, s5, a5, k5', c5', t5, a6, k6', c6', rfl, n5, n6, l5, l6⟩
     have HL5 : Hid (k5' ≤ 144 ∧ k6' ≤ 144) := ⟨by have := HQ.out; omega, by have := HQ.out; omega⟩
     clear l5 l6
     refine hK.out _ _ (sS.out _ (KT.trans hk5)) (fun hHeld => ?_)
     clear hK K
     have zp9 := zp9.kept hk5
     have zp10 := zp10.kept hk5
     have n3 := D.NIs.kept n3 hk5
     have n4 := D.NIs.kept n4 hk5
     have KT := KT.trans hk5
     obtain ⟨cp90, cp91, cp92, cp93, gp90, gp91, gp92, gp93⟩ := zp9.all8
     refine wpAnyH_ready (rs := [6]) (by kernel_rfl) (by simp) ?_
     refine AllReadyH.cons rfl (fun K hK => ?_) AllReadyH.nil
     go_simp
     refine hK.out _ _ (sS.out _ (Kept.put4 KT hgp9 _ _ _ _)) (fun hHeld => ?_)
     clear hK K
     have ep9 := zp9.put4 (.bool s3) (.slice a3 k3' c3') (.bool t3) (.slice a4 k4' c4')
     have n3 := nset4 (y0 := .bool s3) (y1 := .slice a3 k3' c3') (y2 := .bool t3) (y3 := .slice a4 k4' c4') n3 zp9
     have n4 := nset4 (y0 := .bool s3) (y1 := .slice a3 k3' c3') (y2 := .bool t3) (y3 := .slice a4 k4' c4') n4 zp9
     have n5 := nset4 (y0 := .bool s3) (y1 := .slice a3 k3' c3') (y2 := .bool t3) (y3 := .slice a4 k4' c4') n5 zp9
     have n6 := nset4 (y0 := .bool s3) (y1 := .slice a3 k3' c3') (y2 := .bool t3) (y3 := .slice a4 k4' c4') n6 zp9
     have zp10 := zp10.farp dp10p9 (.bool s3) (.slice a3 k3' c3') (.bool t3) (.slice a4 k4' c4')
     have KT := Kept.put4 KT hgp9 (.bool s3) (.slice a3 k3' c3') (.bool t3) (.slice a4 k4' c4')
     clear cp90 cp91 cp92 cp93 gp90 gp91 gp92 gp93 zp9
     unfold put4 at n3 n4 n5 n6 KT ep9 zp10
     generalize (((w5.setCell ⟨p9, 0, none⟩ (.bool s3)).setCell ⟨p9, 1, none⟩ (.slice a3 k3' c3')).setCell ⟨p9, 2, none⟩ (.bool t3)).setCell ⟨p9, 3, none⟩ (.slice a4 k4' c4') = Ws0 at ep9 zp10 n3 n4 n5 n6 KT hHeld ⊢
     obtain ⟨cp100, cp101, cp102, cp103, gp100, gp101, gp102, gp103⟩ := zp10.all8
     refine wpAnyH_ready (rs := [7]) (by kernel_rfl) (by simp) ?_
     refine AllReadyH.cons rfl (fun K hK => ?_) AllReadyH.nil
     go_simp
     refine hK.out _ _ (sS.out _ (Kept.put4 KT hgp10 _ _ _ _)) (fun hHeld => ?_)
     clear hK K
     have ep10 := zp10.put4 (.bool s5) (.slice a5 k5' c5') (.bool t5) (.slice a6 k6' c6')
     have ep9 := ep9.farp dp9p10 (.bool s5) (.slice a5 k5' c5') (.bool t5) (.slice a6 k6' c6')
     have n3 := nset4 (y0 := .bool s5) (y1 := .slice a5 k5' c5') (y2 := .bool t5) (y3 := .slice a6 k6' c6') n3 zp10
     have n4 := nset4 (y0 := .bool s5) (y1 := .slice a5 k5' c5') (y2 := .bool t5) (y3 := .slice a6 k6' c6') n4 zp10
     have n5 := nset4 (y0 := .bool s5) (y1 := .slice a5 k5' c5') (y2 := .bool t5) (y3 := .slice a6 k6' c6') n5 zp10
     have n6 := nset4 (y0 := .bool s5) (y1 := .slice a5 k5' c5') (y2 := .bool t5) (y3 := .slice a6 k6' c6') n6 zp10
     have KT := Kept.put4 KT hgp10 (.bool s5) (.slice a5 k5' c5') (.bool t5) (.slice a6 k6' c6')
     clear cp100 cp101 cp102 cp103 gp100 gp101 gp102 gp103 zp10
     unfold put4 at n3 n4 n5 n6 KT ep9 ep10
     generalize (((Ws0.setCell ⟨p10, 0, none⟩ (.bool s5)).setCell ⟨p10, 1, none⟩ (.slice a5 k5' c5')).setCell ⟨p10, 2, none⟩ (.bool t5)).setCell ⟨p10, 3, none⟩ (.slice a6 k6' c6') = Ws1 at ep9 ep10  n3 n4 n5 n6 KT hHeld ⊢
     refine wpAnyH_done (by kernel_rfl) ?_ _
     go_wp2_with fail
     go_meet
     case rel => exact ⟨p9, p10, s3, a3, k3', c3', t3, a4, k4', c4', s5, a5, k5', c5', t5, a6, k6', c6', rfl, rfl, KT, ep9, ep10, n3, n4, n5, n6, HL3.out, HL5.out⟩
    refine AllReadyH.cons rfl (fun K hK => ?_) AllReadyH.nil
    go_simp
    refine hK.out _ _ (sS.out _ (KT.alloc _)) (fun hHeld => ?_)
    clear hK K
    have zp10 := FRow.alloc Wa4 (.bool false) (.slice none 0 0) (.bool false) (.slice none 0 0)
    have hgp10 : w1.heap.size ≤ Wa4.heap.size := KT.size
    have dp10p9 : ¬ (Wa4.heap.size = p9) := by have := zp9.lt; omega
    have dp9p10 : ¬ (p9 = Wa4.heap.size) := by have := zp9.lt; omega
    have zp9 := zp9.kept ((Kept.refl Wa4).alloc (.cells #[.bool false, .slice none 0 0, .bool false, .slice none 0 0] 68))
    have KT := KT.alloc (.cells #[.bool false, .slice none 0 0, .bool false, .slice none 0 0] 68)
    obtain ⟨p10, hpp10⟩ : ∃ p, p = Wa4.heap.size := ⟨_, rfl⟩
    rw [← hpp10] at zp10 hgp10 dp10p9 dp9p10 ⊢
    generalize Wa4.alloc (.cells #[.bool false, .slice none 0 0, .bool false, .slice none 0 0] 68) = Wa5 at zp10 zp9  KT hHeld ⊢
    clear hpp10
    refine wpAnyH_ready (rs := [1]) (by kernel_rfl) (by simp) ?_
    refine AllReadyH.cons rfl (fun K hK => ?_) AllReadyH.nil
    go_simp
    refine (FTake_any m nA a1 a2 k1 c1 k2 c2 an ad _ (HA.out.1.kept (HV.out _ (HK1.out.trans KT)).2.2.2) (HA.out.2.1.kept (HV.out _ (HK1.out.trans KT)).2.2.2) (by have := HQ.out; omega) (by have := HQ.out; omega)).mono ?_
    rintro e w3 ⟨hk3, v3, rfl, s3, a3, k3', c3', t3, a4, k4', c4', rfl, n3, n4, l3, l4⟩
    have HL3 : Hid (k3' ≤ 144 ∧ k4' ≤ 144) := ⟨by have := HQ.out; omega, by have := HQ.out; omega⟩
    clear l3 l4
    refine hK.out _ _ (sS.out _ (KT.trans hk3)) (fun hHeld => ?_)
    clear hK K
    have zp9 := zp9.kept hk3
    have zp10 := zp10.kept hk3
    have KT := KT.trans hk3
    refine wpAnyH_ready (rs := [3]) (by kernel_rfl) (by simp) ?_
    refine AllReadyH.cons rfl (fun K hK => ?_) AllReadyH.nil
    go_simp
    refine (FTake_any n nB b1 b2 k3 c3 k4 c4 bn bd _ (HA.out.2.2.1.kept (HV.out _ (HK1.out.trans KT)).2.2.2) (HA.out.2.2.2.1.kept (HV.out _ (HK1.out.trans KT)).2.2.2) (by have := HQ.out; omega) (by have := HQ.out; omega)).mono ?_
    rintro e w5 ⟨hk5, v5, rfl, s5, a5, k5', c5', t5, a6, k6', c6', rfl, n5, n6, l5, l6⟩
    have HL5 : Hid (k5' ≤ 144 ∧ k6' ≤ 144) := ⟨by have := HQ.out; omega, by have := HQ.out; omega⟩
    clear l5 l6
    refine hK.out _ _ (sS.out _ (KT.trans hk5)) (fun hHeld => ?_)
    clear hK K
    have zp9 := zp9.kept hk5
    have zp10 := zp10.kept hk5
    have n3 := D.NIs.kept n3 hk5
    have n4 := D.NIs.kept n4 hk5
    have KT := KT.trans hk5
    obtain ⟨cp90, cp91, cp92, cp93, gp90, gp91, gp92, gp93⟩ := zp9.all8
    refine wpAnyH_ready (rs := [6]) (by kernel_rfl) (by simp) ?_
    refine AllReadyH.cons rfl (fun K hK => ?_) AllReadyH.nil
    go_simp
    refine hK.out _ _ (sS.out _ (Kept.put4 KT hgp9 _ _ _ _)) (fun hHeld => ?_)
    clear hK K
    have ep9 := zp9.put4 (.bool s3) (.slice a3 k3' c3') (.bool t3) (.slice a4 k4' c4')
    have n3 := nset4 (y0 := .bool s3) (y1 := .slice a3 k3' c3') (y2 := .bool t3) (y3 := .slice a4 k4' c4') n3 zp9
    have n4 := nset4 (y0 := .bool s3) (y1 := .slice a3 k3' c3') (y2 := .bool t3) (y3 := .slice a4 k4' c4') n4 zp9
    have n5 := nset4 (y0 := .bool s3) (y1 := .slice a3 k3' c3') (y2 := .bool t3) (y3 := .slice a4 k4' c4') n5 zp9
    have n6 := nset4 (y0 := .bool s3) (y1 := .slice a3 k3' c3') (y2 := .bool t3) (y3 := .slice a4 k4' c4') n6 zp9
    have zp10 := zp10.farp dp10p9 (.bool s3) (.slice a3 k3' c3') (.bool t3) (.slice a4 k4' c4')
    have KT := Kept.put4 KT hgp9 (.bool s3) (.slice a3 k3' c3') (.bool t3) (.slice a4 k4' c4')
    clear cp90 cp91 cp92 cp93 gp90 gp91 gp92 gp93 zp9
    unfold put4 at n3 n4 n5 n6 KT ep9 zp10
    generalize (((w5.setCell ⟨p9, 0, none⟩ (.bool s3)).setCell ⟨p9, 1, none⟩ (.slice a3 k3' c3')).setCell ⟨p9, 2, none⟩ (.bool t3)).setCell ⟨p9, 3, none⟩ (.slice a4 k4' c4') = Ws0 at ep9 zp10 n3 n4 n5 n6 KT hHeld ⊢
    obtain ⟨cp100, cp101, cp102, cp103, gp100, gp101, gp102, gp103⟩ := zp10.all8
    refine wpAnyH_ready (rs := [7]) (by kernel_rfl) (by simp) ?_
    refine AllReadyH.cons rfl (fun K hK => ?_) AllReadyH.nil
    go_simp
    refine hK.out _ _ (sS.out _ (Kept.put4 KT hgp10 _ _ _ _)) (fun hHeld => ?_)
    clear hK K
    have ep10 := zp10.put4 (.bool s5) (.slice a5 k5' c5') (.bool t5) (.slice a6 k6' c6')
    have ep9 := ep9.farp dp9p10 (.bool s5) (.slice a5 k5' c5') (.bool t5) (.slice a6 k6' c6')
    have n3 := nset4 (y0 := .bool s5) (y1 := .slice a5 k5' c5') (y2 := .bool t5) (y3 := .slice a6 k6' c6') n3 zp10
    have n4 := nset4 (y0 := .bool s5) (y1 := .slice a5 k5' c5') (y2 := .bool t5) (y3 := .slice a6 k6' c6') n4 zp10
    have n5 := nset4 (y0 := .bool s5) (y1 := .slice a5 k5' c5') (y2 := .bool t5) (y3 := .slice a6 k6' c6') n5 zp10
    have n6 := nset4 (y0 := .bool s5) (y1 := .slice a5 k5' c5') (y2 := .bool t5) (y3 := .slice a6 k6' c6') n6 zp10
    have KT := Kept.put4 KT hgp10 (.bool s5) (.slice a5 k5' c5') (.bool t5) (.slice a6 k6' c6')
    clear cp100 cp101 cp102 cp103 gp100 gp101 gp102 gp103 zp10
    unfold put4 at n3 n4 n5 n6 KT ep9 ep10
    generalize (((Ws0.setCell ⟨p10, 0, none⟩ (.bool s5)).setCell ⟨p10, 1, none⟩ (.slice a5 k5' c5')).setCell ⟨p10, 2, none⟩ (.bool t5)).setCell ⟨p10, 3, none⟩ (.slice a6 k6' c6') = Ws1 at ep9 ep10  n3 n4 n5 n6 KT hHeld ⊢
    refine wpAnyH_done (by kernel_rfl) ?_ _
    go_wp2_with fail
    go_meet
    case rel => exact ⟨p9, p10, s3, a3, k3', c3', t3, a4, k4', c4', s5, a5, k5', c5', t5, a6, k6', c6', rfl, rfl, KT, ep9, ep10, n3, n4, n5, n6, HL3.out, HL5.out⟩
   refine AllReadyH.cons rfl (fun K hK => ?_) AllReadyH.nil
   go_simp
   refine hK.out _ _ (sS.out _ (KT.alloc _)) (fun hHeld => ?_)
   clear hK K
   have zp10 := FRow.alloc Wd (.bool false) (.slice none 0 0) (.bool false) (.slice none 0 0)
   have hgp10 : w1.heap.size ≤ Wd.heap.size := KT.size
   have KT := KT.alloc (.cells #[.bool false, .slice none 0 0, .bool false, .slice none 0 0] 68)
   obtain ⟨p10, hpp10⟩ : ∃ p, p = Wd.heap.size := ⟨_, rfl⟩
   rw [← hpp10] at zp10 hgp10  ⊢
   generalize Wd.alloc (.cells #[.bool false, .slice none 0 0, .bool false, .slice none 0 0] 68) = Wa5 at zp10   KT hHeld ⊢
   clear hpp10
   refine wpAnyH_ready (rs := [1, 4]) (by kernel_rfl) (by simp) ?_
   refine AllReadyH.cons rfl (fun K hK => ?_) ?_
   ·
    go_simp
    refine (FTake_any m nA a1 a2 k1 c1 k2 c2 an ad _ (HA.out.1.kept (HV.out _ (HK1.out.trans KT)).2.2.2) (HA.out.2.1.kept (HV.out _ (HK1.out.trans KT)).2.2.2) (by have := HQ.out; omega) (by have := HQ.out; omega)).mono ?_
    rintro e w3 ⟨hk3, v3, rfl, s3, a3, k3', c3', t3, a4, k4', c4', rfl, n3, n4, l3, l4⟩
    have HL3 : Hid (k3' ≤ 144 ∧ k4' ≤ 144) := ⟨by have := HQ.out; omega, by have := HQ.out; omega⟩
    clear l3 l4
    refine hK.out _ _ (sS.out _ (KT.trans hk3)) (fun hHeld => ?_)
    clear hK K
    have zp10 := zp10.kept hk3
    have KT := KT.trans hk3
    refine wpAnyH_ready (rs := [3, 4]) (by kernel_rfl) (by simp) ?_
    refine AllReadyH.cons rfl (fun K hK => ?_) ?_
    ·
     go_simp
     refine (FTake_any n nB b1 b2 k3 c3 k4 c4 bn bd _ (HA.out.2.2.1.kept (HV.out _ (HK1.out.trans KT)).2.2.2) (HA.out.2.2.2.1.kept (HV.out _ (HK1.out.trans KT)).2.2.2) (by have := HQ.out; omega) (by have := HQ.out; omega)).mono ?_
     rintro e w5 ⟨hk5, v5, rfl, s5, a5, k5', c5', t5, a6, k6', c6', rfl, n5, n6, l5, l6⟩
     have HL5 : Hid (k5' ≤ 144 ∧ k6' ≤ 144) := ⟨by have := HQ.out; omega, by have := HQ.out; omega⟩
     clear l5 l6
     refine hK.out _ _ (sS.out _ (KT.trans hk5)) (fun hHeld => ?_)
     clear hK K
     have zp10 := zp10.kept hk5
     have n3 := D.NIs.kept n3 hk5
     have n4 := D.NIs.kept n4 hk5
     have KT := KT.trans hk5
     refine wpAnyH_ready (rs := [4]) (by kernel_rfl) (by simp) ?_
     refine AllReadyH.cons rfl (fun K hK => ?_) AllReadyH.nil
     go_simp
     refine hK.out _ _ (sS.out _ (KT.alloc _)) (fun hHeld => ?_)
     clear hK K
     have zp9 := FRow.alloc w5 (.bool false) (.slice none 0 0) (.bool false) (.slice none 0 0)
     have hgp9 : w1.heap.size ≤ w5.heap.size := KT.size
     have dp9p10 : ¬ (w5.heap.size = p10) := by have := zp10.lt; omega
     have dp10p9 : ¬ (p10 = w5.heap.size) := by have := zp10.lt; omega
     have zp10 := zp10.kept ((Kept.refl w5).alloc (.cells #[.bool false, .slice none 0 0, .bool false, .slice none 0 0] 68))
     have n3 := D.NIs.kept n3 ((Kept.refl w5).alloc (.cells #[.bool false, .slice none 0 0, .bool false, .slice none 0 0] 68))
     have n4 := D.NIs.kept n4 ((Kept.refl w5).alloc (.cells #[.bool false, .slice none 0 0, .bool false, .slice none 0 0] 68))
     have n5 := D.NIs.kept n5 ((Kept.refl w5).alloc (.cells #[.bool false, .slice none 0 0, .bool false, .slice none 0 0] 68))
     have n6 := D.NIs.kept n6 ((Kept.refl w5).alloc (.cells #[.bool false, .slice none 0 0, .bool false, .slice none 0 0] 68))
     have KT := KT.alloc (.cells #[.bool false, .slice none 0 0, .bool false, .slice none 0 0] 68)
     obtain ⟨p9, hpp9⟩ : ∃ p, p = w5.heap.size := ⟨_, rfl⟩
     rw [← hpp9] at zp9 hgp9 dp9p10 dp10p9 ⊢
     generalize w5.alloc (.cells #[.bool false, .slice none 0 0, .bool false, .slice none 0 0] 68) = Wa4 at zp9 zp10 n3 n4 n5 n6 KT hHeld ⊢
     clear hpp9
     obtain ⟨cp90, cp91, cp92, cp93, gp90, gp91, gp92, gp93⟩ := zp9.all8
     refine wpAnyH_ready (rs := [6]) (by kernel_rfl) (by simp) ?_
     refine AllReadyH.cons rfl (fun K hK => ?_) AllReadyH.nil
     go_simp
     refine hK.out _ _ (sS.out _ (Kept.put4 KT hgp9 _ _ _ _)) (fun hHeld => ?_)
     clear hK K
     have ep9 := zp9.put4 (.bool s3) (.slice a3 k3' c3') (.bool t3) (.slice a4 k4' c4')
     have n3 := nset4 (y0 := .bool s3) (y1 := .slice a3 k3' c3') (y2 := .bool t3) (y3 := .slice a4 k4' c4') n3 zp9
     have n4 := nset4 (y0 := .bool s3) (y1 := .slice a3 k3' c3') (y2 := .bool t3) (y3 := .slice a4 k4' c4') n4 zp9
     have n5 := nset4 (y0 := .bool s3) (y1 := .slice a3 k3' c3') (y2 := .bool t3) (y3 := .slice a4 k4' c4') n5 zp9
     have n6 := nset4 (y0 := .bool s3) (y1 := .slice a3 k3' c3') (y2 := .bool t3) (y3 := .slice a4 k4' c4') n6 zp9
     have zp10 := zp10.farp dp10p9 (.bool s3) (.slice a3 k3' c3') (.bool t3) (.slice a4 k4' c4')
     have KT := Kept.put4 KT hgp9 (.bool s3) (.slice a3 k3' c3') (.bool t3) (.slice a4 k4' c4')
     clear cp90 cp91 cp92 cp93 gp90 gp91 gp92 gp93 zp9
     unfold put4 at n3 n4 n5 n6 KT ep9 zp10
     generalize (((Wa4.setCell ⟨p9, 0, none⟩ (.bool s3)).setCell ⟨p9, 1, none⟩ (.slice a3 k3' c3')).setCell ⟨p9, 2, none⟩ (.bool t3)).setCell ⟨p9, 3, none⟩ (.slice a4 k4' c4') = Ws0 at ep9 zp10 n3 n4 n5 n6 KT hHeld ⊢
     obtain ⟨cp100, cp101, cp102, cp103, gp100, gp101, gp102, gp103⟩ := zp10.all8
     refine wpAnyH_ready (rs := [7]) (by kernel_rfl) (by simp) ?_
     refine AllReadyH.cons rfl (fun K hK => ?_) AllReadyH.nil
     go_simp
     refine hK.out _ _ (sS.out _ (Kept.put4 KT hgp10 _ _ _ _)) (fun hHeld => ?_)
     clear hK K
     have ep10 := zp10.put4 (.bool s5) (.slice a5 k5' c5') (.bool t5) (.slice a6 k6' c6')
     have ep9 := ep9.farp dp9p10 (.bool s5) (.slice a5 k5' c5') (.bool t5) (.slice a6 k6' c6')
     have n3 := nset4 (y0 := .bool s5) (y1 := .slice a5 k5' c5') (y2 := .bool t5) (y3 := .slice a6 k6' c6') n3 zp10
     have n4 := nset4 (y0 := .bool s5) (y1 := .slice a5 k5' c5') (y2 := .bool t5) (y3 := .slice a6 k6' c6') n4 zp10
     have n5 := nset4 (y0 := .bool s5) (y1 := .slice a5 k5' c5') (y2 := .bool t5) (y3 := .slice a6 k6' c6') n5 zp10
     have n6 := nset4 (y0 := .bool s5) (y1 := .slice a5 k5' c5') (y2 := .bool t5) (y3 := .slice a6 k6' c6') n6 zp10
     have KT := Kept.put4 KT hgp10 (.bool s5) (.slice a5 k5' c5') (.bool t5) (.slice a6 k6' c6')
     clear cp100 cp101 cp102 cp103 gp100 gp101 gp102 gp103 zp10
     unfold put4 at n3 n4 n5 n6 KT ep9 ep10
     generalize (((Ws0.setCell ⟨p10, 0, none⟩ (.bool s5)).setCell ⟨p10, 1, none⟩ (.slice a5 k5' c5')).setCell ⟨p10, 2, none⟩ (.bool t5)).setCell ⟨p10, 3, none⟩ (.slice a6 k6' c6') = Ws1 at ep9 ep10  n3 n4 n5 n6 KT hHeld ⊢
     refine wpAnyH_done (by kernel_rfl) ?_ _
     go_wp2_with fail
     go_meet
     case rel => exact ⟨p9, p10, s3, a3, k3', c3', t3, a4, k4', c4', s5, a5, k5', c5', t5, a6, k6', c6', rfl, rfl, KT, ep9, ep10, n3, n4, n5, n6, HL3.out, HL5.out⟩
    refine AllReadyH.cons rfl (fun K hK => ?_) AllReadyH.nil
    go_simp
    refine hK.out _ _ (sS.out _ (KT.alloc _)) (fun hHeld => ?_)
    clear hK K
    have zp9 := FRow.alloc w3 (.bool false) (.slice none 0 0) (.bool false) (.slice none 0 0)
    have hgp9 : w1.heap.size ≤ w3.heap.size := KT.size
    have dp9p10 : ¬ (w3.heap.size = p10) := by have := zp10.lt; omega
    have dp10p9 : ¬ (p10 = w3.heap.size) := by have := zp10.lt; omega
    have zp10 := zp10.kept ((Kept.refl w3).alloc (.cells #[.bool false, .slice none 0 0, .bool false, .slice none 0 0] 68))
    have n3 := D.NIs.kept n3 ((Kept.refl w3).alloc (.cells #[.bool false, .slice none 0 0, .bool false, .slice none 0 0] 68))
    have n4 := D.NIs.kept n4 ((Kept.refl w3).alloc (.cells #[.bool false, .slice none 0 0, .bool false, .slice none 0 0] 68))
    have KT := KT.alloc (.cells #[.bool false, .slice none 0 0, .bool false, .slice none 0 0] 68)
    obtain ⟨p9, hpp9⟩ : ∃ p, p = w3.heap.size := ⟨_, rfl⟩
    rw [← hpp9] at zp9 hgp9 dp9p10 dp10p9 ⊢
    generalize w3.alloc (.cells #[.bool false, .slice none 0 0, .bool false, .slice none 0 0] 68) = Wa4 at zp9 zp10 n3 n4 KT hHeld ⊢
    clear hpp9
    refine wpAnyH_ready (rs := [3]) (by kernel_rfl) (by simp) ?_
    refine AllReadyH.cons rfl (fun K hK => ?_) AllReadyH.nil
    go_simp
    refine (FTake_any n nB b1 b2 k3 c3 k4 c4 bn bd _ (HA.out.2.2.1.kept (HV.out _ (HK1.out.trans KT)).2.2.2) (HA.out.2.2.2.1.kept (HV.out _ (HK1.out.trans KT)).2.2.2) (by have := HQ.out; omega) (by have := HQ.out; omega)).mono ?_
    rintro e w5 ⟨hk5, v5, rfl, s5, a5, k5', c5', t5, a6, k6', c6', rfl, n5, n6, l5, l6⟩
    have HL5 : Hid (k5' ≤ 144 ∧ k6' ≤ 144) := ⟨by have := HQ.out; omega, by have := HQ.out; omega⟩
    clear l5 l6
    refine hK.out _ _ (sS.out _ (KT.trans hk5)) (fun hHeld => ?_)
    clear hK K
    have zp10 := zp10.kept hk5
    have zp9 := zp9.kept hk5
    have n3 := D.NIs.kept n3 hk5
    have n4 := D.NIs.kept n4 hk5
    have KT := KT.trans hk5
    obtain ⟨cp90, cp91, cp92, cp93, gp90, gp91, gp92, gp93⟩ := zp9.all8
    refine wpAnyH_ready (rs := [6]) (by kernel_rfl) (by simp) ?_
    refine AllReadyH.cons rfl (fun K hK => ?_) AllReadyH.nil
    go_simp
    refine hK.out _ _ (sS.out _ (Kept.put4 KT hgp9 _ _ _ _)) (fun hHeld => ?_)
    clear hK K
    have ep9 := zp9.put4 (.bool s3) (.slice a3 k3' c3') (.bool t3) (.slice a4 k4' c4')
    have n3 := nset4 (y0 := .bool s3) (y1 := .slice a3 k3' c3') (y2 := .bool t3) (y3 := .slice a4 k4' c4') n3 zp9
    have n4 := nset4 (y0 := .bool s3) (y1 := .slice a3 k3' c3') (y2 := .bool t3) (y3 := .slice a4 k4' c4') n4 zp9
    have n5 := nset4 (y0 := .bool s3) (y1 := .slice a3 k3' c3') (y2 := .bool t3) (y3 := .slice a4 k4' c4') n5 zp9
    have n6 := nset4 (y0 := .bool s3) (y1 := .slice a3 k3' c3') (y2 := .bool t3) (y3 := .slice a4 k4' c4') n6 zp9
    have zp10 := zp10.farp dp10p9 (.bool s3) (.slice a3 k3' c3') (.bool t3) (.slice a4 k4' c4')
    have KT := Kept.put4 KT hgp9 (.bool s3) (.slice a3 k3' c3') (.bool t3) (.slice a4 k4' c4')
    clear cp90 cp91 cp92 cp93 gp90 gp91 gp92 gp93 zp9
    unfold put4 at n3 n4 n5 n6 KT ep9 zp10
    generalize (((w5.setCell ⟨p9, 0, none⟩ (.bool s3)).setCell ⟨p9, 1, none⟩ (.slice a3 k3' c3')).setCell ⟨p9, 2, none⟩ (.bool t3)).setCell ⟨p9, 3, none⟩ (.slice a4 k4' c4') = Ws0 at ep9 zp10 n3 n4 n5 n6 KT hHeld ⊢
    obtain ⟨cp100, cp101, cp102, cp103, gp100, gp101, gp102, gp103⟩ := zp10.all8
    refine wpAnyH_ready (rs := [7]) (by kernel_rfl) (by simp) ?_
    refine AllReadyH.cons rfl (fun K hK => ?_) AllReadyH.nil
    go_simp
    refine hK.out _ _ (sS.out _ (Kept.put4 KT hgp10 _ _ _ _)) (fun hHeld => ?_)
    clear hK K
    have ep10 := zp10.put4 (.bool s5) (.slice a5 k5' c5') (.bool t5) (.slice a6 k6' c6')
    have ep9 := ep9.farp dp9p10 (.bool s5) (.slice a5 k5' c5') (.bool t5) (.slice a6 k6' c6')
    have n3 := nset4 (y0 := .bool s5) (y1 := .slice a5 k5' c5') (y2 := .bool t5) (y3 := .slice a6 k6' c6') n3 zp10
    have n4 := nset4 (y0 := .bool s5) (y1 := .slice a5 k5' c5') (y2 := .bool t5) (y3 := .slice a6 k6' c6') n4 zp10
    have n5 := nset4 (y0 := .bool s5) (y1 := .slice a5 k5' c5') (y2 := .bool t5) (y3 := .slice a6 k6' c6') n5 zp10
    have n6 := nset4 (y0 := .bool s5) (y1 := .slice a5 k5' c5') (y2 := .bool t5) (y3 := .slice a6 k6' c6') n6 zp10
    have KT := Kept.put4 KT hgp10 (.bool s5) (.slice a5 k5' c5') (.bool t5) (.slice a6 k6' c6')
    clear cp100 cp101 cp102 cp103 gp100 gp101 gp102 gp103 zp10
    unfold put4 at n3 n4 n5 n6 KT ep9 ep10
    generalize (((Ws0.setCell ⟨p10, 0, none⟩ (.bool s5)).setCell ⟨p10, 1, none⟩ (.slice a5 k5' c5')).setCell ⟨p10, 2, none⟩ (.bool t5)).setCell ⟨p10, 3, none⟩ (.slice a6 k6' c6') = Ws1 at ep9 ep10  n3 n4 n5 n6 KT hHeld ⊢
    refine wpAnyH_done (by kernel_rfl) ?_ _
    go_wp2_with fail
    go_meet
    case rel => exact ⟨p9, p10, s3, a3, k3', c3', t3, a4, k4', c4', s5, a5, k5', c5', t5, a6, k6', c6', rfl, rfl, KT, ep9, ep10, n3, n4, n5, n6, HL3.out, HL5.out⟩
   refine AllReadyH.cons rfl (fun K hK => ?_) AllReadyH.nil
   go_simp
   refine hK.out _ _ (sS.out _ (KT.alloc _)) (fun hHeld => ?_)
   clear hK K
   have zp9 := FRow.alloc Wa5 (.bool false) (.slice none 0 0) (.bool false) (.slice none 0 0)
   have hgp9 : w1.heap.size ≤ Wa5.heap.size := KT.size
   have dp9p10 : ¬ (Wa5.heap.size = p10) := by have := zp10.lt; omega
   have dp10p9 : ¬ (p10 = Wa5.heap.size) := by have := zp10.lt; omega
   have zp10 := zp10.kept ((Kept.refl Wa5).alloc (.cells #[.bool false, .slice none 0 0, .bool false, .slice none 0 0] 68))
   have KT := KT.alloc (.cells #[.bool false, .slice none 0 0, .bool false, .slice none 0 0] 68)
   obtain ⟨p9, hpp9⟩ : ∃ p, p = Wa5.heap.size := ⟨_, rfl⟩
   rw [← hpp9] at zp9 hgp9 dp9p10 dp10p9 ⊢
   generalize Wa5.alloc (.cells #[.bool false, .slice none 0 0, .bool false, .slice none 0 0] 68) = Wa4 at zp9 zp10  KT hHeld ⊢
   clear hpp9
   refine wpAnyH_ready (rs := [1]) (by kernel_rfl) (by simp) ?_
   refine AllReadyH.cons rfl (fun K hK => ?_) AllReadyH.nil
   go_simp
   refine (FTake_any m nA a1 a2 k1 c1 k2 c2 an ad _ (HA.out.1.kept (HV.out _ (HK1.out.trans KT)).2.2.2) (HA.out.2.1.kept (HV.out _ (HK1.out.trans KT)).2.2.2) (by have := HQ.out; omega) (by have := HQ.out; omega)).mono ?_
   rintro e w3 ⟨hk3, v3, rfl, s3, a3, k3', c3', t3, a4, k4', c4', rfl, n3, n4, l3, l4⟩
   have HL3 : Hid (k3' ≤ 144 ∧ k4' ≤ 144) := ⟨by have := HQ.out; omega, by have := HQ.out; omega⟩
   clear l3 l4
   refine hK.out _ _ (sS.out _ (KT.trans hk3)) (fun hHeld => ?_)
   clear hK K
   have zp10 := zp10.kept hk3
   have zp9 := zp9.kept hk3
   have KT := KT.trans hk3
   refine wpAnyH_ready (rs := [3]) (by kernel_rfl) (by simp) ?_
   refine AllReadyH.cons rfl (fun K hK => ?_) AllReadyH.nil
   go_simp
   refine (FTake_any n nB b1 b2 k3 c3 k4 c4 bn bd _ (HA.out.2.2.1.kept (HV.out _ (HK1.out.trans KT)).2.2.2) (HA.out.2.2.2.1.kept (HV.out _ (HK1.out.trans KT)).2.2.2) (by have := HQ.out; omega) (by have := HQ.out; omega)).mono ?_
   rintro e w5 ⟨hk5, v5, rfl, s5, a5, k5', c5', t5, a6, k6', c6', rfl, n5, n6, l5, l6⟩
   have HL5 : Hid (k5' ≤ 144 ∧ k6' ≤ 144) := ⟨by have := HQ.out; omega, by have := HQ.out; omega⟩
   clear l5 l6
   refine hK.out _ _ (sS.out _ (KT.trans hk5)) (fun hHeld => ?_)
   clear hK K
   have zp10 := zp10.kept hk5
   have zp9 := zp9.kept hk5
   have n3 := D.NIs.kept n3 hk5
   have n4 := D.NIs.kept n4 hk5
   have KT := KT.trans hk5
   obtain ⟨cp90, cp91, cp92, cp93, gp90, gp91, gp92, gp93⟩ := zp9.all8
   refine wpAnyH_ready (rs := [6]) (by kernel_rfl) (by simp) ?_
   refine AllReadyH.cons rfl (fun K hK => ?_) AllReadyH.nil
   go_simp
   refine hK.out _ _ (sS.out _ (Kept.put4 KT hgp9 _ _ _ _)) (fun hHeld => ?_)
   clear hK K
   have ep9 := zp9.put4 (.bool s3) (.slice a3 k3' c3') (.bool t3) (.slice a4 k4' c4')
   have n3 := nset4 (y0 := .bool s3) (y1 := .slice a3 k3' c3') (y2 := .bool t3) (y3 := .slice a4 k4' c4') n3 zp9
   have n4 := nset4 (y0 := .bool s3) (y1 := .slice a3 k3' c3') (y2 := .bool t3) (y3 := .slice a4 k4' c4') n4 zp9
   have n5 := nset4 (y0 := .bool s3) (y1 := .slice a3 k3' c3') (y2 := .bool t3) (y3 := .slice a4 k4' c4') n5 zp9
   have n6 := nset4 (y0 := .bool s3) (y1 := .slice a3 k3' c3') (y2 := .bool t3) (y3 := .slice a4 k4' c4') n6 zp9
   have zp10 := zp10.farp dp10p9 (.bool s3) (.slice a3 k3' c3') (.bool t3) (.slice a4 k4' c4')
   have KT := Kept.put4 KT hgp9 (.bool s3) (.slice a3 k3' c3') (.bool t3) (.slice a4 k4' c4')
   clear cp90 cp91 cp92 cp93 gp90 gp91 gp92 gp93 zp9
   unfold put4 at n3 n4 n5 n6 KT ep9 zp10
   generalize (((w5.setCell ⟨p9, 0, none⟩ (.bool s3)).setCell ⟨p9, 1, none⟩ (.slice a3 k3' c3')).setCell ⟨p9, 2, none⟩ (.bool t3)).setCell ⟨p9, 3, none⟩ (.slice a4 k4' c4') = Ws0 at ep9 zp10 n3 n4 n5 n6 KT hHeld ⊢
   obtain ⟨cp100, cp101, cp102, cp103, gp100, gp101, gp102, gp103⟩ := zp10.all8
   refine wpAnyH_ready (rs := [7]) (by kernel_rfl) (by simp) ?_
   refine AllReadyH.cons rfl (fun K hK => ?_) AllReadyH.nil
   go_simp
   refine hK.out _ _ (sS.out _ (Kept.put4 KT hgp10 _ _ _ _)) (fun hHeld => ?_)
   clear hK K
   have ep10 := zp10.put4 (.bool s5) (.slice a5 k5' c5') (.bool t5) (.slice a6 k6' c6')
   have ep9 := ep9.farp dp9p10 (.bool s5) (.slice a5 k5' c5') (.bool t5) (.slice a6 k6' c6')
   have n3 := nset4 (y0 := .bool s5) (y1 := .slice a5 k5' c5') (y2 := .bool t5) (y3 := .slice a6 k6' c6') n3 zp10
   have n4 := nset4 (y0 := .bool s5) (y1 := .slice a5 k5' c5') (y2 := .bool t5) (y3 := .slice a6 k6' c6') n4 zp10
   have n5 := nset4 (y0 := .bool s5) (y1 := .slice a5 k5' c5') (y2 := .bool t5) (y3 := .slice a6 k6' c6') n5 zp10
   have n6 := nset4 (y0 := .bool s5) (y1 := .slice a5 k5' c5') (y2 := .bool t5) (y3 := .slice a6 k6' c6') n6 zp10
   have KT := Kept.put4 KT hgp10 (.bool s5) (.slice a5 k5' c5') (.bool t5) (.slice a6 k6' c6')
   clear cp100 cp101 cp102 cp103 gp100 gp101 gp102 gp103 zp10
   unfold put4 at n3 n4 n5 n6 KT ep9 ep10
   generalize (((Ws0.setCell ⟨p10, 0, none⟩ (.bool s5)).setCell ⟨p10, 1, none⟩ (.slice a5 k5' c5')).setCell ⟨p10, 2, none⟩ (.bool t5)).setCell ⟨p10, 3, none⟩ (.slice a6 k6' c6') = Ws1 at ep9 ep10  n3 n4 n5 n6 KT hHeld ⊢
   refine wpAnyH_done (by kernel_rfl) ?_ _
   go_wp2_with fail
   go_meet
   case rel => exact ⟨p9, p10, s3, a3, k3', c3', t3, a4, k4', c4', s5, a5, k5', c5', t5, a6, k6', c6', rfl, rfl, KT, ep9, ep10, n3, n4, n5, n6, HL3.out, HL5.out⟩
  case rest =>
   obtain ⟨p9, p10, s3, a3, k3', c3', t3, a4, k4', c4', s5, a5, k5', c5', t5, a6, k6', c6', rfl, rfl, HCC⟩ := hcut
   obtain ⟨hkc, hf9, hf10, n3, n4, n5, n6, hb1, hb2⟩ := HCC.out
   have HKc := hid' (HK1.out.trans hkc)
   have HF9 := hid' hf9
   have HF10 := hid' hf10
   have HN := hid' (And.intro n3 (And.intro n4 (And.intro n5 n6)))
   have HB := hid' (And.intro hb1 hb2)
   have HLL : Hid ((k3' ≤ 300 ∧ k4' ≤ 300 ∧ k5' ≤ 300 ∧ k6' ≤ 300) ∧ M.int nA ad ≠ 0 ∧ M.int nB bd ≠ 0) := ⟨by omega, by have := HR.out.1.pos; omega, by have := HR.out.2.pos; omega⟩
   clear HCC hkc hf9 hf10 n3 n4 n5 n6 hb1 hb2
   have hop := HOP.out
   clear HOP
   rcases hop with rfl | rfl | rfl | rfl
   ·
    have q0 := HF9.out.c0
    have q1 := HF9.out.c1
    have q2 := HF9.out.c2
    have q3 := HF9.out.c3
    have r0 := HF10.out.c0
    have r1 := HF10.out.c1
    have r2 := HF10.out.c2
    have r3 := HF10.out.c3
    go_wp2_with fail
    refine (FPlus_any s3 t3 s5 t5 a3 a4 a5 a6 k3' c3' k4' c4' k5' c5' k6' c6' _ _ _ _ _ HN.out.1 HN.out.2.1 HN.out.2.2.1 HN.out.2.2.2 HLL.out.1 (Int.mul_ne_zero HLL.out.2.1 HLL.out.2.2)).mono ?_
    rintro e w7 ⟨hk7, v7, N7, Q7, rfl, ⟨s7, a7, k7, c7, t7, a8, k8, c8, rfl, n7, n8, l7, l8⟩, hL7⟩
    have HK7 := hid' (HKc.out.trans hk7)
    have H7 := hid' (And.intro n7 (And.intro n8 (And.intro l7 (And.intro l8 hL7))))
    clear hk7 n7 n8 l7 l8 hL7 q0 q1 q2 q3 r0 r1 r2 r3
    go_wp2_with fail
    refine (told_any s7 t7 a7 a8 k7 c7 k8 c8 N7 Q7 _ H7.out.1 H7.out.2.1 (by have h1 := H7.out.2.2.1; have h2 := HLL.out; omega) (by have h1 := H7.out.2.2.2.1; have h2 := HLL.out; omega)).mono ?_
    rintro e w8 ⟨hk8, hT⟩
    obtain ⟨s9, a9, k9, c9, t9, a0, k0, c0, ec, rfl, hT'⟩ := hT.split
    have HK8 := hid' (HK7.out.trans hk8)
    have HT := hid' (hT'.mono (HV.out _ HK7.out).2.2.2.size)
    have z := (HV.out _ HK8.out).2.2.1
    have HZ := hid' z
    have e0 := z.c0
    have e1 := z.c1
    have e2 := z.c2
    have e3 := z.c3
    have y0 := z.fz 0
    have y1 := z.fz 1
    have y2 := z.fz 2
    have y3 := z.fz 3
    clear hk8 hT hT' z
    go_wp2
    exact bodyPost_ret (v := .tuple #[.agg #[.bool s9, .slice a9 k9 c9, .bool t9, .slice a0 k0 c0], .int .i64 ec]) (by simp [results, Tryz.results13, go_sem, e0, e1, e2, e3]) rfl ⟨Kept.put4 (HV.out _ HK8.out).2.2.2 HP.out _ _ _ _, 0, HC.out, .inr ⟨rfl, .plus ⟨N7, Q7, H7.out.2.2.2.2, HT.out.put4 HZ.out _ _ _ _⟩⟩⟩
   ·
    have q0 := HF9.out.c0
    have q1 := HF9.out.c1
    have q2 := HF9.out.c2
    have q3 := HF9.out.c3
    have r0 := HF10.out.c0
    have r1 := HF10.out.c1
    have r2 := HF10.out.c2
    have r3 := HF10.out.c3
    go_wp2_with fail
    refine (FLess_any s3 t3 s5 t5 a3 a4 a5 a6 k3' c3' k4' c4' k5' c5' k6' c6' _ _ _ _ _ HN.out.1 HN.out.2.1 HN.out.2.2.1 HN.out.2.2.2 HLL.out.1 (Int.mul_ne_zero HLL.out.2.1 HLL.out.2.2)).mono ?_
    rintro e w7 ⟨hk7, v7, N7, Q7, rfl, ⟨s7, a7, k7, c7, t7, a8, k8, c8, rfl, n7, n8, l7, l8⟩, hL7⟩
    have HK7 := hid' (HKc.out.trans hk7)
    have H7 := hid' (And.intro n7 (And.intro n8 (And.intro l7 (And.intro l8 hL7))))
    clear hk7 n7 n8 l7 l8 hL7 q0 q1 q2 q3 r0 r1 r2 r3
    go_wp2_with fail
    refine (told_any s7 t7 a7 a8 k7 c7 k8 c8 N7 Q7 _ H7.out.1 H7.out.2.1 (by have h1 := H7.out.2.2.1; have h2 := HLL.out; omega) (by have h1 := H7.out.2.2.2.1; have h2 := HLL.out; omega)).mono ?_
    rintro e w8 ⟨hk8, hT⟩
    obtain ⟨s9, a9, k9, c9, t9, a0, k0, c0, ec, rfl, hT'⟩ := hT.split
    have HK8 := hid' (HK7.out.trans hk8)
    have HT := hid' (hT'.mono (HV.out _ HK7.out).2.2.2.size)
    have z := (HV.out _ HK8.out).2.2.1
    have HZ := hid' z
    have e0 := z.c0
    have e1 := z.c1
    have e2 := z.c2
    have e3 := z.c3
    have y0 := z.fz 0
    have y1 := z.fz 1
    have y2 := z.fz 2
    have y3 := z.fz 3
    clear hk8 hT hT' z
    go_wp2
    exact bodyPost_ret (v := .tuple #[.agg #[.bool s9, .slice a9 k9 c9, .bool t9, .slice a0 k0 c0], .int .i64 ec]) (by simp [results, Tryz.results13, go_sem, e0, e1, e2, e3]) rfl ⟨Kept.put4 (HV.out _ HK8.out).2.2.2 HP.out _ _ _ _, 0, HC.out, .inr ⟨rfl, .minus ⟨N7, Q7, H7.out.2.2.2.2, HT.out.put4 HZ.out _ _ _ _⟩⟩⟩
   ·
    have q0 := HF9.out.c0
    have q1 := HF9.out.c1
    have q2 := HF9.out.c2
    have q3 := HF9.out.c3
    have r0 := HF10.out.c0
    have r1 := HF10.out.c1
    have r2 := HF10.out.c2
    have r3 := HF10.out.c3
    go_wp2_with fail
    refine (FTimes_any s3 t3 s5 t5 a3 a4 a5 a6 k3' c3' k4' c4' k5' c5' k6' c6' _ _ _ _ _ HN.out.1 HN.out.2.1 HN.out.2.2.1 HN.out.2.2.2 (by have := HLL.out.1; omega) (by have := HLL.out.1; omega) HLL.out.2.1 HLL.out.2.2).mono ?_
    rintro e w7 ⟨hk7, v7, N7, Q7, rfl, ⟨s7, a7, k7, c7, t7, a8, k8, c8, rfl, n7, n8, l7, l8⟩, hL7⟩
    have HK7 := hid' (HKc.out.trans hk7)
    have H7 := hid' (And.intro n7 (And.intro n8 (And.intro l7 (And.intro l8 hL7))))
    clear hk7 n7 n8 l7 l8 hL7 q0 q1 q2 q3 r0 r1 r2 r3
    go_wp2_with fail
    refine (told_any s7 t7 a7 a8 k7 c7 k8 c8 N7 Q7 _ H7.out.1 H7.out.2.1 (by have h1 := H7.out.2.2.1; have h2 := HLL.out; omega) (by have h1 := H7.out.2.2.2.1; have h2 := HLL.out; omega)).mono ?_
    rintro e w8 ⟨hk8, hT⟩
    obtain ⟨s9, a9, k9, c9, t9, a0, k0, c0, ec, rfl, hT'⟩ := hT.split
    have HK8 := hid' (HK7.out.trans hk8)
    have HT := hid' (hT'.mono (HV.out _ HK7.out).2.2.2.size)
    have z := (HV.out _ HK8.out).2.2.1
    have HZ := hid' z
    have e0 := z.c0
    have e1 := z.c1
    have e2 := z.c2
    have e3 := z.c3
    have y0 := z.fz 0
    have y1 := z.fz 1
    have y2 := z.fz 2
    have y3 := z.fz 3
    clear hk8 hT hT' z
    go_wp2
    exact bodyPost_ret (v := .tuple #[.agg #[.bool s9, .slice a9 k9 c9, .bool t9, .slice a0 k0 c0], .int .i64 ec]) (by simp [results, Tryz.results13, go_sem, e0, e1, e2, e3]) rfl ⟨Kept.put4 (HV.out _ HK8.out).2.2.2 HP.out _ _ _ _, 0, HC.out, .inr ⟨rfl, .times ⟨N7, Q7, H7.out.2.2.2.2, HT.out.put4 HZ.out _ _ _ _⟩⟩⟩
   ·
    have q0 := HF10.out.c0
    have q1 := HF10.out.c1
    have q2 := HF10.out.c2
    have q3 := HF10.out.c3
    go_wp2_with fail
    refine (FSign_any s5 t5 a5 a6 k5' c5' k6' c6' (M.int n bn) _ HN.out.2.2.1 (by have := HB.out; omega)).mono ?_
    by_cases hz : M.int n bn = 0
    ·
     rw [show isgn (M.int n bn) 0 = 0 by rw [hz]; rfl]
     have H0 := hid' hz
     clear hz
     rintro e w6 ⟨hk6, rfl⟩
     have HK6 := hid' (HKc.out.trans hk6)
     have z := (HV.out _ HK6.out).2.2.1
     have e0 := z.c0
     have e1 := z.c1
     have e2 := z.c2
     have e3 := z.c3
     have y0 := z.fz 0
     have y1 := z.fz 1
     have y2 := z.fz 2
     have y3 := z.fz 3
     clear hk6 q0 q1 q2 q3 z
     go_wp2
     exact bodyPost_ret (v := .tuple #[.agg #[.bool false, .slice none 0 0, .bool false, .slice none 0 0], .int .i64 11]) (by simp [results, Tryz.results13, go_sem, e0, e1, e2, e3]) rfl ⟨Kept.put4 (HV.out _ HK6.out).2.2.2 HP.out _ _ _ _, 0, HC.out, .inr ⟨rfl, .over (.inl ⟨H0.out, rfl⟩)⟩⟩
    have HD0 := hid' hz
    have hi : (isgn (M.int n bn) 0 == 0) = false := by
     unfold isgn
     by_cases h : M.int n bn < 0
     ·
      rw [if_pos h]; rfl
     ·
      rw [if_neg h, if_neg hz]; rfl
    have HDEN : Hid (M.int nA ad * M.int n bn ≠ 0) := Int.mul_ne_zero (by have := HR.out.1.pos; omega) hz
    generalize isgn (M.int n bn) 0 = sg at *
    clear hz
    rintro e w6 ⟨hk6, rfl⟩
    have HF9 := hid' (HF9.out.kept hk6)
    have HF10 := hid' (HF10.out.kept hk6)
    have HKc := hid' (HKc.out.trans hk6)
    have HN := hid' (And.intro (HN.out.1.kept hk6) (And.intro (HN.out.2.1.kept hk6) (And.intro (HN.out.2.2.1.kept hk6) (HN.out.2.2.2.kept hk6))))
    clear hk6 q0 q1 q2 q3
    have q0 := HF9.out.c0
    have q1 := HF9.out.c1
    have q2 := HF9.out.c2
    have q3 := HF9.out.c3
    have r0 := HF10.out.c0
    have r1 := HF10.out.c1
    have r2 := HF10.out.c2
    have r3 := HF10.out.c3
    go_wp2_with fail
    refine (FOver_any s3 t3 s5 t5 a3 a4 a5 a6 k3' c3' k4' c4' k5' c5' k6' c6' _ _ _ _ _ HN.out.1 HN.out.2.1 HN.out.2.2.1 HN.out.2.2.2 HLL.out.1 HDEN.out).mono ?_
    rintro e w7 ⟨hk7, v7, N7, Q7, rfl, ⟨s7, a7, k7, c7, t7, a8, k8, c8, rfl, n7, n8, l7, l8⟩, hL7⟩
    have HK7 := hid' (HKc.out.trans hk7)
    have H7 := hid' (And.intro n7 (And.intro n8 (And.intro l7 (And.intro l8 hL7))))
    clear hk7 n7 n8 l7 l8 hL7 q0 q1 q2 q3 r0 r1 r2 r3
    go_wp2_with fail
    refine (told_any s7 t7 a7 a8 k7 c7 k8 c8 N7 Q7 _ H7.out.1 H7.out.2.1 (by have h1 := H7.out.2.2.1; have h2 := HLL.out; omega) (by have h1 := H7.out.2.2.2.1; have h2 := HLL.out; omega)).mono ?_
    rintro e w8 ⟨hk8, hT⟩
    obtain ⟨s9, a9, k9, c9, t9, a0, k0, c0, ec, rfl, hT'⟩ := hT.split
    have HK8 := hid' (HK7.out.trans hk8)
    have HT := hid' (hT'.mono (HV.out _ HK7.out).2.2.2.size)
    have z := (HV.out _ HK8.out).2.2.1
    have HZ := hid' z
    have e0 := z.c0
    have e1 := z.c1
    have e2 := z.c2
    have e3 := z.c3
    have y0 := z.fz 0
    have y1 := z.fz 1
    have y2 := z.fz 2
    have y3 := z.fz 3
    clear hk8 hT hT' z
    go_wp2
    exact bodyPost_ret (v := .tuple #[.agg #[.bool s9, .slice a9 k9 c9, .bool t9, .slice a0 k0 c0], .int .i64 ec]) (by simp [results, Tryz.results13, go_sem, e0, e1, e2, e3]) rfl ⟨Kept.put4 (HV.out _ HK8.out).2.2.2 HP.out _ _ _ _, 0, HC.out, .inr ⟨rfl, .over (.inr ⟨HD0.out, N7, Q7, H7.out.2.2.2.2, HT.out.put4 HZ.out _ _ _ _⟩)⟩⟩
 ·
  have hcb : ((c : Int) == 0) = false := by simpa using hc0
  have H0 := hid' hc0
  have z := (HV.out _ HK1.out).2.2.1
  have e0 := z.c0
  have e1 := z.c1
  have e2 := z.c2
  have e3 := z.c3
  have y0 := z.fz 0
  have y1 := z.fz 1
  have y2 := z.fz 2
  have y3 := z.fz 3
  clear hc0 z
  go_wp2
  exact bodyPost_ret (v := .tuple #[.agg #[.bool false, .slice none 0 0, .bool false, .slice none 0 0], .int .i64 c]) (by simp [results, Tryz.results13, go_sem, e0, e1, e2, e3]) rfl ⟨Kept.put4 (HV.out _ HK1.out).2.2.2 HP.out _ _ _ _, c, HC.out, .inl ⟨H0.out, rfl⟩⟩
theorem Two_plus (m nA n nB : Bool) (a1 a2 b1 b2 : Option Addr) (k1 c1 k2 c2 k3 c3 k4 c4 : Nat) (an ad bn bd : List Nat) (w : World) (ha : Sl w (.slice a1 k1 c1) an) (had : Sl w (.slice a2 k2 c2) ad) (hb : Sl w (.slice b1 k3 c3) bn) (hbd : Sl w (.slice b2 k4 c4) bd) (l1 : an.length ≤ 9223372036854775807) (l2 : ad.length ≤ 9223372036854775807) (l3 : bn.length ≤ 9223372036854775807) (l4 : bd.length ≤ 9223372036854775807) :
  Calls Tryz.prog 13 #[.int .u8 43, .agg #[.bool m, .slice a1 k1 c1, .bool nA, .slice a2 k2 c2], .agg #[.bool n, .slice b1 k3 c3, .bool nB, .slice b2 k4 c4]] w fun e w' => Kept w w' ∧ ∃ c, Refused2 m nA n nB an ad bn bd c ∧ ((c ≠ 0 ∧ e = .returned (.tuple #[.agg #[.bool false, .slice none 0 0, .bool false, .slice none 0 0], .int .i64 c])) ∨ (c = 0 ∧ (∃ N Q, Low (M.int m an * M.int nB bd + M.int n bn * M.int nA ad) (M.int nA ad * M.int nB bd) N Q ∧ ToldIs w.heap.size w' e N Q))) :=
 (Two_any 43 m nA n nB a1 a2 b1 b2 k1 c1 k2 c2 k3 c3 k4 c4 an ad bn bd w ha had hb hbd l1 l2 l3 l4 (.inl rfl)).mono fun _ _ ⟨hk, c, hc, hh⟩ => ⟨hk, c, hc, hh.imp id fun ⟨h0, h⟩ => ⟨h0, h.1 rfl⟩⟩
theorem Two_minus (m nA n nB : Bool) (a1 a2 b1 b2 : Option Addr) (k1 c1 k2 c2 k3 c3 k4 c4 : Nat) (an ad bn bd : List Nat) (w : World) (ha : Sl w (.slice a1 k1 c1) an) (had : Sl w (.slice a2 k2 c2) ad) (hb : Sl w (.slice b1 k3 c3) bn) (hbd : Sl w (.slice b2 k4 c4) bd) (l1 : an.length ≤ 9223372036854775807) (l2 : ad.length ≤ 9223372036854775807) (l3 : bn.length ≤ 9223372036854775807) (l4 : bd.length ≤ 9223372036854775807) :
  Calls Tryz.prog 13 #[.int .u8 45, .agg #[.bool m, .slice a1 k1 c1, .bool nA, .slice a2 k2 c2], .agg #[.bool n, .slice b1 k3 c3, .bool nB, .slice b2 k4 c4]] w fun e w' => Kept w w' ∧ ∃ c, Refused2 m nA n nB an ad bn bd c ∧ ((c ≠ 0 ∧ e = .returned (.tuple #[.agg #[.bool false, .slice none 0 0, .bool false, .slice none 0 0], .int .i64 c])) ∨ (c = 0 ∧ (∃ N Q, Low (M.int m an * M.int nB bd + -(M.int n bn) * M.int nA ad) (M.int nA ad * M.int nB bd) N Q ∧ ToldIs w.heap.size w' e N Q))) :=
 (Two_any 45 m nA n nB a1 a2 b1 b2 k1 c1 k2 c2 k3 c3 k4 c4 an ad bn bd w ha had hb hbd l1 l2 l3 l4 (.inr (.inl rfl))).mono fun _ _ ⟨hk, c, hc, hh⟩ => ⟨hk, c, hc, hh.imp id fun ⟨h0, h⟩ => ⟨h0, h.2.1 rfl⟩⟩
theorem Two_times (m nA n nB : Bool) (a1 a2 b1 b2 : Option Addr) (k1 c1 k2 c2 k3 c3 k4 c4 : Nat) (an ad bn bd : List Nat) (w : World) (ha : Sl w (.slice a1 k1 c1) an) (had : Sl w (.slice a2 k2 c2) ad) (hb : Sl w (.slice b1 k3 c3) bn) (hbd : Sl w (.slice b2 k4 c4) bd) (l1 : an.length ≤ 9223372036854775807) (l2 : ad.length ≤ 9223372036854775807) (l3 : bn.length ≤ 9223372036854775807) (l4 : bd.length ≤ 9223372036854775807) :
  Calls Tryz.prog 13 #[.int .u8 42, .agg #[.bool m, .slice a1 k1 c1, .bool nA, .slice a2 k2 c2], .agg #[.bool n, .slice b1 k3 c3, .bool nB, .slice b2 k4 c4]] w fun e w' => Kept w w' ∧ ∃ c, Refused2 m nA n nB an ad bn bd c ∧ ((c ≠ 0 ∧ e = .returned (.tuple #[.agg #[.bool false, .slice none 0 0, .bool false, .slice none 0 0], .int .i64 c])) ∨ (c = 0 ∧ (∃ N Q, Low (M.int m an * M.int n bn) (M.int nA ad * M.int nB bd) N Q ∧ ToldIs w.heap.size w' e N Q))) :=
 (Two_any 42 m nA n nB a1 a2 b1 b2 k1 c1 k2 c2 k3 c3 k4 c4 an ad bn bd w ha had hb hbd l1 l2 l3 l4 (.inr (.inr (.inl rfl)))).mono fun _ _ ⟨hk, c, hc, hh⟩ => ⟨hk, c, hc, hh.imp id fun ⟨h0, h⟩ => ⟨h0, h.2.2.1 rfl⟩⟩
theorem Two_over (m nA n nB : Bool) (a1 a2 b1 b2 : Option Addr) (k1 c1 k2 c2 k3 c3 k4 c4 : Nat) (an ad bn bd : List Nat) (w : World) (ha : Sl w (.slice a1 k1 c1) an) (had : Sl w (.slice a2 k2 c2) ad) (hb : Sl w (.slice b1 k3 c3) bn) (hbd : Sl w (.slice b2 k4 c4) bd) (l1 : an.length ≤ 9223372036854775807) (l2 : ad.length ≤ 9223372036854775807) (l3 : bn.length ≤ 9223372036854775807) (l4 : bd.length ≤ 9223372036854775807) :
  Calls Tryz.prog 13 #[.int .u8 47, .agg #[.bool m, .slice a1 k1 c1, .bool nA, .slice a2 k2 c2], .agg #[.bool n, .slice b1 k3 c3, .bool nB, .slice b2 k4 c4]] w fun e w' => Kept w w' ∧ ∃ c, Refused2 m nA n nB an ad bn bd c ∧ ((c ≠ 0 ∧ e = .returned (.tuple #[.agg #[.bool false, .slice none 0 0, .bool false, .slice none 0 0], .int .i64 c])) ∨ (c = 0 ∧ ((M.int n bn = 0 ∧ e = .returned (.tuple #[.agg #[.bool false, .slice none 0 0, .bool false, .slice none 0 0], .int .i64 11])) ∨ (M.int n bn ≠ 0 ∧ ∃ N Q, Low (M.int m an * M.int nB bd) (M.int nA ad * M.int n bn) N Q ∧ ToldIs w.heap.size w' e N Q)))) :=
 (Two_any 47 m nA n nB a1 a2 b1 b2 k1 c1 k2 c2 k3 c3 k4 c4 an ad bn bd w ha had hb hbd l1 l2 l3 l4 (.inr (.inr (.inr rfl)))).mono fun _ _ ⟨hk, c, hc, hh⟩ => ⟨hk, c, hc, hh.imp id fun ⟨h0, h⟩ => ⟨h0, h.2.2.2 rfl⟩⟩
end F
end Go.Proofs.YtblpacgfgifkcaaGreat
