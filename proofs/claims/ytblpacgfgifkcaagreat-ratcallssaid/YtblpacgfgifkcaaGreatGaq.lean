/- shuntref02: told, Make. shuntref02.Faults: what a list of fractions is refused for. shuntref02.Faults: what a list of fractions is refused for, to the number. -/
import Derived.Test.YtblpacgfgifkcaaGreatGap
import Derived.Test.YtblpacgfgifkcaaGreatFfault
import Derived.Test.YtblpacgfgifkcaaGreatGao
namespace Go.Proofs.YtblpacgfgifkcaaGreat
open Go.RowKit
namespace F
theorem nis_wide {w : World} {s : Bool} {ao : Option Addr} {k c : Nat} {z : Int} (h : D.NIs w s (.slice ao k c) z) (hk : 72 < (k + 1) / 2) : M.W72 ≤ z.natAbs := by
 obtain ⟨l, h1, h2, rfl⟩ := h
 have e := h1.len
 subst e
 rw [D.natAbs_int]
 exact D.wide_of h2.tr hk
set_option maxRecDepth 100000 in
set_option maxHeartbeats 4000000 in
theorem told_any (s t : Bool) (a1 a2 : Option Addr) (k1 c1 k2 c2 : Nat) (N Q : Int) (w : World) (h1 : D.NIs w s (.slice a1 k1 c1) N) (h2 : D.NIs w t (.slice a2 k2 c2) Q) (hl1 : k1 ≤ 10000) (hl2 : k2 ≤ 10000) :
  Calls Tryz.prog 38 #[.agg #[.bool s, .slice a1 k1 c1, .bool t, .slice a2 k2 c2]] w fun e w' => Kept w w' ∧ ToldIs w.heap.size w' e N Q := by
 have HA : Hid (D.NIs w s (.slice a1 k1 c1) N ∧ D.NIs w t (.slice a2 k2 c2) Q ∧ k1 ≤ 10000 ∧ k2 ≤ 10000) := ⟨h1, h2, hl1, hl2⟩
 clear h1 h2 hl1 hl2
 go_enter Tryz.func38, Tryz.ntmps38
 go_upto_region 1 with fail
 have r1 := ((FRow.alloc w (.bool s) (.slice a1 k1 c1) (.bool t) (.slice a2 k2 c2)).kept ((Kept.refl _).alloc (.cells #[.bool false, .slice none 0 0, .bool false, .slice none 0 0] 26)))
 have r2 := RRow.alloc (w.alloc (.cells #[.bool s, .slice a1 k1 c1, .bool t, .slice a2 k2 c2] 68)) (.bool false) (.slice none 0 0) (.bool false) (.slice none 0 0)
 have hK := ((Kept.refl w).alloc (.cells #[.bool s, .slice a1 k1 c1, .bool t, .slice a2 k2 c2] 68)).alloc (.cells #[.bool false, .slice none 0 0, .bool false, .slice none 0 0] 26)
 simp only [World.size_alloc] at r2
 generalize (w.alloc (.cells #[.bool s, .slice a1 k1 c1, .bool t, .slice a2 k2 c2] 68)).alloc (.cells #[.bool false, .slice none 0 0, .bool false, .slice none 0 0] 26) = W at r1 r2 hK ⊢
 obtain ⟨p2, hp2⟩ : ∃ p, p = w.heap.size + 1 := ⟨_, rfl⟩
 rw [← hp2] at r2 ⊢
 obtain ⟨p1, hp1⟩ : ∃ p, p = w.heap.size := ⟨_, rfl⟩
 rw [← hp1] at r1 ⊢
 have HP : Hid (w.heap.size ≤ p2 ∧ w.heap.size ≤ W.heap.size) := ⟨by omega, hK.size⟩
 have n21 : ¬ p2 = p1 := by omega
 have HV : Hid (∀ V, Kept W V → FRow V p1 (.bool s) (.slice a1 k1 c1) (.bool t) (.slice a2 k2 c2) ∧ RRow V p2 (.bool false) (.slice none 0 0) (.bool false) (.slice none 0 0) ∧ Kept w V) := fun V hV => ⟨r1.kept hV, r2.kept hV, hK.trans hV⟩
 obtain ⟨q0, q1, q2, q3⟩ := frow_all r1
 clear hp1 hp2 r1 r2 hK
 go_wp2_with fail
 refine (D.Length_any s a1 k1 c1 _ (by have := HA.out; omega)).mono ?_
 rintro e w1 ⟨hk1, rfl⟩
 have HK1 := hid' hk1
 clear q0 q1 q2 q3 hk1
 obtain ⟨q0, q1, q2, q3⟩ := frow_all (HV.out _ HK1.out).1
 have z := (HV.out _ HK1.out).2.1
 by_cases h72 : 72 < (k1 + 1) / 2
 ·
  have h72' : (72 : Int) < (((k1 + 1) / 2 : Nat) : Int) := by omega
  have HW := hid' (nis_wide HA.out.1 h72)
  generalize (((k1 + 1) / 2 : Nat) : Int) = q at *
  have e0 := z.c0
  have e1 := z.c1
  have e2 := z.c2
  have e3 := z.c3
  have y0 := z.fz 0
  have y1 := z.fz 1
  have y2 := z.fz 2
  have y3 := z.fz 3
  clear h72 z
  go_wp2
  exact bodyPost_ret (v := .tuple #[.agg #[.bool false, .slice none 0 0, .bool false, .slice none 0 0], .int .i64 13]) (by simp [results, Tryz.results38, go_sem, e0, e1, e2, e3]) rfl ⟨Kept.put4 (HV.out _ HK1.out).2.2 HP.out.1 _ _ _ _, .inr ⟨rfl, .inl HW.out⟩⟩
 ·
  have h72' : ¬ (72 : Int) < (((k1 + 1) / 2 : Nat) : Int) := by omega
  have HL1 : Hid ((k1 + 1) / 2 ≤ 72) := by show _ ≤ _; omega
  generalize (((k1 + 1) / 2 : Nat) : Int) = q at *
  clear h72 z
  go_wp2_with fail
  refine (D.Length_any t a2 k2 c2 _ (by have := HA.out; omega)).mono ?_
  rintro e w2 ⟨hk2, rfl⟩
  have HK2 := hid' (HK1.out.trans hk2)
  clear q0 q1 q2 q3 hk2
  obtain ⟨q0, q1, q2, q3⟩ := frow_all (HV.out _ HK2.out).1
  have z := (HV.out _ HK2.out).2.1
  by_cases h73 : 72 < (k2 + 1) / 2
  ·
   have h73' : (72 : Int) < (((k2 + 1) / 2 : Nat) : Int) := by omega
   have HW := hid' (nis_wide HA.out.2.1 h73)
   generalize (((k2 + 1) / 2 : Nat) : Int) = q' at *
   have e0 := z.c0
   have e1 := z.c1
   have e2 := z.c2
   have e3 := z.c3
   have y0 := z.fz 0
   have y1 := z.fz 1
   have y2 := z.fz 2
   have y3 := z.fz 3
   clear h73 z
   go_wp2
   exact bodyPost_ret (v := .tuple #[.agg #[.bool false, .slice none 0 0, .bool false, .slice none 0 0], .int .i64 13]) (by simp [results, Tryz.results38, go_sem, e0, e1, e2, e3]) rfl ⟨Kept.put4 (HV.out _ HK2.out).2.2 HP.out.1 _ _ _ _, .inr ⟨rfl, .inr HW.out⟩⟩
  ·
   have h73' : ¬ (72 : Int) < (((k2 + 1) / 2 : Nat) : Int) := by omega
   have HL2 : Hid ((k2 + 1) / 2 ≤ 72) := by show _ ≤ _; omega
   generalize (((k2 + 1) / 2 : Nat) : Int) = q' at *
   clear h73 z
   go_wp2_with fail
   refine (FGive_any s t a1 a2 k1 c1 k2 c2 N Q _ (HA.out.1.kept (HV.out _ HK2.out).2.2) (HA.out.2.1.kept (HV.out _ HK2.out).2.2) HA.out.2.2.1 HA.out.2.2.2).mono ?_
   rintro e w3 ⟨hk3, s3, a3, k3, c3, l3, t3, a4, k4, c4, l4, rfl, n3, tr3, i3, e3', z3, n4, tr4, i4, e4', z4⟩
   have HK3 := hid' (HK2.out.trans hk3)
   have HG : Hid ((New w.heap.size w3 (.slice a3 k3 c3) l3 ∧ M.Right s3 l3 ∧ M.int s3 l3 = N) ∧ (New w.heap.size w3 (.slice a4 k4 c4) l4 ∧ M.Right t3 l4 ∧ M.int t3 l4 = Q)) := ⟨⟨n3.mono (HV.out _ HK2.out).2.2.size, ⟨n3.sl.bd, tr3, by rw [e3']; exact HL1.out, z3⟩, i3⟩, n4.mono (HV.out _ HK2.out).2.2.size, ⟨n4.sl.bd, tr4, by rw [e4']; exact HL2.out, z4⟩, i4⟩
   have z := (HV.out _ HK3.out).2.1
   have HZ := hid' z
   have e0 := z.c0
   have e1 := z.c1
   have e2 := z.c2
   have e3 := z.c3
   have y0 := z.fz 0
   have y1 := z.fz 1
   have y2 := z.fz 2
   have y3 := z.fz 3
   clear q0 q1 q2 q3 hk3 n3 tr3 i3 e3' z3 n4 tr4 i4 e4' z4 z
   go_wp2
   exact bodyPost_ret (v := .tuple #[.agg #[.bool s3, .slice a3 k3 c3, .bool t3, .slice a4 k4 c4], .int .i64 0]) (by simp [results, Tryz.results38, go_sem, e0, e1, e2, e3]) rfl ⟨Kept.put4 (HV.out _ HK3.out).2.2 HP.out.1 _ _ _ _, .inl ⟨s3, a3, k3, c3, l3, t3, a4, k4, c4, l4, rfl, New.rset4 HG.out.1.1 HZ.out _ _ _ _, HG.out.1.2.1, HG.out.1.2.2, New.rset4 HG.out.2.1 HZ.out _ _ _ _, HG.out.2.2.1, HG.out.2.2.2⟩⟩
def MadeIs (B : Nat) (w : World) (e : Ending) (m n : Bool) (a b : List Nat) : Prop :=
 (¬ (R m a ∧ R n b) ∧ e = .returned (.tuple #[.agg #[.bool false, .slice none 0 0, .bool false, .slice none 0 0], .int .i64 10])) ∨ (R m a ∧ R n b ∧ ((b.length = 0 ∧ e = .returned (.tuple #[.agg #[.bool false, .slice none 0 0, .bool false, .slice none 0 0], .int .i64 11])) ∨ (0 < b.length ∧ ∃ N Q, Low (M.int m a) (M.int n b) N Q ∧ ToldIs B w e N Q)))
end F
end Go.Proofs.YtblpacgfgifkcaaGreat

namespace Go.Proofs.YtblpacgfgifkcaaGreat
open Go.RowKit
namespace F
end F
end Go.Proofs.YtblpacgfgifkcaaGreat

namespace Go.Proofs.YtblpacgfgifkcaaGreat
open Go.RowKit
namespace F
theorem notRat {m n : Bool} {a d : List Nat} (h : R m a ∧ R n d) (h' : ¬ RatR m n a d) : ¬ (0 < M.int n d ∧ Nat.gcd (M.val a) (M.val d) = 1) := fun q => h' ⟨h.1, h.2, q.1, q.2⟩
set_option maxHeartbeats 4000000 in
theorem Faults_x (ao : Option Addr) (b off N cap : Nat) (w : World) (m n : Nat → Bool) (aa ad : Nat → Option Addr) (ka ca kd cd : Nat → Nat) (a d : Nat → List Nat) (hao : 0 < N → ao = some ⟨b, off, none⟩) (hN : N ≤ 1000000) (H : RatAll w b off N m n aa ad ka ca kd cd a d) :
  Calls Tryz.prog 36 #[.slice ao N cap] w fun e w' => Kept w w' ∧ ∃ c : Int, e = .returned (.int .i64 c) ∧ Refused N m n a d c := by
 have HH : Hid (RatAll w b off N m n aa ad ka ca kd cd a d ∧ (0 < N → ao = some ⟨b, off, none⟩)) := ⟨H, hao⟩
 clear H hao
 go_enter Tryz.func36, Tryz.ntmps36
 go_wp2_with fail
 go_loopw [3, 4] (fun ve vi wr => ∃ (k : Nat) (c : Int), k ≤ N ∧ vi = .int .i64 (k : Int) ∧ ve = .int .i64 c ∧ Hid (Kept w wr ∧ (∀ i, i < k → R (m i) (a i) ∧ R (n i) (d i)) ∧ ((c = 0 ∧ ∀ i, i < k → RatR (m i) (n i) (a i) (d i)) ∨ (c = 20 ∧ ∃ i, i < k ∧ ¬ RatR (m i) (n i) (a i) (d i))))) (fun _ vi _ => N - (intOf vi).toNat)
 case atStart => exact ⟨0, 0, Nat.zero_le _, rfl, rfl, Kept.refl w, fun i hi => by omega, .inl ⟨rfl, fun i hi => by omega⟩⟩
 case round =>
  obtain ⟨k, c, hk, rfl, rfl, HK⟩ := hrel
  by_cases hlt : k < N
  ·
   obtain ⟨⟨h0, h1, h2, h3⟩, h4⟩ := HH.out.1 k hlt
   obtain rfl := HH.out.2 (by omega)
   have h0 := cell_kept HK.out.1 h0
   have h1 := cell_kept HK.out.1 h1
   have h2 := cell_kept HK.out.1 h2
   have h3 := cell_kept HK.out.1 h3
   have H4 := hid' h4
   clear h4
   go_wp2_with fail
   refine (Fault_any (m k) (n k) (aa k) (ad k) (ka k) (ca k) (kd k) (cd k) (a k) (d k) _ (H4.out.1.kept HK.out.1) (H4.out.2.1.kept HK.out.1) H4.out.2.2.1 H4.out.2.2.2).mono ?_
   rintro e w1 ⟨hk1, f, rfl, hf⟩
   have HK1 : Hid (Kept w w1) := HK.out.1.trans hk1
   clear hk1 h0 h1 h2 h3
   rcases hf with ⟨rfl, hf⟩ | ⟨rfl, hf⟩ | ⟨rfl, hf⟩
   ·
    have HF := hid' hf
    clear hf
    go_wp2
    go_ret
    exact ⟨HK1.out, 10, rfl, .inl ⟨rfl, k, hlt, HF.out⟩⟩
   ·
    have HF := hid' hf
    clear hf
    go_wp2_with fail
    go_roundw
    case rel => exact ⟨k + 1, 20, by omega, by go_num, rfl, HK1.out, fun i hi => if h : i = k then by rw [h]; exact ⟨HF.out.1, HF.out.2.1⟩ else HK.out.2.1 i (by omega), .inr ⟨rfl, k, by omega, HF.out.2.2⟩⟩
    case measure => simp [intOf]; omega
   ·
    have HF := hid' hf
    clear hf
    go_wp2_with fail
    go_roundw
    case rel => exact ⟨k + 1, c, by omega, by go_num, rfl, HK1.out, fun i hi => if h : i = k then by rw [h]; exact ⟨HF.out.ra, HF.out.rd⟩ else HK.out.2.1 i (by omega), HK.out.2.2.imp (fun h => ⟨h.1, fun i hi => if e : i = k then by rw [e]; exact HF.out else h.2 i (by omega)⟩) (fun h => ⟨h.1, h.2.imp fun i hi => ⟨by omega, hi.2⟩⟩)⟩
    case measure => simp [intOf]; omega
  ·
   go_wp2
   go_ret
   have hR : ∀ i, i < N → R (m i) (a i) ∧ R (n i) (d i) := fun i hi => HK.out.2.1 i (by omega)
   refine ⟨HK.out.1, c, rfl, .inr ⟨hR, HK.out.2.2.symm.imp (fun h => ⟨h.1, h.2.imp fun i hi => ⟨by omega, notRat (hR i (by omega)) hi.2⟩⟩) (fun h => ⟨h.1, fun i hi => ⟨(h.2 i (by omega)).pos, (h.2 i (by omega)).low⟩⟩)⟩⟩
end F
end Go.Proofs.YtblpacgfgifkcaaGreat
