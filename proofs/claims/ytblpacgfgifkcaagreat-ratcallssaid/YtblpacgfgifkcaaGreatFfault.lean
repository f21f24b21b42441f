/- shuntref02.Fault: what a fraction is refused for. -/
import Derived.Test.YtblpacgfgifkcaaGreatGam
import Derived.Test.YtblpacgfgifkcaaGreatGah
namespace Go.Proofs.YtblpacgfgifkcaaGreat
open Go.RowKit
namespace D
theorem small_num (x : Int) (w : World) (h0 : 0 ≤ x) (h1 : x < 65536) :
  Calls Tryz.prog 59 #[.int .i64 x] w fun e w' => Kept w w' ∧ ∃ ao n cap, e = .returned (.agg #[.bool false, .slice ao n cap]) ∧ NIs w' false (.slice ao n cap) x ∧ n ≤ 1 := by
 obtain ⟨v, rfl⟩ := Int.eq_ofNat_of_zero_le h0
 refine (small_any v w (by omega)).mono ?_
 rintro e w' ⟨hk, ao, n, cap, l, rfl, hs, ht, hv, hl⟩
 exact ⟨hk, ao, n, cap, rfl, ⟨l, hs, ⟨hs.bd, ht, fun _ => rfl⟩, by simp [int, hv]⟩, by rw [hs.len]; exact hl⟩
end D
namespace F
theorem gcd_one {x : Nat} : isgn ((x : Nat) : Int) 1 = 0 ↔ x = 1 := by
 unfold isgn; split <;> (try split) <;> omega
set_option maxHeartbeats 4000000 in
theorem Fault_main (m : Bool) (aoa aob : Option Addr) (ka ca kb cb : Nat) (a d : List Nat) (w : World) (ha : Sl w (.slice aoa ka ca) a) (hd : Sl w (.slice aob kb cb) d) (hra : R m a) (hrd : R false d) (hd0 : 0 < d.length) :
  Calls Tryz.prog 25 #[.agg #[.bool m, .slice aoa ka ca, .bool false, .slice aob kb cb]] w fun e w' => Kept w w' ∧ ∃ c : Int, e = .returned (.int .i64 c) ∧ ((c = 0 ∧ Nat.gcd (M.val a) (M.val d) = 1) ∨ (c = 20 ∧ ¬ Nat.gcd (M.val a) (M.val d) = 1)) := by
 have HA : Hid (Sl w (.slice aoa ka ca) a ∧ Sl w (.slice aob kb cb) d ∧ R m a ∧ R false d) := ⟨ha, hd, hra, hrd⟩
 have hla : a.length ≤ 72 := hra.1
 have hlb : d.length ≤ 72 := hrd.1
 have ek := hd.len
 have hk0 : ((kb : Int) == 0) = false := by simp; omega
 have HL : Hid (a.length ≤ 72 ∧ d.length ≤ 72) := ⟨hla, hlb⟩
 have hkb : kb ≤ 72 := by omega
 obtain ⟨g, HG⟩ : ∃ g, Hid (g = Nat.gcd (M.val a) (M.val d)) := ⟨_, rfl⟩
 suffices h : Calls Tryz.prog 25 #[.agg #[.bool m, .slice aoa ka ca, .bool false, .slice aob kb cb]] w fun e w' => Kept w w' ∧ ∃ c : Int, e = .returned (.int .i64 c) ∧ ((c = 0 ∧ g = 1) ∨ (c = 20 ∧ ¬ g = 1)) by rw [HG.out] at h; exact h
 clear ha hd hra hrd hd0 ek hla hlb
 go_enter Tryz.func25, Tryz.ntmps25
 go_wp2_with fail
 refine (right_yes m _ a _ (HA.out.1.kept ((Kept.refl w).alloc _)) HA.out.2.2.1).mono ?_
 rintro e w1 ⟨rfl, hk1⟩
 have rA := (RRow.alloc w (.bool m) (.slice aoa ka ca) (.bool false) (.slice aob kb cb)).kept hk1
 have q0 := rA.c0
 have q1 := rA.c1
 have q2 := rA.c2
 have q3 := rA.c3
 have HK1 : Hid (Kept w w1) := ((Kept.refl w).alloc _).trans hk1
 have HR1 := hid' rA
 clear hk1 rA
 go_wp2_with fail
 refine (right_yes false _ d _ (HA.out.2.1.kept HK1.out) HA.out.2.2.2).mono ?_
 rintro e w2 ⟨rfl, hk2⟩
 have rA := HR1.out.kept hk2
 have q0 := rA.c0
 have q1 := rA.c1
 have q2 := rA.c2
 have q3 := rA.c3
 have HK2 : Hid (Kept w w2) := HK1.out.trans hk2
 have HR2 := hid' rA
 have HRV : Hid (∀ V, Kept w2 V → RRow V w.heap.size (.bool m) (.slice aoa ka ca) (.bool false) (.slice aob kb cb)) := fun V hV => HR2.out.kept hV
 clear hk2 rA HR1 HR2 HK1
 go_wp2_with fail
 go_region_held3 (fun w' => w'.cell? ⟨w.heap.size, 0, none⟩ = some (.bool m) ∧ w'.cell? ⟨w.heap.size, 1, none⟩ = some (.slice aoa ka ca) ∧ w'.cell? ⟨w.heap.size, 2, none⟩ = some (.bool false) ∧ w'.cell? ⟨w.heap.size, 3, none⟩ = some (.slice aob kb cb)) (go_keep) (first
  | (go_at_call_of 50 (Value.slice aoa ka ca); refine (D.Take_any m aoa ka ca a _ (HA.out.1.kept (HK2.out.trans (Kept.refl _).drew)) (by have := HL.out; omega)).mono ?_; rintro e w3 ⟨hk3, s3, a3, k3, c3, rfl, hN3, hl3⟩; have K3 := (Kept.refl w2).drew.trans hk3; have b0 := (HRV.out _ K3).c0; have b1 := (HRV.out _ K3).c1; have b2 := (HRV.out _ K3).c2; have b3 := (HRV.out _ K3).c3)
  | (go_at_call_of 50 (Value.slice aob kb cb); refine (D.Take_any false aob kb cb d _ (HA.out.2.1.kept (HK2.out.trans K3)) (by have := HL.out; omega)).mono ?_; rintro e w4 ⟨hk4, s4, a4, k4, c4, rfl, hN4, hl4⟩; have K4 := K3.trans hk4; have d0 := (HRV.out _ K4).c0; have d1 := (HRV.out _ K4).c1; have d2 := (HRV.out _ K4).c2; have d3 := (HRV.out _ K4).c3)
  | (go_at_call 63; refine (D.Common_any s3 s4 a3 a4 k3 k4 c3 c4 _ _ _ (hN3.kept hk4) hN4 (by have := HL.out; omega) (by have := HL.out; omega)).mono ?_; rintro e w5 ⟨hk5, a5, k5, c5, rfl, hN5, hl5⟩; have K5 := K4.trans hk5; have f0 := (HRV.out _ K5).c0; have f1 := (HRV.out _ K5).c1; have f2 := (HRV.out _ K5).c2; have f3 := (HRV.out _ K5).c3)
  | (go_at_call 59; refine (D.small_num 1 _ (by omega) (by omega)).mono ?_; rintro e w6 ⟨hk6, a6, k6, c6, rfl, hN6, hl6⟩; have K6 := K5.trans hk6; have g0 := (HRV.out _ K6).c0; have g1 := (HRV.out _ K6).c1; have g2 := (HRV.out _ K6).c2; have g3 := (HRV.out _ K6).c3)
  | (go_at_call 60; refine (D.Held_any false false a5 a6 k5 k6 c5 c6 _ _ _ (hN5.kept hk6) hN6 (by have := HL.out; omega) (by have := HL.out; omega)).mono ?_; rw [M.natAbs_int, M.natAbs_int, ← HG.out]; rintro e w7 ⟨rfl, hk7⟩; have K7 := K6.trans hk7; have i0 := (HRV.out _ K7).c0; have i1 := (HRV.out _ K7).c1; have i2 := (HRV.out _ K7).c2; have i3 := (HRV.out _ K7).c3))
 have HK7 : Hid (Kept w w7) := HK2.out.trans K7
 clear q0 q1 q2 q3 b0 b1 b2 b3 d0 d1 d2 d3 f0 f1 f2 f3 g0 g1 g2 g3 i0 i1 i2 i3 hk3 hk4 hk5 hk6 hk7 K3 K4 K5 K6 K7 hN3 hN4 hN5 hN6 hl3 hl4 hl5 hl6 HRV
 by_cases h1 : g = 1
 ·
  have hz : isgn ((g : Nat) : Int) 1 = 0 := gcd_one.2 h1
  have HH := hid' h1
  clear h1
  rw [hz]
  go_wp2
  go_ret
  exact ⟨HK7.out, 0, rfl, .inl ⟨rfl, HH.out⟩⟩
 ·
  have hz : (isgn ((g : Nat) : Int) 1 != 0) = true := by rw [bne_iff_ne]; exact fun h => h1 (gcd_one.1 h)
  have HH := hid' h1
  clear h1
  go_wp2
  go_ret
  exact ⟨HK7.out, 20, rfl, .inr ⟨rfl, HH.out⟩⟩
set_option maxHeartbeats 4000000 in
theorem Fault_neg (m : Bool) (aoa aob : Option Addr) (ka ca kb cb : Nat) (a d : List Nat) (w : World) (ha : Sl w (.slice aoa ka ca) a) (hd : Sl w (.slice aob kb cb) d) (hra : R m a) (hrd : R true d) :
  Calls Tryz.prog 25 #[.agg #[.bool m, .slice aoa ka ca, .bool true, .slice aob kb cb]] w fun e w' => Kept w w' ∧ e = .returned (.int .i64 20) := by
 have HA : Hid (Sl w (.slice aoa ka ca) a ∧ Sl w (.slice aob kb cb) d ∧ R m a ∧ R true d) := ⟨ha, hd, hra, hrd⟩
 clear ha hd hra hrd
 go_enter Tryz.func25, Tryz.ntmps25
 go_wp2_with fail
 refine (right_yes m _ a _ (HA.out.1.kept ((Kept.refl w).alloc _)) HA.out.2.2.1).mono ?_
 rintro e w1 ⟨rfl, hk1⟩
 have rA := (RRow.alloc w (.bool m) (.slice aoa ka ca) (.bool true) (.slice aob kb cb)).kept hk1
 have q2 := rA.c2
 have q3 := rA.c3
 have HK1 : Hid (Kept w w1) := ((Kept.refl w).alloc _).trans hk1
 have HR1 := hid' rA
 clear hk1 rA
 go_wp2_with fail
 refine (right_yes true _ d _ (HA.out.2.1.kept HK1.out) HA.out.2.2.2).mono ?_
 rintro e w2 ⟨rfl, hk2⟩
 have rA := HR1.out.kept hk2
 have q0 := rA.c0
 have q1 := rA.c1
 have q2 := rA.c2
 have q3 := rA.c3
 have HK2 : Hid (Kept w w2) := HK1.out.trans hk2
 clear hk2 rA HR1 HK1
 go_wp2_with fail
 go_quiet (fail)
 go_wp2
 go_ret
 exact ⟨HK2.out.drewN _, rfl⟩
set_option maxHeartbeats 4000000 in
theorem Fault_nil (m : Bool) (aoa aob : Option Addr) (ka ca cb : Nat) (a : List Nat) (w : World) (ha : Sl w (.slice aoa ka ca) a) (hra : R m a) :
  Calls Tryz.prog 25 #[.agg #[.bool m, .slice aoa ka ca, .bool false, .slice aob 0 cb]] w fun e w' => Kept w w' ∧ e = .returned (.int .i64 20) := by
 have HA : Hid (Sl w (.slice aoa ka ca) a ∧ R m a) := ⟨ha, hra⟩
 clear ha hra
 go_enter Tryz.func25, Tryz.ntmps25
 go_wp2_with fail
 refine (right_yes m _ a _ (HA.out.1.kept ((Kept.refl w).alloc _)) HA.out.2).mono ?_
 rintro e w1 ⟨rfl, hk1⟩
 have rA := (RRow.alloc w (.bool m) (.slice aoa ka ca) (.bool false) (.slice aob 0 cb)).kept hk1
 have q2 := rA.c2
 have q3 := rA.c3
 have HK1 : Hid (Kept w w1) := ((Kept.refl w).alloc _).trans hk1
 have HR1 := hid' rA
 clear hk1 rA
 go_wp2_with fail
 refine (right_yes false _ [] _ (Sl.nil _ _ _) ⟨by simp, fun _ => rfl, fun h => by simp at h⟩).mono ?_
 rintro e w2 ⟨rfl, hk2⟩
 have rA := HR1.out.kept hk2
 have q0 := rA.c0
 have q1 := rA.c1
 have q2 := rA.c2
 have q3 := rA.c3
 have HK2 : Hid (Kept w w2) := HK1.out.trans hk2
 clear hk2 rA HR1 HK1
 go_wp2_with fail
 go_quiet (fail)
 go_wp2
 go_ret
 exact ⟨HK2.out.drewN _, rfl⟩
set_option maxHeartbeats 4000000 in
theorem Fault_int (m n : Bool) (aoa aob : Option Addr) (ka ca kb cb : Nat) (a d : List Nat) (w : World) (ha : Sl w (.slice aoa ka ca) a) (hd : Sl w (.slice aob kb cb) d) (hla : a.length ≤ 9223372036854775807) (hld : d.length ≤ 9223372036854775807) (hn : ¬ (R m a ∧ R n d)) :
  Calls Tryz.prog 25 #[.agg #[.bool m, .slice aoa ka ca, .bool n, .slice aob kb cb]] w fun e w' => Kept w w' ∧ e = .returned (.int .i64 10) := by
 have HA : Hid (Sl w (.slice aoa ka ca) a ∧ Sl w (.slice aob kb cb) d ∧ a.length ≤ 9223372036854775807 ∧ d.length ≤ 9223372036854775807) := ⟨ha, hd, hla, hld⟩
 clear ha hd hla hld
 by_cases hra : R m a
 ·
  have HRR : Hid (R m a ∧ ¬ R n d) := ⟨hra, fun h => hn ⟨hra, h⟩⟩
  clear hra hn
  go_enter Tryz.func25, Tryz.ntmps25
  go_wp2_with fail
  refine (right_yes m _ a _ (HA.out.1.kept ((Kept.refl w).alloc _)) HRR.out.1).mono ?_
  rintro e w1 ⟨rfl, hk1⟩
  have rA := (RRow.alloc w (.bool m) (.slice aoa ka ca) (.bool n) (.slice aob kb cb)).kept hk1
  have q2 := rA.c2
  have q3 := rA.c3
  have HK1 : Hid (Kept w w1) := ((Kept.refl w).alloc _).trans hk1
  clear hk1 rA
  go_wp2_with fail
  refine (right_no n _ d _ (HA.out.2.1.kept HK1.out) HA.out.2.2.2 HRR.out.2).mono ?_
  rintro e w2 ⟨rfl, hk2⟩
  have HK2 : Hid (Kept w w2) := HK1.out.trans hk2
  clear hk2
  go_wp2
  go_ret
  exact ⟨HK2.out, rfl⟩
 ·
  have HRR := hid' hra
  clear hra hn
  go_enter Tryz.func25, Tryz.ntmps25
  go_wp2_with fail
  refine (right_no m _ a _ (HA.out.1.kept ((Kept.refl w).alloc _)) HA.out.2.2.1 HRR.out).mono ?_
  rintro e w1 ⟨rfl, hk1⟩
  have HK1 : Hid (Kept w w1) := ((Kept.refl w).alloc _).trans hk1
  clear hk1
  go_wp2
  go_ret
  exact ⟨HK1.out, rfl⟩
theorem Fault_any (m n : Bool) (aoa aob : Option Addr) (ka ca kb cb : Nat) (a d : List Nat) (w : World) (ha : Sl w (.slice aoa ka ca) a) (hd : Sl w (.slice aob kb cb) d) (hla : a.length ≤ 9223372036854775807) (hld : d.length ≤ 9223372036854775807) :
  Calls Tryz.prog 25 #[.agg #[.bool m, .slice aoa ka ca, .bool n, .slice aob kb cb]] w fun e w' => Kept w w' ∧ ∃ c : Int, e = .returned (.int .i64 c) ∧ ((c = 10 ∧ ¬ (R m a ∧ R n d)) ∨ (c = 20 ∧ R m a ∧ R n d ∧ ¬ RatR m n a d) ∨ (c = 0 ∧ RatR m n a d)) := by
 by_cases hr : R m a ∧ R n d
 ·
  cases n with
  | true =>
   refine (Fault_neg m aoa aob ka ca kb cb a d w ha hd hr.1 hr.2).mono ?_
   rintro e w' ⟨h1, rfl⟩
   exact ⟨h1, 20, rfl, .inr (.inl ⟨rfl, hr.1, hr.2, fun h => by have := h.sgn; simp at this⟩)⟩
  | false =>
   by_cases h0 : 0 < d.length
   ·
    refine (Fault_main m aoa aob ka ca kb cb a d w ha hd hr.1 hr.2 h0).mono ?_
    rintro e w' ⟨h1, c, rfl, h2⟩
    refine ⟨h1, c, rfl, ?_⟩
    rcases h2 with ⟨rfl, h2⟩ | ⟨rfl, h2⟩
    ·
     have hp := M.val_pos hr.2.tr (fun e => by rw [e] at h0; simp at h0)
     exact .inr (.inr ⟨rfl, hr.1, hr.2, by simp [M.int]; omega, h2⟩)
    ·
     exact .inr (.inl ⟨rfl, hr.1, hr.2, fun h => h2 h.low⟩)
   ·
    have e1 := hd.len
    obtain rfl : kb = 0 := by omega
    obtain rfl : d = [] := List.length_eq_zero_iff.1 (by omega)
    refine (Fault_nil m aoa aob ka ca cb a w ha hr.1).mono ?_
    rintro e w' ⟨h1, rfl⟩
    exact ⟨h1, 20, rfl, .inr (.inl ⟨rfl, hr.1, hr.2, fun h => by have := h.vpos; simp [M.val] at this⟩)⟩
 ·
  refine (Fault_int m n aoa aob ka ca kb cb a d w ha hd hla hld hr).mono ?_
  rintro e w' ⟨h1, rfl⟩
  exact ⟨h1, 10, rfl, .inl ⟨rfl, hr⟩⟩
end F
end Go.Proofs.YtblpacgfgifkcaaGreat
