/- guessLimb of limb: a quotient's limb, guessed by the top limbs. -/
import Derived.Test.YthijnnififodjaaDoorKtake
namespace Go.Proofs.YthijnnififodjaaDoor
open Go.RowKit

/-- The greatest limb g with g times V at most U, where one is. -/
def GuessIs (U V g : Nat) : Prop := g < 4294967296 ∧ g * V ≤ U ∧ ∀ h, g < h → h < 4294967296 → U < h * V

theorem slot {w : World} {b i n cap : Nat} {q : List Nat} (h : Sl w (.slice (some ⟨b, i, none⟩) n cap) q) {k : Nat} (hk : k < q.length) : w.cell? ⟨b, i + k, none⟩ = some (.int .u32 ((q.getD k 0 : Nat) : Int)) := by
  obtain ⟨_, ao', cap', he, hx⟩ := h
  simp only [Value.slice.injEq] at he
  obtain ⟨rfl, _, rfl⟩ := he
  obtain ⟨_, b', off, e, _, hc⟩ := hx (by omega)
  simp only [Option.some.injEq, Addr.mk.injEq] at e
  obtain ⟨rfl, rfl, _⟩ := e
  exact hc k hk

theorem guess_start {top v1 v0 u0 : Nat} (hv : 0 < v1) : ∀ h, top / v1 < h → h < 4294967296 → top * 4294967296 + u0 < h * (v1 * 4294967296 + v0) ∨ 4294967296 ≤ u0 := by
  intro h hh _
  by_cases hu : 4294967296 ≤ u0
  · exact .inr hu
  · left
    have h1 : top < h * v1 := by rwa [Nat.div_lt_iff_lt_mul hv] at hh
    have h2 : (top + 1) * 4294967296 ≤ h * v1 * 4294967296 := Nat.mul_le_mul_right _ h1
    rw [Nat.mul_add, ← Nat.mul_assoc]
    omega

/-- The test of the loop, in plain numbers. -/
theorem guess_test {G R top v1 v0 u0 : Nat} (h : G * v1 + R = top) : (G * (v1 * 4294967296 + v0) ≤ top * 4294967296 + u0) ↔ G * v0 ≤ R * 4294967296 + u0 := by
  rw [Nat.mul_add, ← Nat.mul_assoc, ← h, Nat.add_mul]
  omega

theorem guess_first {top v1 : Nat} (hv : 2147483648 ≤ v1) (ht : top < (v1 + 1) * 4294967296) : top / v1 ≤ 4294967297 := by
  have h : top / v1 < 4294967298 := by
    rw [Nat.div_lt_iff_lt_mul (by omega)]
    omega
  omega

theorem guess_dec {G R top v1 : Nat} (h : 1 ≤ G) (e : G * v1 + R = top) : (G - 1) * v1 + (R + v1) = top := by
  obtain ⟨k, rfl⟩ : ∃ k, G = k + 1 := ⟨G - 1, by omega⟩
  rw [Nat.add_mul] at e
  simp only [Nat.add_sub_cancel]
  omega

theorem guess_less {G U V : Nat} (h : ∀ h, G < h → h < 4294967296 → U < h * V) (hw : 4294967296 ≤ G ∨ U < G * V) : ∀ h, G - 1 < h → h < 4294967296 → U < h * V := by
  intro k h1 h2
  by_cases e : k = G
  · subst e; rcases hw with hw | hw
    · omega
    · exact hw
  · exact h k (by omega) h2

theorem guess_break {G R top v1 v0 : Nat} (h1 : 1 ≤ G) (hR : R < 4294967296) (f1 : v1 < 4294967296) (f0 : v0 < 4294967296) (ht : top < (v1 + 1) * 4294967296) (e : G * v1 + R = top) (hb : 4294967296 ≤ R + v1) :
    G - 1 < 4294967296 ∧ ∀ u0, (G - 1) * (v1 * 4294967296 + v0) ≤ top * 4294967296 + u0 := by
  have e2 := guess_dec h1 e
  have hlt : G - 1 < 4294967296 := by
    apply Classical.byContradiction
    intro h
    have h3 : 4294967296 * v1 ≤ (G - 1) * v1 := Nat.mul_le_mul_right _ (by omega)
    omega
  refine ⟨hlt, fun u0 => (guess_test e2).2 ?_⟩
  have h4 : (G - 1) * v0 ≤ 4294967295 * 4294967295 := Nat.mul_le_mul (by omega) (by omega)
  have h5 : 4294967296 * 4294967296 ≤ (R + v1) * 4294967296 := Nat.mul_le_mul_right _ hb
  omega

theorem shl32 (r : Nat) (h : r < 4294967296) : IntKind.u64.wrap ((r : Int) * 4294967296) = (r : Int) * 4294967296 := by rw [IntKind.wrap_u64]; omega

set_option maxRecDepth 100000 in
set_option maxHeartbeats 4000000 in
theorem guess_any (b i cap : Nat) (q d : List Nat) (bd od capd n : Nat) (w : World) (hq : Sl w (.slice (some ⟨b, i, none⟩) (n + 1) cap) q) (hd : Sl w (.slice (some ⟨bd, od, none⟩) n capd) d) (hn : 2 ≤ n) (hl : n ≤ 1000)
    (hv : 2147483648 ≤ d.getD (n - 1) 0) (htop : q.getD n 0 * 4294967296 + q.getD (n - 1) 0 < (d.getD (n - 1) 0 + 1) * 4294967296) :
    Calls Tryd.prog 78 #[.slice (some ⟨b, i, none⟩) (n + 1) cap, .slice (some ⟨bd, od, none⟩) n capd] w fun e w' => Kept w w' ∧ ∃ g : Nat, e = .returned (.int .u32 (g : Int)) ∧ GuessIs ((q.getD n 0 * 4294967296 + q.getD (n - 1) 0) * 4294967296 + q.getD (n - 2) 0) (d.getD (n - 1) 0 * 4294967296 + d.getD (n - 2) 0) g := by
  have lq := hq.len
  have ld := hd.len
  have c2 := slot hq (k := n) (by omega)
  have c1 := slot hq (k := n - 1) (by omega)
  have c0 := slot hq (k := n - 2) (by omega)
  have e1 := slot hd (k := n - 1) (by omega)
  have e0 := slot hd (k := n - 2) (by omega)
  have b2 := hq.bd.getD n
  have b1 := hq.bd.getD (n - 1)
  have b0 := hq.bd.getD (n - 2)
  have f1 := hd.bd.getD (n - 1)
  have f0 := hd.bd.getD (n - 2)
  generalize q.getD n 0 = u2 at *
  generalize q.getD (n - 1) 0 = u1 at *
  generalize q.getD (n - 2) 0 = u0 at *
  generalize d.getD (n - 1) 0 = v1 at *
  generalize d.getD (n - 2) 0 = v0 at *
  clear hq hd lq ld
  obtain ⟨top, ht⟩ : ∃ top, top = u2 * 4294967296 + u1 := ⟨_, rfl⟩
  rw [← ht] at htop ⊢
  have hti : (u2 : Int) * 4294967296 + (u1 : Int) = (top : Int) := by omega
  have hv0 : ¬ ((v1 : Int) = 0) := by omega
  have hTB : top < 18446744073709551616 := by omega
  have hwq : IntKind.u64.wrap ((top : Int) / (v1 : Int)) = (top : Int) / (v1 : Int) := by
    obtain ⟨x, hx⟩ : ∃ x, x = top / v1 := ⟨_, rfl⟩
    have hxle : x ≤ top := by rw [hx]; exact Nat.div_le_self top v1
    rw [show (top : Int) / (v1 : Int) = (x : Int) by rw [hx]; simp, IntKind.wrap_u64]
    clear hx
    omega
  clear ht
  have hn1 : ((n : Int) - 1).toNat = n - 1 := by omega
  have hn2 : ((n : Int) - 2).toNat = n - 2 := by omega
  have g1 : (0 : Int) ≤ (n : Int) - 1 := by omega
  have g2 : (0 : Int) ≤ (n : Int) - 2 := by omega
  have g3 : (n : Int) - 1 < (n : Int) := by omega
  have g4 : (n : Int) - 2 < (n : Int) := by omega
  have g5 : (n : Int) < ((n + 1 : Nat) : Int) := by omega
  have hor := or_low u2 u1 b2 b1
  have hsh := shl32 u2 b2
  go_enter Tryd.func78, Tryd.ntmps78
  go_wp2
  go_quiet (fail)
  go_wp2
  go_quiet (fail)
  go_wp2
  go_quiet (fail)
  go_wp2
  go_loopw [9, 10] (fun vg vr wr => ∃ (G R : Nat), vg = .int .u64 (G : Int) ∧ vr = .int .u64 (R : Int) ∧ G ≤ 4294967297 ∧ R < 4294967296 ∧ wr.cell? ⟨b, i + (n - 2), none⟩ = some (.int .u32 (u0 : Int)) ∧ Hid (G * v1 + R = top ∧ ∀ h, G < h → h < 4294967296 → top * 4294967296 + u0 < h * (v1 * 4294967296 + v0)) ∧ Hid (Kept w wr)) (fun vg _ _ => (intOf vg).toNat)
  case atStart =>
    refine ⟨top / v1, top % v1, by simp, by simp, guess_first hv htop, Nat.lt_trans (Nat.mod_lt _ (by omega)) f1, c0, ⟨by rw [Nat.mul_comm]; exact Nat.div_add_mod _ _, fun h h1 h2 => (guess_start (by omega) h h1 h2).resolve_right (by omega)⟩, ?_⟩
    first | exact ((Kept.refl w).drewN _) | exact (((Kept.refl w).drewN _).drewN _) | exact ((((Kept.refl w).drewN _).drewN _).drewN _)
  case round =>
    obtain ⟨G, R, rfl, rfl, hGB, hR, hc0, HS, hkp⟩ := hrel
    have hsr := shl32 R hR
    have hor2 := or_low R u0 hR b0
    clear c0 c1 c2 e0 e1 hor hsh hti hwq
    by_cases hG : 4294967296 ≤ G
    · have hq1 : (G : Int) / 4294967296 = 1 := by omega
      have hG1 : 1 ≤ G := by omega
      · skip
        have hw1 : IntKind.u64.wrap ((G : Int) - 1) = (G : Int) - 1 := by rw [IntKind.wrap_u64]; omega
        have hw2 : IntKind.u64.wrap ((R : Int) + (v1 : Int)) = (R : Int) + (v1 : Int) := by rw [IntKind.wrap_u64]; omega
        by_cases hbr : 4294967296 ≤ R + v1
        · have hr1 : ((R : Int) + (v1 : Int)) / 4294967296 = 1 := by omega
          have HE := guess_break hG1 hR f1 f0 htop HS.out.1 hbr
          have HP := guess_less HS.out.2 (.inl hG)
          have hlt : G - 1 < 4294967296 := HE.1
          have hcv : ((G : Int) - 1) % 4294967296 = (G : Int) - 1 := by omega
          have HF : Hid (GuessIs (top * 4294967296 + u0) (v1 * 4294967296 + v0) (G - 1)) := ⟨HE.1, HE.2 u0, HP⟩
          clear HE HP
          go_wp2
          go_ret
          exact ⟨hkp.out, G - 1, by go_num, HF.out⟩
        · have hr1 : ((R : Int) + (v1 : Int)) / 4294967296 = 0 := by omega
          have HP : Hid (∀ h, G - 1 < h → h < 4294967296 → top * 4294967296 + u0 < h * (v1 * 4294967296 + v0)) := guess_less HS.out.2 (.inl hG)
          go_wp2
          go_roundw
          case rel => exact ⟨G - 1, R + v1, by go_num, by go_num, by omega, by omega, hc0, ⟨guess_dec hG1 HS.out.1, HP.out⟩, hkp.out⟩
          case measure => simp [intOf]; omega
    · have hq1 : (G : Int) / 4294967296 = 0 := by omega
      obtain ⟨m, hm⟩ : ∃ m, m = G * v0 := ⟨_, rfl⟩
      have hmb : m ≤ 4294967295 * 4294967295 := by rw [hm]; exact Nat.mul_le_mul (by omega) (by omega)
      have hmi : (G : Int) * (v0 : Int) = (m : Int) := by rw [hm]; simp
      have hwm : IntKind.u64.wrap (m : Int) = (m : Int) := by rw [IntKind.wrap_u64]; omega
      have HM : Hid (m = G * v0) := hm
      clear hm
      by_cases hgt : R * 4294967296 + u0 < m
      · have hG1 : 1 ≤ G := by
          rcases Nat.eq_zero_or_pos G with h | h
          · have := HM.out; rw [h, Nat.zero_mul] at this; omega
          · exact h
        have hgi : (R : Int) * 4294967296 + (u0 : Int) < (m : Int) := by omega
        have HW : Hid (top * 4294967296 + u0 < G * (v1 * 4294967296 + v0)) := by
          exact Nat.lt_of_not_le (mt (guess_test (v0 := v0) (u0 := u0) HS.out.1).1 (by rw [← HM.out]; exact Nat.not_le_of_lt hgt))
        have hw1 : IntKind.u64.wrap ((G : Int) - 1) = (G : Int) - 1 := by rw [IntKind.wrap_u64]; omega
        have hw2 : IntKind.u64.wrap ((R : Int) + (v1 : Int)) = (R : Int) + (v1 : Int) := by rw [IntKind.wrap_u64]; omega
        by_cases hbr : 4294967296 ≤ R + v1
        · have hr1 : ((R : Int) + (v1 : Int)) / 4294967296 = 1 := by omega
          have HE := guess_break hG1 hR f1 f0 htop HS.out.1 hbr
          have HP := guess_less HS.out.2 (.inr HW.out)
          have hlt : G - 1 < 4294967296 := HE.1
          have hcv : ((G : Int) - 1) % 4294967296 = (G : Int) - 1 := by omega
          have HF : Hid (GuessIs (top * 4294967296 + u0) (v1 * 4294967296 + v0) (G - 1)) := ⟨HE.1, HE.2 u0, HP⟩
          clear HE HP
          go_wp2
          go_ret
          exact ⟨hkp.out, G - 1, by go_num, HF.out⟩
        · have hr1 : ((R : Int) + (v1 : Int)) / 4294967296 = 0 := by omega
          have HP : Hid (∀ h, G - 1 < h → h < 4294967296 → top * 4294967296 + u0 < h * (v1 * 4294967296 + v0)) := guess_less HS.out.2 (.inr HW.out)
          go_wp2
          go_roundw
          case rel => exact ⟨G - 1, R + v1, by go_num, by go_num, by omega, by omega, hc0, ⟨guess_dec hG1 HS.out.1, HP.out⟩, hkp.out⟩
          case measure => simp [intOf]; omega
      · have hgi : (m : Int) ≤ (R : Int) * 4294967296 + (u0 : Int) := by omega
        have hcv : (G : Int) % 4294967296 = (G : Int) := by omega
        have HF : Hid (GuessIs (top * 4294967296 + u0) (v1 * 4294967296 + v0) G) := ⟨by omega, (guess_test HS.out.1).2 (by rw [← HM.out]; omega), HS.out.2⟩
        go_wp2
        go_ret
        exact ⟨hkp.out, G, by go_num, HF.out⟩

end Go.Proofs.YthijnnififodjaaDoor
