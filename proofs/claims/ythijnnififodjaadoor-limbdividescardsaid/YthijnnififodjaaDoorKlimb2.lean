/- takeLimb of limb: one limb of a quotient: the walk. -/
import Derived.Test.YthijnnififodjaaDoorKlimb
namespace Go.Proofs.YthijnnififodjaaDoor
open Go.RowKit

/-- The guess for the limbs of q by the limbs of d. -/
def GuessOf (q d : List Nat) (g : Nat) : Prop := GuessIs ((q.getD d.length 0 * 4294967296 + q.getD (d.length - 1) 0) * 4294967296 + q.getD (d.length - 2) 0) (d.getD (d.length - 1) 0 * 4294967296 + d.getD (d.length - 2) 0) g

theorem GuessOf.lt {q d : List Nat} {g : Nat} (h : GuessOf q d g) : g < 4294967296 := h.1

theorem guess_at (b i cap : Nat) (q d : List Nat) (bd od capd : Nat) (w : World) (hq : Sl w (.slice (some ⟨b, i, none⟩) q.length cap) q) (hd : Sl w (.slice (some ⟨bd, od, none⟩) d.length capd) d) (hql : q.length = d.length + 1) (hn : 2 ≤ d.length) (hl : d.length ≤ 1000)
    (hv : 2147483648 ≤ d.getD (d.length - 1) 0) (htop : q.getD d.length 0 * 4294967296 + q.getD (d.length - 1) 0 < (d.getD (d.length - 1) 0 + 1) * 4294967296) :
    Calls Tryd.prog 78 #[.slice (some ⟨b, i, none⟩) q.length cap, .slice (some ⟨bd, od, none⟩) d.length capd] w fun e w' => Kept w w' ∧ ∃ g : Nat, e = .returned (.int .u32 (g : Int)) ∧ GuessOf q d g := by
  obtain ⟨m, hm⟩ : ∃ m, m = q.length := ⟨_, rfl⟩
  rw [← hm] at hq hql ⊢
  subst hql
  exact guess_any b i cap q d bd od capd d.length w hq hd hn hl hv htop

set_option maxRecDepth 100000 in
set_option maxHeartbeats 1000000 in
theorem takeLimb_any (b N i cap : Nat) (f : Nat → Value) (q d : List Nat) (bd od capd : Nat) (w : World) (hw : Win w b N i f q) (hd : Sl w (.slice (some ⟨bd, od, none⟩) d.length capd) d) (hne : bd ≠ b) (hcap : q.length ≤ cap) (hl : q.length ≤ 1000) (hql : q.length = d.length + 1) (hn : 2 ≤ d.length)
    (htop : 2147483648 ≤ d.getD (d.length - 1) 0) (hlt : M.val q < 4294967296 * M.val d) :
    Calls Tryd.prog 68 #[.slice (some ⟨b, i, none⟩) q.length cap, .slice (some ⟨bd, od, none⟩) d.length capd] w fun e w' => w.grownBy w' (some b) ∧ ∃ f' q', e = .returned (.int .u32 ((M.val q / M.val d : Nat) : Int)) ∧ Win w' b N i f' q' ∧ q'.length = q.length ∧ (∀ j, j < i ∨ i + q.length ≤ j → f' j = f j) ∧ M.val q' = M.val q % M.val d := by
  obtain ⟨ht2, hnear⟩ := limb_facts hw.bd hd.bd hql hn htop hlt
  have NEAR : Hid (∀ g, GuessOf q d g → 0 < M.val d ∧ M.val q / M.val d ≤ g ∧ g ≤ M.val q / M.val d + 1) := hnear
  have HDQ : Hid (M.val d ≤ 4294967296 ^ q.length) := Nat.le_trans (Nat.le_of_lt (M.val_lt hd.bd)) (Nat.pow_le_pow_right (by decide) (by omega))
  clear hnear
  have HG : Hid (Calls Tryd.prog 78 #[.slice (some ⟨b, i, none⟩) q.length cap, .slice (some ⟨bd, od, none⟩) d.length capd] w fun e w' => Kept w w' ∧ ∃ g : Nat, e = .returned (.int .u32 (g : Int)) ∧ GuessOf q d g) :=
    guess_at b i cap q d bd od capd w (hw.sl hcap) hd hql hn (by omega) htop ht2
  have HW : Hid (Win w b N i f q) := hw
  have HD : Hid (Sl w (.slice (some ⟨bd, od, none⟩) d.length capd) d) := hd
  obtain ⟨qv, hqv⟩ : ∃ qv, qv = M.val q / M.val d := ⟨_, rfl⟩
  rw [← hqv]
  have HQV : Hid (qv = M.val q / M.val d) := hqv
  have HL : Hid (q.length = d.length + 1 ∧ 2 ≤ d.length ∧ q.length ≤ 1000 ∧ q.length ≤ cap) := ⟨hql, hn, hl, hcap⟩
  clear hw hd hlt hqv htop ht2 hql hn hl hcap
  go_enter Tryd.func68, Tryd.ntmps68
  go_wp2_with fail
  refine HG.out.mono ?_
  rintro e w1 ⟨hk1, g, rfl, hgi⟩
  have hgB : g < 4294967296 := GuessOf.lt hgi
  have HN : Hid (0 < M.val d ∧ qv ≤ g ∧ g ≤ qv + 1) := by rw [HQV.out]; exact NEAR.out g hgi
  have HK1 : Hid (Kept w w1) := hk1
  clear hk1 hgi HG NEAR
  go_wp2_with fail
  refine (takeTimes_any b N i cap f q d g bd od capd _ (HW.out.kept HK1.out) (HD.out.kept HK1.out) hne HL.out.2.2.1 (by have := HL.out; omega) hgB).mono ?_
  rintro e w2 ⟨hgr2, bw, f2, q2, hbw, rfl, hw2, hl2, hf2, hv2⟩
  have HL2 : Hid (q2.length = q.length) := hl2
  clear hl2
  have H2 : Hid (w.grownBy w2 (some b) ∧ Win w2 b N i f2 q2 ∧ (∀ j, j < i ∨ i + q.length ≤ j → f2 j = f j) ∧ M.val q + 4294967296 ^ q.length * bw = M.val q2 + g * M.val d) := ⟨grown_trans (grown_kept HK1.out) hgr2, hw2, hf2, hv2⟩
  clear hgr2 hw2 hf2 hv2
  rcases (by omega : bw = 0 ∨ bw = 1) with rfl | rfl
  · go_wp2
    go_ret
    have h9 := H2.out.2.2.2
    rw [Nat.mul_zero, Nat.add_zero] at h9
    have h8 := HN.out
    rw [HQV.out] at h8
    obtain ⟨e1, e2⟩ := take_plain h8.1 h8.2.1 h9
    have e9 : g = qv := e1.trans HQV.out.symm
    exact ⟨H2.out.1, f2, q2, by rw [← e9]; rfl, H2.out.2.1, HL2.out, H2.out.2.2.1, e2⟩
  · go_wp2_with fail
    have hpb := putBack_any b N i cap f2 q2 d bd od capd w2 H2.out.2.1 (sl_grown HD.out H2.out.1 hne) hne (by rw [HL2.out]; exact HL.out.2.2.1) (by rw [HL2.out]; have := HL.out; omega)
    rw [HL2.out] at hpb
    refine hpb.mono ?_
    rintro e w3 ⟨hgr3, rfl, f3, q3, c, hw3, hl3, hf3, hv3⟩
    have h8 := HN.out
    rw [HQV.out] at h8
    have h9 := H2.out.2.2.2
    rw [Nat.mul_one] at h9
    have b2 := M.val_lt H2.out.2.1.bd
    have b3 := M.val_lt hw3.bd
    rw [HL2.out] at b2
    rw [hl3] at b3
    obtain ⟨k1, k2, k3⟩ := take_over h8.1 h8.2.2 b2 b3 HDQ.out h9 hv3
    rw [← HQV.out] at k2
    have H3 : Hid (w.grownBy w3 (some b) ∧ Win w3 b N i f3 q3 ∧ q3.length = q.length ∧ (∀ j, j < i ∨ i + q.length ≤ j → f3 j = f j) ∧ M.val q3 = M.val q % M.val d) := ⟨grown_trans H2.out.1 hgr3, hw3, hl3, fun j hj => (hf3 j hj).trans (H2.out.2.2.1 j hj), k3⟩
    have hwg : IntKind.u32.wrap ((g : Int) - 1) = (qv : Int) := by rw [IntKind.wrap_u32]; omega
    clear hgr3 hw3 hl3 hf3 hv3 h8 h9 b2 b3 k3 hpb
    go_wp2
    go_ret
    exact ⟨H3.out.1, f3, q3, by first | rfl | (congr 2; omega), H3.out.2⟩

end Go.Proofs.YthijnnififodjaaDoor
