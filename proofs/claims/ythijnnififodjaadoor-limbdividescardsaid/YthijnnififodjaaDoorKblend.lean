/- blend of limb: a multiple less a multiple. -/
import Derived.Test.YthijnnififodjaaDoorKquo
import Derived.Test.YthijnnififodjaaDoorKword
namespace Go.Proofs.YthijnnififodjaaDoor
open Go.RowKit

set_option maxRecDepth 100000 in
set_option maxHeartbeats 4000000 in
theorem blend_any (n : Nat) (va vb : Value) (a b : List Nat) (p q : Nat) (w : World) (ha : Sl w va a) (hb : Sl w vb b) (hn : n ≤ 1000) (hla : a.length ≤ n) (hlb : b.length ≤ n) (hp : p < 4294967296) (hq : q < 4294967296) (hle : q * M.val b ≤ p * M.val a) (hlt : p * M.val a < q * M.val b + 4294967296 ^ n) :
    Calls Tryd.prog 71 #[.int .i64 (n : Int), va, .int .u64 (p : Int), vb, .int .u64 (q : Int)] w fun e w' => Kept w w' ∧ ∃ v' l', e = .returned v' ∧ New w.heap.size w' v' l' ∧ M.Tr l' ∧ M.val l' = p * M.val a - q * M.val b ∧ l'.length ≤ n := by
  have HA : Hid (Sl w va a) := ha
  have HB : Hid (Sl w vb b) := hb
  have bda := ha.bd
  have bdb := hb.bd
  have HE : Hid (q * M.val b ≤ p * M.val a ∧ p * M.val a < q * M.val b + 4294967296 ^ n) := ⟨hle, hlt⟩
  have HLN : Hid (a.length ≤ n ∧ b.length ≤ n) := ⟨hla, hlb⟩
  have hla' : a.length ≤ 1000000 := by omega
  have hlb' : b.length ≤ 1000000 := by omega
  have hmk := make_limbs n (by omega)
  clear ha hb hle hlt hla hlb
  go_enter Tryd.func71, Tryd.ntmps71
  go_wp2
  go_loopw [12, 13, 14, 21] (fun vu vd vb' vi wr => ∃ (k u d bw : Nat) (o : List Nat), k ≤ n ∧ u < 4294967296 ∧ d < 4294967296 ∧ bw ≤ 1 ∧ vi = .int .i64 (k : Int) ∧ vu = .int .u64 (u : Int) ∧ vd = .int .u64 (d : Int) ∧ vb' = .int .u64 (bw : Int) ∧
      Hid (o.length = k ∧ M.Bd o ∧ p * M.val (a.take k) + 4294967296 ^ k * (d + bw) = M.val o + q * M.val (b.take k) + 4294967296 ^ k * u) ∧
      Hid (wr.rowIs w.heap.size 43 n (fun j => .int .u32 ((o.getD j 0 : Nat) : Int))) ∧ Hid (Kept w wr)) (fun _ _ _ vi _ => n - (intOf vi).toNat)
  case atStart => exact ⟨0, 0, 0, 0, [], Nat.zero_le _, by omega, by omega, by omega, rfl, rfl, rfl, rfl, ⟨rfl, M.Bd_nil, by simp [M.val]⟩, row_made w _, (Kept.refl w).alloc _⟩
  case round =>
    obtain ⟨k, u, d, bw, o, hk, hu, hd, hbw, rfl, rfl, rfl, rfl, ho, hrow, hkept⟩ := hrel
    by_cases hlt : k < n
    · have hf : wr.frozen? ⟨w.heap.size, k, none⟩ = false := hrow.out.frozen _
      have hco : wr.cell? ⟨w.heap.size, k, none⟩ = some (.int .u32 ((o.getD k 0 : Nat) : Int)) := hrow.out.cell hlt
      obtain ⟨z, hz⟩ : ∃ z : Int, z = ((o.getD k 0 : Nat) : Int) := ⟨_, rfl⟩
      rw [← hz] at hco
      have hxb := bda.getD k
      have hyb := bdb.getD k
      have hca := limbAt_any wr (HA.out.kept hkept.out) (k : Int) (by omega) hla'
      have hcb := limbAt_any wr (HB.out.kept hkept.out) (k : Int) (by omega) hlb'
      rw [Int.toNat_natCast] at hca hcb
      obtain ⟨x, hx⟩ : ∃ x, x = a.getD k 0 := ⟨_, rfl⟩
      obtain ⟨y, hy⟩ : ∃ y, y = b.getD k 0 := ⟨_, rfl⟩
      rw [← hx] at hca hxb
      rw [← hy] at hcb hyb
      have HXY : Hid (x = a.getD k 0 ∧ y = b.getD k 0) := ⟨hx, hy⟩
      have CA : Hid (Calls Tryd.prog 72 #[va, .int .i64 (k : Int)] wr fun e w' => e = .returned (.int .u64 (x : Int)) ∧ w' = wr) := hca
      have CB : Hid (Calls Tryd.prog 72 #[vb, .int .i64 (k : Int)] wr fun e w' => e = .returned (.int .u64 (y : Int)) ∧ w' = wr) := hcb
      clear hx hy hca hcb hz
      have hpx : p * x ≤ 4294967295 * 4294967295 := Nat.mul_le_mul (by omega) (by omega)
      have hqy : q * y ≤ 4294967295 * 4294967295 := Nat.mul_le_mul (by omega) (by omega)
      obtain ⟨m1, hm1⟩ : ∃ m, m = p * x := ⟨_, rfl⟩
      obtain ⟨m2, hm2⟩ : ∃ m, m = q * y := ⟨_, rfl⟩
      rw [← hm1] at hpx
      rw [← hm2] at hqy
      have hmi1 : (p : Int) * (x : Int) = (m1 : Int) := by rw [hm1]; simp
      have hmi2 : (q : Int) * (y : Int) = (m2 : Int) := by rw [hm2]; simp
      have hw1 : IntKind.u64.wrap (m1 : Int) = (m1 : Int) := by rw [IntKind.wrap_u64]; omega
      have hw2 : IntKind.u64.wrap (m2 : Int) = (m2 : Int) := by rw [IntKind.wrap_u64]; omega
      have hw3 : IntKind.u64.wrap ((u : Int) + (m1 : Int)) = (u : Int) + (m1 : Int) := by rw [IntKind.wrap_u64]; omega
      have hw4 : IntKind.u64.wrap ((d : Int) + (m2 : Int)) = (d : Int) + (m2 : Int) := by rw [IntKind.wrap_u64]; omega
      have hal1 := and_low (u + m1) (by omega)
      rw [show ((u + m1 : Nat) : Int) = (u : Int) + (m1 : Int) by omega] at hal1
      have hal2 := and_low (d + m2) (by omega)
      rw [show ((d + m2 : Nat) : Int) = (d : Int) + (m2 : Int) by omega] at hal2
      have HM : Hid (m1 = p * x ∧ m2 = q * y) := ⟨hm1, hm2⟩
      clear hm1 hm2
      go_wp2_with fail
      refine CA.out.mono ?_
      rintro e w9 ⟨rfl, rfl⟩
      go_wp2_with fail
      refine CB.out.mono ?_
      rintro e w9 ⟨rfl, rfl⟩
      go_wp2
      go_roundw
      case rel =>
        obtain ⟨v, bw', hv1, hv2, hv3, hv4, hv5⟩ := borrow_fact ((u + m1) % 4294967296) ((d + m2) % 4294967296) bw (Nat.mod_lt _ (by decide)) (Nat.mod_lt _ (by decide)) hbw
        rw [show (((u + m1) % 4294967296 : Nat) : Int) = ((u : Int) + (m1 : Int)) % 4294967296 by omega, show (((d + m2) % 4294967296 : Nat) : Int) = ((d : Int) + (m2 : Int)) % 4294967296 by omega] at hv4 hv5
        refine ⟨k + 1, (u + m1) / 4294967296, (d + m2) / 4294967296, bw', o ++ [v], by omega, by omega, by omega, hv2, by go_num, by simp, by simp, by rw [hv4], ⟨by rw [List.length_append, ho.out.1]; rfl, ho.out.2.1.snoc hv1, ?_⟩, ?_, ?_⟩
        · exact blend_step ho.out.1 HXY.out.1 HXY.out.2 (by rw [HM.out.1]) (by rw [HM.out.2]) hv3 ho.out.2.2
        · exact row_snoc hrow.out k ho.out.1.symm v _ hv5
        · exact hkept.out.setCell (Nat.le_refl _) _
      case measure => simp [intOf]; omega
    · obtain rfl : k = n := by omega
      have hend : M.val o = p * M.val a - q * M.val b := by
        have h9 := ho.out.2.2
        rw [List.take_of_length_le (l := a) HLN.out.1, List.take_of_length_le (l := b) HLN.out.2] at h9
        have h8 := M.val_lt ho.out.2.1
        rw [ho.out.1] at h8
        exact blend_end h9 HE.out.1 HE.out.2 h8
      have HV : Hid (M.val o = p * M.val a - q * M.val b) := hend
      have HN : Hid (New w.heap.size wr (.slice (some ⟨w.heap.size, 0, none⟩) k k) o) := New.of_row hrow.out ho.out.2.1 ho.out.1.symm (Nat.le_refl _) (Nat.le_refl _)
      clear hend
      go_wp2_with fail
      refine (trim_new _ HN.out (by rw [ho.out.1]; omega)).mono ?_
      rintro e w5 ⟨rfl, vq, q', rfl, hq1, hq2, hq3, hq4⟩
      have HQ : Hid (New w.heap.size w5 vq q' ∧ M.Tr q' ∧ M.val q' = p * M.val a - q * M.val b ∧ q'.length ≤ k) := ⟨hq1, hq2, by rw [hq3]; exact HV.out, by rw [← ho.out.1]; exact hq4⟩
      clear hq1 hq2 hq3 hq4
      go_wp2
      go_ret
      exact ⟨hkept.out, vq, q', rfl, HQ.out⟩

end Go.Proofs.YthijnnififodjaaDoor
