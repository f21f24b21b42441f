/- shiftLeft of limb. -/
import Derived.Test.YthijnnififodjaaDoorKlimb2
namespace Go.Proofs.YthijnnififodjaaDoor
open Go.RowKit

theorem shl_step {a p : List Nat} {k c x S : Nat} (hp : p.length = k) (hx : x = a.getD k 0)
    (h : M.val p + 4294967296 ^ k * c = M.val (a.take k) * S) : M.val (p ++ [(c + x * S) % 4294967296]) + 4294967296 ^ (k + 1) * ((c + x * S) / 4294967296) = M.val (a.take (k + 1)) * S := by
  rw [M.val_snoc, M.take_succ_getD, ← hx, hp, Nat.pow_succ, Nat.mul_assoc, Nat.add_assoc, ← Nat.mul_add, Nat.mod_add_div, Nat.add_mul, ← h, Nat.mul_add, Nat.mul_assoc]
  omega

theorem shl_or {c x s S : Nat} (hS : S = 2 ^ s) (hs : s ≤ 31) (hc : c < S) (hx : x < 4294967296) : bits .or .u64 (c : Int) (IntKind.u64.wrap ((x : Int) * 2 ^ s)) = ((c + x * S : Nat) : Int) := by
  have h1 : S ≤ 2147483648 := by rw [hS]; exact Nat.le_trans (Nat.pow_le_pow_right (by decide) hs) (by decide)
  have h2 : x * S ≤ 4294967295 * 2147483648 := Nat.mul_le_mul (by omega) h1
  have h3 : (x : Int) * 2 ^ s = ((x * S : Nat) : Int) := by rw [hS]; simp
  have h4 : IntKind.u64.wrap ((x * S : Nat) : Int) = ((x * S : Nat) : Int) := by
    generalize x * S = y at *
    rw [IntKind.wrap_u64]; omega
  rw [h3, h4, bits_or_u64_nat c (x * S) (by omega) (by omega)]
  have h5 := Nat.two_pow_add_eq_or_of_lt (i := s) (b := c) (by rw [← hS]; exact hc) x
  rw [← hS, Nat.mul_comm S x, Nat.or_comm] at h5
  rw [← h5, Nat.add_comm]

set_option maxRecDepth 100000 in
set_option maxHeartbeats 2000000 in
theorem shiftLeft_any (ao : Option Addr) (cap : Nat) (a : List Nat) (s : Nat) (w : World) (ha : Sl w (.slice ao a.length cap) a) (hl : a.length ≤ 1000) (hs : s ≤ 31) :
    Calls Tryd.prog 67 #[.slice ao a.length cap, .int .i64 (s : Int)] w fun e w' => Kept w w' ∧ ∃ b N p, e = .returned (.slice (some ⟨b, 0, none⟩) (a.length + 1) N) ∧ New w.heap.size w' (.slice (some ⟨b, 0, none⟩) (a.length + 1) N) p ∧ p.length = a.length + 1 ∧ M.val p = M.val a * 2 ^ s := by
  have HA : Hid (Sl w (.slice ao a.length cap) a) := ha
  have bda := ha.bd
  clear ha
  have hmk : ∀ w : World, (Instr.makeSlice 22 (.int .i64 ((a.length : Int) + 1)) (.int .i64 ((a.length : Int) + 1))).run Tryd.prog w = .ok (.slice (some ⟨w.heap.size, 0, none⟩) (a.length + 1) (a.length + 1)) (w.alloc (.cells (madeCells #[.int .u32 0] (a.length + 1)) 43)) := fun w => by
    have h := make_limbs (a.length + 1) (by omega) w
    rwa [show ((a.length + 1 : Nat) : Int) = (a.length : Int) + 1 by omega] at h
  obtain ⟨S, hS⟩ : ∃ S, S = 2 ^ s := ⟨_, rfl⟩
  have HSS : Hid (S = 2 ^ s) := hS
  rw [← hS]
  clear hS
  go_enter Tryd.func67, Tryd.ntmps67
  go_wp2
  go_loopw [6, 15] (fun vc vi wr => ∃ (k c : Nat) (p : List Nat), k ≤ a.length ∧ c < S ∧ vi = .int .i64 k ∧ vc = .int .u64 c ∧ Hid (p.length = k ∧ M.Bd p ∧ M.val p + 4294967296 ^ k * c = M.val (a.take k) * S) ∧
      Hid (wr.rowIs w.heap.size 43 (a.length + 1) (fun j => .int .u32 ((p.getD j 0 : Nat) : Int))) ∧ Hid (Kept w wr)) (fun _ vi _ => a.length - (intOf vi).toNat)
  case atStart => exact ⟨0, 0, [], Nat.zero_le _, by rw [HSS.out]; exact Nat.two_pow_pos s, rfl, rfl, ⟨rfl, M.Bd_nil, by simp [M.val]⟩, row_made w _, (Kept.refl w).alloc _⟩
  case round =>
    obtain ⟨k, c, p, hk, hc1, rfl, rfl, hp, hrow, hkept⟩ := hrel
    have hf : wr.frozen? ⟨w.heap.size, k, none⟩ = false := hrow.out.frozen _
    have hco : wr.cell? ⟨w.heap.size, k, none⟩ = some (.int .u32 ((p.getD k 0 : Nat) : Int)) := hrow.out.cell (by omega)
    obtain ⟨z, hz⟩ : ∃ z : Int, z = ((p.getD k 0 : Nat) : Int) := ⟨_, rfl⟩
    rw [← hz] at hco
    clear hz
    by_cases hlt : k < a.length
    · obtain ⟨bx, ox, rfl, _, _, hck0⟩ : ∃ b off, ao = some ⟨b, off, none⟩ ∧ a.length ≤ cap ∧ b < w.heap.size ∧ w.cell? ⟨b, off + k, none⟩ = some (.int .u32 ((a.getD k 0 : Nat) : Int)) := by
        obtain ⟨_, ao', cap', he, hx⟩ := HA.out
        simp only [Value.slice.injEq] at he
        obtain ⟨rfl, _, rfl⟩ := he
        obtain ⟨h1, b, off, rfl, h2, hc⟩ := hx (by omega)
        exact ⟨b, off, rfl, h1, h2, hc k hlt⟩
      have hck := cell_kept hkept.out hck0
      have hxb := bda.getD k
      obtain ⟨x, hx⟩ : ∃ x, x = a.getD k 0 := ⟨_, rfl⟩
      rw [← hx] at hck hxb
      have HX : Hid (x = a.getD k 0) := hx
      clear hx hck0
      have hor := shl_or HSS.out hs hc1 hxb
      have HB : Hid (c + x * S < S * 4294967296) := by
        show _ < _
        have h1 : x * S ≤ 4294967295 * S := Nat.mul_le_mul_right _ (by omega)
        omega
      obtain ⟨t, ht⟩ : ∃ t, t = c + x * S := ⟨_, rfl⟩
      rw [← ht] at hor
      have HT : Hid (t = c + x * S) := ht
      clear ht
      go_wp2
      go_roundw
      case rel =>
        have hdv : t / 4294967296 < S := by rw [Nat.div_lt_iff_lt_mul (by decide), HT.out]; exact HB.out
        refine ⟨k + 1, t / 4294967296, p ++ [t % 4294967296], by omega, hdv, by go_num, by simp, ⟨by rw [List.length_append, hp.out.1]; rfl, hp.out.2.1.snoc (Nat.mod_lt _ (by decide)), ?_⟩, ?_, ?_⟩
        · rw [HT.out]; exact shl_step hp.out.1 HX.out hp.out.2.2
        · exact row_snoc (hrow.out) k hp.out.1.symm _ _ (by simp)
        · exact hkept.out.setCell (Nat.le_refl _) _
      case measure => simp [intOf]; omega
    · obtain rfl : k = a.length := by omega
      have hS31 : S ≤ 2147483648 := by rw [HSS.out]; exact Nat.le_trans (Nat.pow_le_pow_right (by decide) hs) (by decide)
      have hcm : (c : Int) % 4294967296 = (c : Int) := by omega
      have HV : Hid (M.val p + 4294967296 ^ a.length * c = M.val a * S) := by
        have h9 := hp.out.2.2
        rw [List.take_length] at h9
        exact h9
      go_wp2
      go_ret
      refine ⟨hkept.out.setCell (Nat.le_refl _) _, w.heap.size, a.length + 1, p ++ [c], rfl, New.of_row (row_snoc hrow.out a.length hp.out.1.symm c _ rfl) (hp.out.2.1.snoc (by omega)) (by rw [List.length_append, hp.out.1]; rfl) (Nat.le_refl _) (Nat.le_refl _), by rw [List.length_append, hp.out.1]; rfl, ?_⟩
      rw [M.val_snoc, hp.out.1]; exact HV.out

end Go.Proofs.YthijnnififodjaaDoor
