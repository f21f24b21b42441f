/- The difference of two magnitudes, the first not below the second. -/
import Derived.Test.YthijnnififodjaaDoorTrim
namespace Go.Proofs.YthijnnififodjaaDoor
open Go.RowKit

theorem sub_wraps (x y c : Nat) (hx : x < 4294967296) (hy : y < 4294967296) (hc : c ≤ 1) :
    IntKind.u64.wrap (IntKind.u64.wrap ((x : Int) - y) - c) / 9223372036854775808 = ((if y + c ≤ x then 0 else 1 : Nat) : Int) ∧
    IntKind.u64.wrap (IntKind.u64.wrap ((x : Int) - y) - c) % 4294967296 = ((if y + c ≤ x then x - y - c else x + 4294967296 - y - c : Nat) : Int) := by
  rw [u64_wrap, u64_wrap]
  split <;> constructor <;> omega

theorem diff_step {a b p : List Nat} {k c x y : Nat} (hx : x = a.getD k 0) (hy : y = b.getD k 0) (hxb : x < 4294967296) (hyb : y < 4294967296) (hc : c ≤ 1) (hp : p.length = k)
    (h : M.val (a.take k) + 4294967296 ^ k * c = M.val p + M.val (b.take k)) :
    M.val (a.take (k + 1)) + 4294967296 ^ (k + 1) * (if y + c ≤ x then 0 else 1) = M.val (p ++ [if y + c ≤ x then x - y - c else x + 4294967296 - y - c]) + M.val (b.take (k + 1)) := by
  rw [M.val_snoc, hp, M.take_succ_getD, M.take_succ_getD, ← hx, ← hy, Nat.pow_succ, Nat.mul_assoc]
  generalize 4294967296 ^ k = P at *
  split
  · have e : P * x = P * (x - y - c) + P * y + P * c := by rw [← Nat.mul_add, ← Nat.mul_add]; congr 1; omega
    omega
  · have e : P * x + P * (4294967296 * 1) = P * (x + 4294967296 - y - c) + P * y + P * c := by rw [← Nat.mul_add, ← Nat.mul_add, ← Nat.mul_add]; congr 1; omega
    omega

set_option maxHeartbeats 1000000 in
theorem difference_any (va vb : Value) (a b : List Nat) (w : World) (ha : Sl w va a) (hb : Sl w vb b) (hla : a.length ≤ 1000) (hlb : b.length ≤ 1000) (hc : M.val b ≤ M.val a) (hlen : b.length ≤ a.length) :
    Calls Tryd.prog 64 #[va, vb] w fun e w' => Kept w w' ∧ ∃ v' l', e = .returned v' ∧ New w.heap.size w' v' l' ∧ M.Tr l' ∧ M.val l' = M.val a - M.val b ∧ l'.length ≤ a.length := by
  have hb' := hb
  obtain ⟨bda, aoa, capa, rfl, hxa⟩ := ha
  obtain ⟨bdb, aob, capb, rfl, hxb⟩ := hb
  have HX : Hid (_) := hxa
  have HY : Hid (Sl w (.slice aob b.length capb) b) := hb'
  have HCV : Hid (M.val b ≤ M.val a) := hc
  clear hxa hxb hb' hc
  have hmk : ∀ w : World, (Instr.makeSlice 22 (.int .i64 (a.length : Int)) (.int .i64 (a.length : Int))).run Tryd.prog w = .ok (.slice (some ⟨w.heap.size, 0, none⟩) a.length a.length) (w.alloc (.cells (madeCells #[.int .u32 0] a.length) 43)) := fun w => make_limbs a.length (by omega) w
  go_enter Tryd.func64, Tryd.ntmps64
  go_wp2
  go_loopw [6, 14] (fun vc vi wr => ∃ (k c : Nat) (p : List Nat), k ≤ a.length ∧ c ≤ 1 ∧ vi = .int .i64 k ∧ vc = .int .u64 c ∧ Hid (p.length = k ∧ M.Bd p ∧ M.val (a.take k) + 4294967296 ^ k * c = M.val p + M.val (b.take k)) ∧
      Hid (wr.rowIs w.heap.size 43 a.length (fun j => .int .u32 ((p.getD j 0 : Nat) : Int))) ∧ Hid (Kept w wr)) (fun _ vi _ => a.length - (intOf vi).toNat)
  case atStart => exact ⟨0, 0, [], Nat.zero_le _, by omega, rfl, rfl, ⟨rfl, M.Bd_nil, by simp [M.val]⟩, row_made w _, (Kept.refl w).alloc _⟩
  case round =>
    obtain ⟨k, c, p, hk, hc1, rfl, rfl, hp, hrow, hkept⟩ := hrel
    by_cases hlt : k < a.length
    · obtain ⟨hcap, bx, ox, rfl, hbx, hcx⟩ := HX.out (by omega)
      have hf : wr.frozen? ⟨w.heap.size, k, none⟩ = false := hrow.out.frozen _
      have hco : wr.cell? ⟨w.heap.size, k, none⟩ = some (.int .u32 ((p.getD k 0 : Nat) : Int)) := hrow.out.cell (by omega)
      obtain ⟨z, hz⟩ : ∃ z : Int, z = ((p.getD k 0 : Nat) : Int) := ⟨_, rfl⟩
      rw [← hz] at hco
      clear hz
      have hck : wr.cell? ⟨bx, ox + k, none⟩ = some (.int .u32 ((a.getD k 0 : Nat) : Int)) := (hkept.out.cell (p := ⟨bx, ox + k, none⟩) hbx).trans (hcx k hlt)
      clear hcx
      have hxb := bda.getD k
      have hyb := bdb.getD k
      have hcall : ∀ n, Calls Tryd.prog 72 #[.slice aob b.length capb, .int .i64 k] (wr.drewN n) fun e w' => e = .returned (.int .u64 ((b.getD k 0 : Nat) : Int)) ∧ w' = wr.drewN n := fun n => by
        have h := limbAt_any (wr.drewN n) ((HY.out.kept hkept.out).drewN n) (k : Int) (by omega) (by omega)
        rwa [Int.toNat_natCast] at h
      obtain ⟨x, hx⟩ : ∃ x, x = a.getD k 0 := ⟨_, rfl⟩
      obtain ⟨y, hy⟩ : ∃ y, y = b.getD k 0 := ⟨_, rfl⟩
      rw [← hx] at hck hxb
      rw [← hy] at hyb
      have HC : Hid (∀ n, Calls Tryd.prog 72 #[.slice aob b.length capb, .int .i64 k] (wr.drewN n) fun e w' => e = .returned (.int .u64 (y : Int)) ∧ w' = wr.drewN n) := by rw [hy]; exact hcall
      have HXe : Hid (x = a.getD k 0) := hx
      have HYe : Hid (y = b.getD k 0) := hy
      clear hx hy hcall
      go_wp2
      go_quiet ((go_at_call 72; exact Calls.quiet_of_same (HC.out _)))
      go_wp2
      go_roundw
      case rel =>
        have hw := sub_wraps x y c hxb hyb hc1
        refine ⟨k + 1, if y + c ≤ x then 0 else 1, p ++ [if y + c ≤ x then x - y - c else x + 4294967296 - y - c], by omega, by split <;> omega, by go_num, by rw [hw.1],
          ⟨by simp [hp.out.1], hp.out.2.1.snoc (by split <;> omega), diff_step HXe.out HYe.out hxb hyb hc1 hp.out.1 hp.out.2.2⟩, row_snoc (hrow.out) k hp.out.1.symm _ _ hw.2, (hkept.out.drewN nq).setCell (Nat.le_refl _) _⟩
      case measure => simp [intOf]; omega
    · obtain rfl : k = a.length := by omega
      have hval := hp.out.2.2
      rw [List.take_length, List.take_of_length_le (by omega)] at hval
      have hlt2 := M.val_lt hp.out.2.1
      rw [hp.out.1] at hlt2
      have hc0 : c = 0 := by
        have hcv := HCV.out
        rcases Nat.lt_or_ge 0 c with h | h
        · have e : c = 1 := by omega
          rw [e] at hval
          omega
        · omega
      rw [hc0] at hval
      have hnew := New.of_row (n := a.length) hrow.out hp.out.2.1 hp.out.1.symm (Nat.le_refl _) (Nat.le_refl w.heap.size)
      have HN0 : Hid (New w.heap.size wr (.slice (some ⟨w.heap.size, 0, none⟩) a.length a.length) p) := hnew
      have HV : Hid (M.val a = M.val p + M.val b) := by
        show M.val a = M.val p + M.val b
        simpa using hval
      have HB : Hid (p.length ≤ a.length) := by rw [hp.out.1]; exact Nat.le_refl _
      clear HX HY hval hlt2 hnew hc0
      go_wp2_with fail
      refine (trim_new _ HN0.out (by have := HB.out; omega)).mono ?_
      rintro e w1 ⟨rfl, v', l', rfl, hn', ht', hv', hl'⟩
      have HN : Hid (New w.heap.size w1 v' l') := hn'
      have HR : Hid (M.Tr l' ∧ M.val l' = M.val a - M.val b ∧ l'.length ≤ a.length) := ⟨ht', by rw [hv', HV.out]; omega, Nat.le_trans hl' HB.out⟩
      clear hn' ht' hv' hl'
      go_wp2
      go_ret
      exact ⟨hkept.out, v', l', rfl, HN.out, HR.out⟩

end Go.Proofs.YthijnnififodjaaDoor
