/- The sum of two magnitudes. -/
import Derived.Test.YthijnnififodjaaDoorTrim
namespace Go.Proofs.YthijnnififodjaaDoor
open Go.RowKit

theorem sum_step {a b p : List Nat} {k c x y s : Nat} (hx : x = a.getD k 0) (hy : y = b.getD k 0) (hs : s = c + (x + y)) (hp : p.length = k)
    (h : M.val p + 4294967296 ^ k * c = M.val (a.take k) + M.val (b.take k)) :
    M.val (p ++ [s % 4294967296]) + 4294967296 ^ (k + 1) * (s / 4294967296) = M.val (a.take (k + 1)) + M.val (b.take (k + 1)) := by
  rw [M.val_snoc, hp, M.take_succ_getD, M.take_succ_getD, ← hx, ← hy, Nat.pow_succ, Nat.mul_assoc]
  have e : 4294967296 ^ k * (s % 4294967296) + 4294967296 ^ k * (4294967296 * (s / 4294967296)) = 4294967296 ^ k * s := by
    rw [← Nat.mul_add]; congr 1; omega
  have e2 : 4294967296 ^ k * s = 4294967296 ^ k * c + 4294967296 ^ k * x + 4294967296 ^ k * y := by rw [hs, Nat.mul_add, Nat.mul_add]; omega
  omega

set_option maxHeartbeats 1000000 in
theorem sum_ge (va vb : Value) (a b : List Nat) (w : World) (ha : Sl w va a) (hb : Sl w vb b) (hla : a.length ≤ 1000) (hlb : b.length ≤ 1000) (hc : b.length ≤ a.length) :
    Calls Tryd.prog 63 #[va, vb] w fun e w' => Kept w w' ∧ ∃ v' l', e = .returned v' ∧ New w.heap.size w' v' l' ∧ M.Tr l' ∧ M.val l' = M.val a + M.val b ∧ l'.length ≤ 2000 := by
  have ha' := ha
  have hb' := hb
  obtain ⟨bda, aoa, capa, rfl, hxa⟩ := ha
  obtain ⟨bdb, aob, capb, rfl, hxb⟩ := hb
  have HX : Hid (_) := hxa
  have HY : Hid (Sl w (.slice aob b.length capb) b) := hb'
  clear hxa hxb ha' hb'
  have hmk : ∀ w : World, (Instr.makeSlice 22 (.int .i64 ((a.length : Int) + 1)) (.int .i64 ((a.length : Int) + 1))).run Tryd.prog w = .ok (.slice (some ⟨w.heap.size, 0, none⟩) (a.length + 1) (a.length + 1)) (w.alloc (.cells (madeCells #[.int .u32 0] (a.length + 1)) 43)) := fun w => by
    have h := make_limbs (a.length + 1) (by omega) w
    rwa [show ((a.length + 1 : Nat) : Int) = (a.length : Int) + 1 by omega] at h
  go_enter Tryd.func63, Tryd.ntmps63
  go_wp2
  go_loopw [6, 21] (fun vc vi wr => ∃ (k c : Nat) (p : List Nat), k ≤ a.length ∧ c ≤ 1 ∧ vi = .int .i64 k ∧ vc = .int .u64 c ∧ Hid (p.length = k ∧ M.Bd p ∧ M.val p + 4294967296 ^ k * c = M.val (a.take k) + M.val (b.take k)) ∧
      Hid (wr.rowIs w.heap.size 43 (a.length + 1) (fun j => .int .u32 ((p.getD j 0 : Nat) : Int))) ∧ Hid (Kept w wr)) (fun _ vi _ => a.length - (intOf vi).toNat)
  case atStart => exact ⟨0, 0, [], Nat.zero_le _, by omega, rfl, rfl, ⟨rfl, M.Bd_nil, by simp [M.val]⟩, row_made w _, (Kept.refl w).alloc _⟩
  case round =>
    obtain ⟨k, c, p, hk, hc1, rfl, rfl, hp, hrow, hkept⟩ := hrel
    have hf : wr.frozen? ⟨w.heap.size, k, none⟩ = false := hrow.out.frozen _
    have hco : k ≤ a.length → wr.cell? ⟨w.heap.size, k, none⟩ = some (.int .u32 ((p.getD k 0 : Nat) : Int)) := fun h => hrow.out.cell (by omega)
    obtain ⟨z, hz⟩ : ∃ z : Int, z = ((p.getD k 0 : Nat) : Int) := ⟨_, rfl⟩
    rw [← hz] at hco
    clear hz
    by_cases hlt : k < a.length
    · obtain ⟨hcap, bx, ox, rfl, hbx, hcx⟩ := HX.out (by omega)
      have hck : wr.cell? ⟨bx, ox + k, none⟩ = some (.int .u32 ((a.getD k 0 : Nat) : Int)) := (hkept.out.cell (p := ⟨bx, ox + k, none⟩) hbx).trans (hcx k hlt)
      clear hcx
      have hxb := bda.getD k
      have hyb := bdb.getD k
      have hcall : ∀ n, Calls Tryd.prog 72 #[.slice aob b.length capb, .int .i64 k] (wr.drewN n) fun e w' => e = .returned (.int .u64 ((b.getD k 0 : Nat) : Int)) ∧ w' = wr.drewN n := fun n => by
        have h := limbAt_any (wr.drewN n) ((HY.out.kept hkept.out).drewN n) (k : Int) (by omega) (by omega)
        rwa [Int.toNat_natCast] at h
      obtain ⟨x, hx⟩ : ∃ x, x = a.getD k 0 := ⟨_, rfl⟩
      obtain ⟨y, hy⟩ : ∃ y, y = b.getD k 0 := ⟨_, rfl⟩
      rw [← hx] at hck hxb
      rw [← hy] at hyb
      have HC : Hid (∀ n, Calls Tryd.prog 72 #[.slice aob b.length capb, .int .i64 k] (wr.drewN n) fun e w' => e = .returned (.int .u64 (y : Int)) ∧ w' = wr.drewN n) := by rw [hy]; exact hcall
      have HXe : Hid (x = a.getD k 0) := hx
      have HYe : Hid (y = b.getD k 0) := hy
      clear hx hy hcall
      have hco' := hco (by omega)
      clear hco
      go_wp2
      go_quiet ((go_at_call 72; exact Calls.quiet_of_same (HC.out _)))
      go_wp2
      go_roundw
      case rel =>
        refine ⟨k + 1, (c + (x + y)) / 4294967296, p ++ [(c + (x + y)) % 4294967296], by omega, by omega, by go_num, ?_, ⟨by simp [hp.out.1], hp.out.2.1.snoc (Nat.mod_lt _ (by decide)), sum_step HXe.out HYe.out rfl hp.out.1 hp.out.2.2⟩, ?_, ?_⟩
        · go_num
        · exact row_snoc (hrow.out) k hp.out.1.symm _ _ (by omega)
        · exact (hkept.out.drewN nq).setCell (Nat.le_refl _) _
      case measure => simp [intOf]; omega
    · obtain rfl : k = a.length := by omega
      have hco' := hco (by omega)
      clear hco HX HY
      have hval := hp.out.2.2
      rw [List.take_length, List.take_of_length_le (by omega)] at hval
      have HV : Hid (M.val p + 4294967296 ^ a.length * c = M.val a + M.val b) := hval
      clear hval
      go_wp2_with fail
      have hrow2 := row_snoc hrow.out a.length hp.out.1.symm c c rfl
      have hk2 : Kept w (wr.setCell ⟨w.heap.size, a.length, none⟩ (.int .u32 (c : Int))) := hkept.out.setCell (Nat.le_refl _) _
      have hnew := New.of_row (n := a.length + 1) hrow2 (hp.out.2.1.snoc (by omega)) (by simp [hp.out.1]) (Nat.le_refl _) (Nat.le_refl _)
      refine (trim_new _ hnew (by simp [hp.out.1]; omega)).mono ?_
      rintro e w1 ⟨rfl, v', l', rfl, hn', ht', hv', hl'⟩
      have HK : Hid (Kept w (wr.setCell ⟨w.heap.size, a.length, none⟩ (.int .u32 (c : Int)))) := hk2
      have HN : Hid (New w.heap.size (wr.setCell ⟨w.heap.size, a.length, none⟩ (.int .u32 (c : Int))) v' l') := hn'
      have HR : Hid (M.Tr l' ∧ M.val l' = M.val a + M.val b ∧ l'.length ≤ 2000) := ⟨ht', by rw [hv', M.val_snoc, hp.out.1]; have := HV.out; omega, by simp [hp.out.1] at hl'; omega⟩
      clear hnew hrow2 hk2 hn' ht' hv' hl'
      go_wp2
      go_ret
      exact ⟨HK.out, v', l', rfl, HN.out, HR.out⟩
set_option maxHeartbeats 1000000 in
theorem sum_lt (va vb : Value) (a b : List Nat) (w : World) (ha : Sl w va a) (hb : Sl w vb b) (hla : a.length ≤ 1000) (hlb : b.length ≤ 1000) (hc : a.length < b.length) :
    Calls Tryd.prog 63 #[va, vb] w fun e w' => Kept w w' ∧ ∃ v' l', e = .returned v' ∧ New w.heap.size w' v' l' ∧ M.Tr l' ∧ M.val l' = M.val a + M.val b ∧ l'.length ≤ 2000 := by
  have ha' := ha
  have hb' := hb
  obtain ⟨bda, aoa, capa, rfl, hxa⟩ := ha
  obtain ⟨bdb, aob, capb, rfl, hxb⟩ := hb
  have HX : Hid (_) := hxb
  have HY : Hid (Sl w (.slice aoa a.length capa) a) := ha'
  clear hxa hxb ha' hb'
  have hmk : ∀ w : World, (Instr.makeSlice 22 (.int .i64 ((b.length : Int) + 1)) (.int .i64 ((b.length : Int) + 1))).run Tryd.prog w = .ok (.slice (some ⟨w.heap.size, 0, none⟩) (b.length + 1) (b.length + 1)) (w.alloc (.cells (madeCells #[.int .u32 0] (b.length + 1)) 43)) := fun w => by
    have h := make_limbs (b.length + 1) (by omega) w
    rwa [show ((b.length + 1 : Nat) : Int) = (b.length : Int) + 1 by omega] at h
  go_enter Tryd.func63, Tryd.ntmps63
  go_wp2
  go_loopw [6, 21] (fun vc vi wr => ∃ (k c : Nat) (p : List Nat), k ≤ b.length ∧ c ≤ 1 ∧ vi = .int .i64 k ∧ vc = .int .u64 c ∧ Hid (p.length = k ∧ M.Bd p ∧ M.val p + 4294967296 ^ k * c = M.val (b.take k) + M.val (a.take k)) ∧
      Hid (wr.rowIs w.heap.size 43 (b.length + 1) (fun j => .int .u32 ((p.getD j 0 : Nat) : Int))) ∧ Hid (Kept w wr)) (fun _ vi _ => b.length - (intOf vi).toNat)
  case atStart => exact ⟨0, 0, [], Nat.zero_le _, by omega, rfl, rfl, ⟨rfl, M.Bd_nil, by simp [M.val]⟩, row_made w _, (Kept.refl w).alloc _⟩
  case round =>
    obtain ⟨k, c, p, hk, hc1, rfl, rfl, hp, hrow, hkept⟩ := hrel
    have hf : wr.frozen? ⟨w.heap.size, k, none⟩ = false := hrow.out.frozen _
    have hco : k ≤ b.length → wr.cell? ⟨w.heap.size, k, none⟩ = some (.int .u32 ((p.getD k 0 : Nat) : Int)) := fun h => hrow.out.cell (by omega)
    obtain ⟨z, hz⟩ : ∃ z : Int, z = ((p.getD k 0 : Nat) : Int) := ⟨_, rfl⟩
    rw [← hz] at hco
    clear hz
    by_cases hlt : k < b.length
    · obtain ⟨hcap, bx, ox, rfl, hbx, hcx⟩ := HX.out (by omega)
      have hck : wr.cell? ⟨bx, ox + k, none⟩ = some (.int .u32 ((b.getD k 0 : Nat) : Int)) := (hkept.out.cell (p := ⟨bx, ox + k, none⟩) hbx).trans (hcx k hlt)
      clear hcx
      have hxb := bdb.getD k
      have hyb := bda.getD k
      have hcall : ∀ n, Calls Tryd.prog 72 #[.slice aoa a.length capa, .int .i64 k] (wr.drewN n) fun e w' => e = .returned (.int .u64 ((a.getD k 0 : Nat) : Int)) ∧ w' = wr.drewN n := fun n => by
        have h := limbAt_any (wr.drewN n) ((HY.out.kept hkept.out).drewN n) (k : Int) (by omega) (by omega)
        rwa [Int.toNat_natCast] at h
      obtain ⟨x, hx⟩ : ∃ x, x = b.getD k 0 := ⟨_, rfl⟩
      obtain ⟨y, hy⟩ : ∃ y, y = a.getD k 0 := ⟨_, rfl⟩
      rw [← hx] at hck hxb
      rw [← hy] at hyb
      have HC : Hid (∀ n, Calls Tryd.prog 72 #[.slice aoa a.length capa, .int .i64 k] (wr.drewN n) fun e w' => e = .returned (.int .u64 (y : Int)) ∧ w' = wr.drewN n) := by rw [hy]; exact hcall
      have HXe : Hid (x = b.getD k 0) := hx
      have HYe : Hid (y = a.getD k 0) := hy
      clear hx hy hcall
      have hco' := hco (by omega)
      clear hco
      go_wp2
      go_quiet ((go_at_call 72; exact Calls.quiet_of_same (HC.out _)))
      go_wp2
      go_roundw
      case rel =>
        refine ⟨k + 1, (c + (x + y)) / 4294967296, p ++ [(c + (x + y)) % 4294967296], by omega, by omega, by go_num, ?_, ⟨by simp [hp.out.1], hp.out.2.1.snoc (Nat.mod_lt _ (by decide)), sum_step HXe.out HYe.out rfl hp.out.1 hp.out.2.2⟩, ?_, ?_⟩
        · go_num
        · exact row_snoc (hrow.out) k hp.out.1.symm _ _ (by omega)
        · exact (hkept.out.drewN nq).setCell (Nat.le_refl _) _
      case measure => simp [intOf]; omega
    · obtain rfl : k = b.length := by omega
      have hco' := hco (by omega)
      clear hco HX HY
      have hval := hp.out.2.2
      rw [List.take_length, List.take_of_length_le (by omega)] at hval
      have HV : Hid (M.val p + 4294967296 ^ b.length * c = M.val b + M.val a) := hval
      clear hval
      go_wp2_with fail
      have hrow2 := row_snoc hrow.out b.length hp.out.1.symm c c rfl
      have hk2 : Kept w (wr.setCell ⟨w.heap.size, b.length, none⟩ (.int .u32 (c : Int))) := hkept.out.setCell (Nat.le_refl _) _
      have hnew := New.of_row (n := b.length + 1) hrow2 (hp.out.2.1.snoc (by omega)) (by simp [hp.out.1]) (Nat.le_refl _) (Nat.le_refl _)
      refine (trim_new _ hnew (by simp [hp.out.1]; omega)).mono ?_
      rintro e w1 ⟨rfl, v', l', rfl, hn', ht', hv', hl'⟩
      have HK : Hid (Kept w (wr.setCell ⟨w.heap.size, b.length, none⟩ (.int .u32 (c : Int)))) := hk2
      have HN : Hid (New w.heap.size (wr.setCell ⟨w.heap.size, b.length, none⟩ (.int .u32 (c : Int))) v' l') := hn'
      have HR : Hid (M.Tr l' ∧ M.val l' = M.val a + M.val b ∧ l'.length ≤ 2000) := ⟨ht', by rw [hv', M.val_snoc, hp.out.1]; have := HV.out; omega, by simp [hp.out.1] at hl'; omega⟩
      clear hnew hrow2 hk2 hn' ht' hv' hl'
      go_wp2
      go_ret
      exact ⟨HK.out, v', l', rfl, HN.out, HR.out⟩

theorem sum_any (va vb : Value) (a b : List Nat) (w : World) (ha : Sl w va a) (hb : Sl w vb b) (hla : a.length ≤ 1000) (hlb : b.length ≤ 1000) :
    Calls Tryd.prog 63 #[va, vb] w fun e w' => Kept w w' ∧ ∃ v' l', e = .returned v' ∧ New w.heap.size w' v' l' ∧ M.Tr l' ∧ M.val l' = M.val a + M.val b ∧ l'.length ≤ 2000 := by
  by_cases h : b.length ≤ a.length
  · exact sum_ge va vb a b w ha hb hla hlb h
  · exact sum_lt va vb a b w ha hb hla hlb (by omega)

end Go.Proofs.YthijnnififodjaaDoor
