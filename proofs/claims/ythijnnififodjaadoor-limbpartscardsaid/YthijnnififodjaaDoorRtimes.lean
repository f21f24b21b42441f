/- Times of package shuntref01: the product of two numbers. -/
import Derived.Test.YthijnnififodjaaDoorRsmall
import Derived.Test.YthijnnififodjaaDoorGa
namespace Go.Proofs.YthijnnififodjaaDoor
open Go.RowKit
namespace D

/-- One step of the inner loop, in numbers: V the value before, x the factor. -/
theorem prod_step {b o : List Nat} {V x y i j c s : Nat} (hy : y = b.getD j 0) (hm : i + j < o.length) (hs : s = o.getD (i + j) 0 + x * y + c)
    (h : D.val o + 65536 ^ (i + j) * c = V + x * (65536 ^ i * D.val (b.take j))) :
    D.val (o.set (i + j) (s % 65536)) + 65536 ^ (i + (j + 1)) * (s / 65536) = V + x * (65536 ^ i * D.val (b.take (j + 1))) := by
  have h1 := val_set o (i + j) (s % 65536) hm
  rw [D.take_succ_getD, ← hy, ← Nat.add_assoc, Nat.pow_succ, Nat.mul_assoc]
  have e1 : 65536 ^ (i + j) * (s % 65536) + 65536 ^ (i + j) * (65536 * (s / 65536)) = 65536 ^ (i + j) * s := by rw [← Nat.mul_add]; congr 1; omega
  have e2 : 65536 ^ (i + j) * s = 65536 ^ (i + j) * c + 65536 ^ (i + j) * (x * y) + 65536 ^ (i + j) * o.getD (i + j) 0 := by rw [hs, Nat.mul_add, Nat.mul_add]; omega
  have e3 : x * (65536 ^ i * (D.val (b.take j) + 65536 ^ j * y)) = x * (65536 ^ i * D.val (b.take j)) + 65536 ^ (i + j) * (x * y) := by
    rw [Nat.mul_add, Nat.mul_add, Nat.pow_add]
    congr 1
    rw [← Nat.mul_assoc (65536 ^ i), Nat.mul_left_comm]
  omega

/-- The end of one round of the outer loop. -/
theorem prod_round {a b o : List Nat} {x i c : Nat} (hx : x = a.getD i 0) (hm : i + b.length < o.length) (hz : o.getD (i + b.length) 0 = 0)
    (h : D.val o + 65536 ^ (i + b.length) * c = D.val (a.take i) * D.val b + x * (65536 ^ i * D.val (b.take b.length))) :
    D.val (o.set (i + b.length) c) = D.val (a.take (i + 1)) * D.val b := by
  have h1 := val_set o (i + b.length) c hm
  rw [hz] at h1
  rw [List.take_length] at h
  rw [D.take_succ_getD, ← hx, Nat.add_mul]
  have e : 65536 ^ i * x * D.val b = x * (65536 ^ i * D.val b) := by rw [Nat.mul_comm (65536 ^ i) x, Nat.mul_assoc]
  omega

theorem mul_bound {x y : Nat} (hx : x < 65536) (hy : y < 65536) : x * y ≤ 4294836225 := by
  have := Nat.mul_le_mul (Nat.le_of_lt_succ hx) (Nat.le_of_lt_succ hy)
  exact this

set_option maxRecDepth 100000 in
set_option maxHeartbeats 4000000 in
theorem Times_raw (m n : Bool) (aoa aob : Option Addr) (capa capb : Nat) (a b : List Nat) (w : World) (ha : Sl w (.slice aoa a.length capa) a) (hb : Sl w (.slice aob b.length capb) b) (hla : a.length ≤ 5000) (hlb : b.length ≤ 5000) :
    Calls Tryd.prog 31 #[.agg #[.bool m, .slice aoa a.length capa], .agg #[.bool n, .slice aob b.length capb]] w fun e w' => Kept w w' ∧ ∃ ao k cap l, e = .returned (.agg #[.bool ((m != n) && decide (0 < k)), .slice ao k cap]) ∧ Sl w' (.slice ao k cap) l ∧ D.Tr l ∧ D.val l = D.val a * D.val b ∧ l.length ≤ a.length + b.length := by
  have HA : Hid (Sl w (.slice aoa a.length capa) a) := ha
  have HB : Hid (Sl w (.slice aob b.length capb) b) := hb
  have bda := ha.bd
  have bdb := hb.bd
  have hmk : ∀ w : World, (Instr.makeSlice 48 (.int .i64 ((a.length : Int) + (b.length : Int))) (.int .i64 ((a.length : Int) + (b.length : Int)))).run Tryd.prog w = .ok (.slice (some ⟨w.heap.size, 0, none⟩) (a.length + b.length) (a.length + b.length)) (w.alloc (.cells (madeCells #[.int .i64 0] (a.length + b.length)) 3)) := fun w => by
    have h := make_digits (a.length + b.length) (by omega) w
    rwa [show ((a.length + b.length : Nat) : Int) = (a.length : Int) + (b.length : Int) by omega] at h
  clear ha hb
  go_enter Tryd.func31, Tryd.ntmps31
  go_wp2
  obtain ⟨W0, hW0⟩ : ∃ W0, W0 = (((w.alloc (Obj.cells #[.bool m, .slice aoa a.length capa] 50)).alloc (Obj.cells #[.bool n, .slice aob b.length capb] 50)).alloc (Obj.cells #[.bool false, .slice none 0 0] 50)) := ⟨_, rfl⟩
  have hsz : W0.heap.size = w.heap.size + 1 + 1 + 1 := by rw [hW0]; simp
  have HW : Hid (W0 = (((w.alloc (Obj.cells #[.bool m, .slice aoa a.length capa] 50)).alloc (Obj.cells #[.bool n, .slice aob b.length capb] 50)).alloc (Obj.cells #[.bool false, .slice none 0 0] 50))) := hW0
  have HSZ : Hid (W0.heap.size = w.heap.size + 1 + 1 + 1) := hsz
  have HKW : Hid (Kept w W0) := by
    show Kept w W0
    rw [hW0]; exact (((Kept.refl w).alloc _).alloc _).alloc _
  have HM0 : Hid ((W0.alloc (.cells (madeCells #[.int .i64 0] (a.length + b.length)) 3)).rowIs (w.heap.size + 1 + 1 + 1) 3 (a.length + b.length) (fun j => .int .i64 ((([] : List Nat).getD j 0 : Nat) : Int))) := by
    have := row_made W0 (a.length + b.length)
    rw [hsz] at this
    exact this
  have hBX : ∀ wr, Kept W0 wr → _ := fun wr hk => box_kept3 (hW0 ▸ hk)
  clear hsz
  go_loopw [6] (fun vi wr => ∃ (i : Nat) (o : List Nat), i ≤ a.length ∧ vi = .int .i64 i ∧ Hid (o.length = a.length + b.length ∧ D.Bd o ∧ (∀ j, i + b.length ≤ j → o.getD j 0 = 0) ∧ D.val o = D.val (a.take i) * D.val b) ∧
      Hid (wr.rowIs (w.heap.size + 1 + 1 + 1) 3 (a.length + b.length) (fun j => .int .i64 ((o.getD j 0 : Nat) : Int))) ∧ Hid (Kept W0 wr)) (fun vi _ => a.length - (intOf vi).toNat)
  case atStart =>
    rw [← hW0]
    refine ⟨0, List.replicate (a.length + b.length) 0, Nat.zero_le _, rfl, ⟨by simp, Bd_replicate _, fun j _ => ?_, by rw [val_replicate]; simp [D.val]⟩, HM0.out.congr (fun j _ => ?_), (Kept.refl W0).alloc _⟩
    · rw [List.getD_eq_getElem?_getD, List.getElem?_replicate]; split <;> rfl
    · rw [List.getD_eq_getElem?_getD, List.getD_eq_getElem?_getD, List.getElem?_replicate]; split <;> rfl
  case round =>
    clear hmk
    obtain ⟨i, o, hi, rfl, ho, hrow, hkept⟩ := hrel
    obtain ⟨hA0, hA1, hB0, hB1, hR0, hR1⟩ := hBX _ hkept.out
    have HBX : Hid (∀ wr, Kept W0 wr → _) := hBX
    clear hW0 hBX
    by_cases hlt : i < a.length
    · go_wp2
      go_loopw [7, 8] (fun vc vj wr2 => ∃ (j c : Nat) (o : List Nat), j ≤ b.length ∧ c ≤ 65535 ∧ vj = .int .i64 j ∧ vc = .int .i64 c ∧ Hid (o.length = a.length + b.length ∧ D.Bd o ∧ (∀ j, i + b.length ≤ j → o.getD j 0 = 0) ∧ D.val o + 65536 ^ (i + j) * c = D.val (a.take i) * D.val b + (a.getD i 0) * (65536 ^ i * D.val (b.take j))) ∧
          Hid (wr2.rowIs (w.heap.size + 1 + 1 + 1) 3 (a.length + b.length) (fun j => .int .i64 ((o.getD j 0 : Nat) : Int))) ∧ Hid (Kept W0 wr2)) (fun _ vj _ => b.length - (intOf vj).toNat)
      case atStart => exact ⟨0, 0, o, Nat.zero_le _, by omega, rfl, rfl, ⟨ho.out.1, ho.out.2.1, ho.out.2.2.1, by rw [ho.out.2.2.2]; simp [D.val]⟩, hrow.out, hkept.out⟩
      case round =>
        clear ho hrow hkept hA0 hA1 hB0 hB1 hR0 hR1
        obtain ⟨j, c, o, hj, hc, rfl, rfl, ho, hrow, hkept⟩ := hrel
        obtain ⟨hA0, hA1, hB0, hB1, hR0, hR1⟩ := HBX.out _ hkept.out
        by_cases hjl : j < b.length
        · obtain ⟨ba, oa, rfl, hcapa, hca⟩ := (HA.out.kept (HKW.out.trans hkept.out)).at hlt
          obtain ⟨bb, ob, rfl, hcapb, hcb⟩ := (HB.out.kept (HKW.out.trans hkept.out)).at hjl
          have hxb := bda.getD i
          obtain ⟨x, hx⟩ : ∃ x, x = a.getD i 0 := ⟨_, rfl⟩
          rw [← hx] at hca hxb
          have HX : Hid (x = a.getD i 0) := hx
          have hyb := bdb.getD j
          obtain ⟨y, hy⟩ : ∃ y, y = b.getD j 0 := ⟨_, rfl⟩
          rw [← hy] at hcb hyb
          have HY : Hid (y = b.getD j 0) := hy
          have hf : wr.frozen? ⟨w.heap.size + 1 + 1 + 1, i + j, none⟩ = false := hrow.out.frozen _
          have hco : wr.cell? ⟨w.heap.size + 1 + 1 + 1, i + j, none⟩ = some (.int .i64 ((o.getD (i + j) 0 : Nat) : Int)) := hrow.out.cell (by omega)
          have hzb := ho.out.2.1.getD (i + j)
          obtain ⟨z, hz⟩ : ∃ z, z = o.getD (i + j) 0 := ⟨_, rfl⟩
          rw [← hz] at hco hzb
          have HZ : Hid (z = o.getD (i + j) 0) := hz
          have hxy := mul_bound hxb hyb
          have hxy1 : (x : Int) * (y : Int) ≤ 4294836225 := by have := Int.ofNat_le.2 hxy; simpa using this
          have hxy0 : 0 ≤ (x : Int) * (y : Int) := by rw [← Int.natCast_mul]; exact Int.natCast_nonneg _
          clear hx hy hz hxy
          go_wp2
          go_quiet (fail)
          go_wp2
          go_roundw
          case rel =>
            have hxyn : x * y ≤ 4294836225 := mul_bound hxb hyb
            have hm : i + j < o.length := by rw [ho.out.1]; omega
            refine ⟨j + 1, (z + x * y + c) / 65536, o.set (i + j) ((z + x * y + c) % 65536), by omega, by omega, by go_num, ?_, ⟨by rw [List.length_set]; exact ho.out.1, Bd_set ho.out.2.1 _ _ (Nat.mod_lt _ (by decide)), fun j' hj' => ?_, ?_⟩,
              row_set hrow.out (i + j) hm _ _ (by simp), (hkept.out.drewN nq).setCell (by have := HSZ.out; simp; omega) _⟩
            · simp
            · rw [getD_set _ _ _ _ hm, if_neg (by omega)]; exact ho.out.2.2.1 j' hj'
            · have h := ho.out.2.2.2
              rw [← HX.out] at h ⊢
              exact prod_step HY.out hm (by rw [← HZ.out]) h
          case measure => simp [intOf]; omega
        · obtain rfl : j = b.length := by omega
          have hf : wr.frozen? ⟨w.heap.size + 1 + 1 + 1, i + b.length, none⟩ = false := hrow.out.frozen _
          have hz0 : o.getD (i + b.length) 0 = 0 := ho.out.2.2.1 _ (Nat.le_refl _)
          have hco : wr.cell? ⟨w.heap.size + 1 + 1 + 1, i + b.length, none⟩ = some (.int .i64 0) := by
            rw [hrow.out.cell (by omega), hz0]; rfl
          have hw1 : IntKind.i64.wrap ((i : Int) + (b.length : Int)) = (i : Int) + (b.length : Int) := (by rw [IntKind.wrap_i64]; omega)
          have hw2 : IntKind.i64.wrap (0 + (c : Int)) = c := by rw [IntKind.wrap_i64]; omega
          have hb1 : (0 : Int) ≤ (i : Int) + (b.length : Int) := by omega
          have hb2 : (i : Int) + (b.length : Int) < (a.length : Int) + (b.length : Int) := by omega
          have hb3 : ((i : Int) + (b.length : Int)).toNat = i + b.length := by omega
          have hb4 : i + b.length < a.length + b.length := by omega
          clear hz0
          go_wp2
          go_region
          go_wp2
          go_roundw
          case rel =>
            have hm : i + b.length < o.length := by rw [ho.out.1]; omega
            refine ⟨i + 1, o.set (i + b.length) c, by omega, by go_num, ⟨by rw [List.length_set]; exact ho.out.1, Bd_set ho.out.2.1 _ _ (by omega), fun j' hj' => ?_, prod_round rfl hm (ho.out.2.2.1 _ (Nat.le_refl _)) ho.out.2.2.2⟩, row_set hrow.out _ hm _ _ (by simp), hkept.out.drew.setCell (by have := HSZ.out; simp; omega) _⟩
            rw [getD_set _ _ _ _ hm, if_neg (by omega)]; exact ho.out.2.2.1 j' (by omega)
          case measure => simp [intOf]; omega
    · obtain rfl : i = a.length := by omega
      have hnew := New.of_row (n := a.length + b.length) hrow.out ho.out.2.1 ho.out.1.symm (Nat.le_refl _) (Nat.le_refl (w.heap.size + 1 + 1 + 1))
      have HN0 : Hid (Sl wr (.slice (some ⟨w.heap.size + 1 + 1 + 1, 0, none⟩) (a.length + b.length) (a.length + b.length)) o) := hnew.sl
      have HL : Hid (o.length = a.length + b.length) := ho.out.1
      have HV : Hid (D.val o = D.val a * D.val b) := by
        have := ho.out.2.2.2
        rw [List.take_length] at this
        exact this
      clear hnew
      go_wp2_with fail
      refine (trim_any _ HN0.out (by have := HL.out; omega)).mono ?_
      rintro e w1 ⟨rfl, v', l', rfl, hn', ht', hv', hl'⟩
      obtain ⟨hbd', ao', cap', rfl, hx'⟩ := hn'
      have HR : Hid (Sl w1 (.slice ao' l'.length cap') l' ∧ D.Tr l' ∧ D.val l' = D.val a * D.val b ∧ l'.length ≤ a.length + b.length) := ⟨⟨hbd', ao', cap', rfl, hx'⟩, ht', by rw [hv', HV.out], by rw [← HL.out]; exact hl'⟩
      clear hx' ht' hv' hl' hbd'
      have hll : l'.length ≤ 10000 := by have := HR.out.2.2.2; omega
      have hRf : ∀ o, w1.frozen? ⟨w.heap.size + 1 + 1, o, none⟩ = false := fun o => by rw [hkept.out.frozens _ _ (by rw [HSZ.out]; omega), HW.out]; exact World.frozen?_alloc_at _ _ _ _ (by simp)
      have HK : Hid (Kept w w1) := HKW.out.trans hkept.out
      rcases m with _ | _ <;> rcases n with _ | _
      all_goals
        go_wp2
        first
          | exact bodyPost_ret (v := .agg #[.bool false, .slice ao' l'.length cap']) (by simp [results, Tryd.results31, go_sem, hR0, hR1]) rfl ⟨(HK.out.setCell (by simp; omega) _).setCell (by simp; omega) _, ao', _, cap', l', rfl, HR.out.1.box hR0 hR1 _ _, HR.out.2⟩
          | exact bodyPost_ret (v := .agg #[.bool (decide (0 < l'.length)), .slice ao' l'.length cap']) (by simp [results, Tryd.results31, go_sem, hR0, hR1]) rfl ⟨(HK.out.setCell (by simp; omega) _).setCell (by simp; omega) _, ao', _, cap', l', by simp, HR.out.1.box hR0 hR1 _ _, HR.out.2⟩

end D
end Go.Proofs.YthijnnififodjaaDoor
