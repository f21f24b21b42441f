/- takeTimes of limb: a multiple taken off a window of a row, in place. -/
import Derived.Test.YthijnnififodjaaDoorKback
namespace Go.Proofs.YthijnnififodjaaDoor
open Go.RowKit

theorem and_low (s : Nat) (h : s < 18446744073709551616) : bits .and .u64 (s : Int) 4294967295 = ((s % 4294967296 : Nat) : Int) := by
  have h1 := bits_and_u64_nat s 4294967295 h (by omega)
  have h2 := Nat.and_two_pow_sub_one_eq_mod s 32
  rw [show (2 : Nat) ^ 32 = 4294967296 from rfl, show 4294967296 - 1 = 4294967295 from rfl] at h2
  rw [h2] at h1
  exact h1

theorem take_step {q o d : List Nat} {k c bw x y t s v bw' : Nat} (hk : k < q.length) (hol : o.length = q.length) (hx : x = q.getD k 0) (hy : y = d.getD k 0) (hs : s = c + y * t) (hv : x + 4294967296 * bw' = v + s % 4294967296 + bw)
    (h : M.val (q.take k) + 4294967296 ^ k * (bw + c) = M.val (o.take k) + t * M.val (d.take k)) :
    M.val (q.take (k + 1)) + 4294967296 ^ (k + 1) * (bw' + s / 4294967296) = M.val ((o.set k v).take (k + 1)) + t * M.val (d.take (k + 1)) := by
  rw [M.take_succ_getD, M.take_succ_getD, M.take_succ_getD, getD_set _ _ _ _ (by omega), if_pos rfl, List.take_set_of_le (by omega), ← hx, ← hy, Nat.pow_succ, Nat.mul_add t]
  have e := Nat.div_add_mod s 4294967296
  generalize 4294967296 ^ k = P at *
  have e1 : P * x + P * 4294967296 * (bw' + s / 4294967296) = P * (v + bw + s) := by
    rw [Nat.mul_assoc, ← Nat.mul_add]; congr 1; omega
  have e2 : P * (v + bw + s) = P * v + P * (bw + c) + t * (P * y) := by
    rw [hs, show v + bw + (c + y * t) = v + (bw + c) + y * t by omega, Nat.mul_add, Nat.mul_add, Nat.mul_comm y t, Nat.mul_left_comm]
  omega

theorem borrow_fact (x low bw : Nat) (hx : x < 4294967296) (hlow : low < 4294967296) (hbw : bw ≤ 1) : ∃ v bw' : Nat, v < 4294967296 ∧ bw' ≤ 1 ∧ x + 4294967296 * bw' = v + low + bw ∧ IntKind.u64.wrap (IntKind.u64.wrap ((x : Int) - (low : Int)) - (bw : Int)) / 9223372036854775808 = (bw' : Int) ∧ IntKind.u64.wrap (IntKind.u64.wrap ((x : Int) - (low : Int)) - (bw : Int)) % 4294967296 = (v : Int) := by
  by_cases h : low + bw ≤ x
  · exact ⟨x - low - bw, 0, by omega, by omega, by omega, by simp only [IntKind.wrap_u64]; omega, by simp only [IntKind.wrap_u64]; omega⟩
  · exact ⟨x + 4294967296 - low - bw, 1, by omega, by omega, by omega, by simp only [IntKind.wrap_u64]; omega, by simp only [IntKind.wrap_u64]; omega⟩

set_option maxRecDepth 100000 in
set_option maxHeartbeats 4000000 in
theorem takeTimes_any (b N i cap : Nat) (f : Nat → Value) (q d : List Nat) (t : Nat) (bd od capd : Nat) (w : World) (hw : Win w b N i f q) (hd : Sl w (.slice (some ⟨bd, od, none⟩) d.length capd) d) (hne : bd ≠ b) (hl : q.length ≤ 1000) (hdl : d.length < q.length) (ht : t < 4294967296) :
    Calls Tryd.prog 79 #[.slice (some ⟨b, i, none⟩) q.length cap, .slice (some ⟨bd, od, none⟩) d.length capd, .int .u32 (t : Int)] w fun e w' => w.grownBy w' (some b) ∧ ∃ (bw : Nat) (f' : Nat → Value) (q' : List Nat), bw ≤ 1 ∧ e = .returned (.bool (bw != 0)) ∧ Win w' b N i f' q' ∧ q'.length = q.length ∧ (∀ j, j < i ∨ i + q.length ≤ j → f' j = f j) ∧ M.val q + 4294967296 ^ q.length * bw = M.val q' + t * M.val d := by
  have HW : Hid (Win w b N i f q) := hw
  have HD : Hid (Sl w (.slice (some ⟨bd, od, none⟩) d.length capd) d) := hd
  have bdq := hw.bd
  have bdd := hd.bd
  have hbd1000 : d.length ≤ 1000000 := by omega
  clear hw hd
  go_enter Tryd.func79, Tryd.ntmps79
  go_wp2
  go_loopw [7, 8, 13] (fun vc vb vi wr => ∃ (k c bw : Nat) (o : List Nat), k ≤ q.length ∧ c < 4294967296 ∧ bw ≤ 1 ∧ vi = .int .i64 (k : Int) ∧ vc = .int .u64 (c : Int) ∧ vb = .int .u64 (bw : Int) ∧ Hid (o.length = q.length ∧ (∀ j, k ≤ j → o.getD j 0 = q.getD j 0) ∧ M.val (q.take k) + 4294967296 ^ k * (bw + c) = M.val (o.take k) + t * M.val (d.take k) ∧ (d.length < k → c = 0)) ∧
      Hid (∃ g, Win wr b N i g o ∧ ∀ j, j < i ∨ i + q.length ≤ j → g j = f j) ∧ Hid (w.grownBy wr (some b))) (fun _ _ vi _ => q.length - (intOf vi).toNat)
  case atStart => exact ⟨0, 0, 0, q, by omega, by omega, by omega, rfl, rfl, rfl, ⟨rfl, fun _ _ => rfl, by simp [M.val], fun _ => rfl⟩, ⟨f, HW.out, fun _ _ => rfl⟩, World.grownBy.refl _ _⟩
  case round =>
    obtain ⟨k, c, bw, o, hk, hc, hbw, rfl, rfl, rfl, ho, hwin, hgr⟩ := hrel
    obtain ⟨g, hg1, hg2⟩ := hwin.out
    by_cases hlt : k < q.length
    · have hck : wr.cell? ⟨b, i + k, none⟩ = some (.int .u32 ((q.getD k 0 : Nat) : Int)) := by
        rw [hg1.row.cell (by have := hg1.len; rw [ho.out.1] at this; omega), hg1.at_ k (by rw [ho.out.1]; exact hlt), ho.out.2.1 k (Nat.le_refl _)]
      have hfz : wr.frozen? ⟨b, i + k, none⟩ = false := hg1.row.frozen _
      have hxb := bdq.getD k
      have hyb := bdd.getD k
      have hcall : Calls Tryd.prog 72 #[.slice (some ⟨bd, od, none⟩) d.length capd, .int .i64 k] wr fun e w' => e = .returned (.int .u64 ((d.getD k 0 : Nat) : Int)) ∧ w' = wr := by
        have h := limbAt_any wr (sl_grown HD.out hgr.out hne) (k : Int) (by omega) (by omega)
        rwa [Int.toNat_natCast] at h
      have hy0 : d.length ≤ k → d.getD k 0 = 0 := fun h => by rw [List.getD_eq_getElem?_getD, List.getElem?_eq_none h]; rfl
      obtain ⟨x, hx⟩ : ∃ x, x = q.getD k 0 := ⟨_, rfl⟩
      obtain ⟨y, hy⟩ : ∃ y, y = d.getD k 0 := ⟨_, rfl⟩
      rw [← hx] at hck hxb
      rw [← hy] at hyb hy0
      have HC : Hid (Calls Tryd.prog 72 #[.slice (some ⟨bd, od, none⟩) d.length capd, .int .i64 k] wr fun e w' => e = .returned (.int .u64 (y : Int)) ∧ w' = wr) := by rw [hy]; exact hcall
      have HXY : Hid (x = q.getD k 0 ∧ y = d.getD k 0 ∧ (d.length ≤ k → y = 0)) := ⟨hx, hy, hy0⟩
      clear hx hy hcall hg1 hg2 hy0
      have hyt : y * t ≤ 4294967295 * 4294967295 := Nat.mul_le_mul (by omega) (by omega)
      obtain ⟨m, hm⟩ : ∃ m, m = y * t := ⟨_, rfl⟩
      rw [← hm] at hyt
      have hmi : (y : Int) * (t : Int) = (m : Int) := by rw [hm]; simp
      have hw1 : IntKind.u64.wrap (m : Int) = (m : Int) := by rw [IntKind.wrap_u64]; omega
      have hw2 : IntKind.u64.wrap ((c : Int) + (m : Int)) = (c : Int) + (m : Int) := by rw [IntKind.wrap_u64]; omega
      have hal := and_low (c + m) (by omega)
      rw [show ((c + m : Nat) : Int) = (c : Int) + (m : Int) by omega] at hal
      have HM : Hid (m = y * t) := hm
      clear hm
      go_wp2_with fail
      refine HC.out.mono ?_
      rintro e w9 ⟨rfl, rfl⟩
      go_wp2
      go_roundw
      case rel =>
        obtain ⟨g, hg1, hg2⟩ := hwin.out
        have hol := ho.out.1
        obtain ⟨v, bw', hv1, hv2, hv3, hv4, hv5⟩ := borrow_fact x ((c + m) % 4294967296) bw hxb (Nat.mod_lt _ (by decide)) hbw
        rw [show (((c + m) % 4294967296 : Nat) : Int) = ((c : Int) + (m : Int)) % 4294967296 by omega] at hv4 hv5
        refine ⟨k + 1, (c + m) / 4294967296, bw', o.set k v, by omega, by omega, hv2, by go_num, by simp, by rw [hv4], ⟨by rw [List.length_set]; exact hol, fun j hj => ?_, take_step hlt hol HXY.out.1 HXY.out.2.1 (by rw [HM.out]) hv3 ho.out.2.2.1, fun h => ?_⟩, ⟨_, hg1.set (by omega) hv1 _ hv5, fun j hj => ?_⟩, grown_set hgr.out _ _⟩
        · rw [getD_set _ _ _ _ (by omega), if_neg (by omega)]; exact ho.out.2.1 j (by omega)
        · have h3 : m = 0 := by rw [HM.out, HXY.out.2.2 (by omega), Nat.zero_mul]
          omega
        · rw [if_neg (by omega)]; exact hg2 j hj
      case measure => simp [intOf]; omega
    · obtain rfl : k = q.length := by omega
      have hc0 : c = 0 := ho.out.2.2.2 hdl
      subst hc0
      have HV : Hid (M.val q + 4294967296 ^ q.length * bw = M.val o + t * M.val d) := by
        have h9 := ho.out.2.2.1
        rw [List.take_of_length_le (l := o) (by rw [ho.out.1]; exact Nat.le_refl _), List.take_length, List.take_of_length_le (by omega), Nat.add_zero] at h9
        exact h9
      clear hg1 hg2
      rcases (by omega : bw = 0 ∨ bw = 1) with rfl | rfl
      all_goals
        go_wp2
        go_ret
        obtain ⟨g, hg1, hg2⟩ := hwin.out
        first | exact ⟨hgr.out, 0, hbw, rfl, g, o, hg1, ho.out.1, hg2, HV.out⟩ | exact ⟨hgr.out, 1, hbw, rfl, g, o, hg1, ho.out.1, hg2, HV.out⟩

end Go.Proofs.YthijnnififodjaaDoor
