/- putBack, takeTimes of limb: sums and differences in place, in a window of a row. -/
import Derived.Test.YthijnnififodjaaDoorLcom
namespace Go.Proofs.YthijnnififodjaaDoor
open Go.RowKit

/-- Limbs q lie in block b from i on, in a row of N cells. -/
structure Win (w : World) (b N i : Nat) (f : Nat → Value) (q : List Nat) : Prop where
  row : w.rowIs b 43 N f
  at_ : ∀ j, j < q.length → f (i + j) = .int .u32 ((q.getD j 0 : Nat) : Int)
  len : i + q.length ≤ N
  bd : M.Bd q

theorem sl_grown {w w' : World} {bd od n cap b : Nat} {d : List Nat} (h : Sl w (.slice (some ⟨bd, od, none⟩) n cap) d) (hg : w.grownBy w' (some b)) (hne : bd ≠ b) : Sl w' (.slice (some ⟨bd, od, none⟩) n cap) d := by
  obtain ⟨hb, ao, cap', hv, hx⟩ := h
  simp only [Value.slice.injEq] at hv
  obtain ⟨rfl, rfl, rfl⟩ := hv
  refine ⟨hb, _, cap, rfl, fun h0 => ?_⟩
  obtain ⟨h1, b', off', e, hlt, hc⟩ := hx h0
  simp only [Option.some.injEq, Addr.mk.injEq] at e
  obtain ⟨rfl, rfl, _⟩ := e
  refine ⟨h1, bd, od, rfl, Nat.lt_of_lt_of_le hlt hg.size, fun j hj => ?_⟩
  have hb2 := hg.block bd hlt (fun e => hne (Option.some.inj e))
  rw [World.cell?_of_block (w := w) (a := ⟨bd, od + j, none⟩) hb2]
  exact hc j hj

theorem grown_drewN {w w' : World} {r : Option Nat} (h : w.grownBy w' r) (n : Nat) : w.grownBy (w'.drewN n) r := ⟨h.os, h.tape, h.output, h.size, h.block⟩

theorem Win.drewN {w : World} {b N i : Nat} {f : Nat → Value} {q : List Nat} (h : Win w b N i f q) (n : Nat) : Win (w.drewN n) b N i f q := ⟨h.row, h.at_, h.len, h.bd⟩

theorem Win.set {w : World} {b N i k v : Nat} {f : Nat → Value} {q : List Nat} (h : Win w b N i f q) (hk : k < q.length) (hv : v < 4294967296) (y : Int) (hy : y = v) : Win (w.setCell ⟨b, i + k, none⟩ (.int .u32 y)) b N i (fun j => if j = i + k then .int .u32 y else f j) (q.set k v) := by
  refine ⟨h.row.set _ _, fun j hj => ?_, by rw [List.length_set]; exact h.len, Bd_set h.bd _ _ hv⟩
  rw [List.length_set] at hj
  rw [getD_set _ _ _ _ hk]
  by_cases e : j = k
  · rw [if_pos (by omega), if_pos e, hy]
  · rw [if_neg (by omega), if_neg e]; exact h.at_ j hj

theorem back_step {q o d : List Nat} {k c x y s : Nat} (hk : k < q.length) (hol : o.length = q.length) (hx : x = q.getD k 0) (hy : y = d.getD k 0) (hs : s = c + (x + y))
    (h : M.val (o.take k) + 4294967296 ^ k * c = M.val (q.take k) + M.val (d.take k)) :
    M.val ((o.set k (s % 4294967296)).take (k + 1)) + 4294967296 ^ (k + 1) * (s / 4294967296) = M.val (q.take (k + 1)) + M.val (d.take (k + 1)) := by
  rw [M.take_succ_getD, M.take_succ_getD, M.take_succ_getD, getD_set _ _ _ _ (by omega), if_pos rfl, List.take_set_of_le (by omega), ← hx, ← hy, Nat.pow_succ, Nat.mul_assoc]
  have e := Nat.div_add_mod s 4294967296
  have e2 : 4294967296 ^ k * (s % 4294967296) + 4294967296 ^ k * (4294967296 * (s / 4294967296)) = 4294967296 ^ k * s := by rw [← Nat.mul_add]; congr 1; omega
  rw [hs, Nat.mul_add, Nat.mul_add] at e2
  rw [hs] at *
  omega

set_option maxRecDepth 100000 in
set_option maxHeartbeats 2000000 in
theorem putBack_any (b N i cap : Nat) (f : Nat → Value) (q d : List Nat) (bd od capd : Nat) (w : World) (hw : Win w b N i f q) (hd : Sl w (.slice (some ⟨bd, od, none⟩) d.length capd) d) (hne : bd ≠ b) (hl : q.length ≤ 1000) (hdl : d.length ≤ q.length) :
    Calls Tryd.prog 80 #[.slice (some ⟨b, i, none⟩) q.length cap, .slice (some ⟨bd, od, none⟩) d.length capd] w fun e w' => w.grownBy w' (some b) ∧ e = .returned (.tuple #[]) ∧ ∃ f' q' c, Win w' b N i f' q' ∧ q'.length = q.length ∧ (∀ j, j < i ∨ i + q.length ≤ j → f' j = f j) ∧ M.val q' + 4294967296 ^ q.length * c = M.val q + M.val d := by
  have HW : Hid (Win w b N i f q) := hw
  have HD : Hid (Sl w (.slice (some ⟨bd, od, none⟩) d.length capd) d) := hd
  have bdq := hw.bd
  have bdd := hd.bd
  have hbd1000 : d.length ≤ 1000000 := by omega
  clear hw hd
  go_enter Tryd.func80, Tryd.ntmps80
  go_wp2
  go_loopw [4, 8] (fun vc vi wr => ∃ (k c : Nat) (o : List Nat), k ≤ q.length ∧ c ≤ 1 ∧ vi = .int .i64 (k : Int) ∧ vc = .int .u64 (c : Int) ∧ Hid (o.length = q.length ∧ (∀ j, k ≤ j → o.getD j 0 = q.getD j 0) ∧ M.val (o.take k) + 4294967296 ^ k * c = M.val (q.take k) + M.val (d.take k)) ∧
      Hid (∃ g, Win wr b N i g o ∧ ∀ j, j < i ∨ i + q.length ≤ j → g j = f j) ∧ Hid (w.grownBy wr (some b))) (fun _ vi _ => q.length - (intOf vi).toNat)
  case atStart => exact ⟨0, 0, q, by omega, by omega, rfl, rfl, ⟨rfl, fun _ _ => rfl, by simp [M.val]⟩, ⟨f, HW.out, fun _ _ => rfl⟩, World.grownBy.refl _ _⟩
  case round =>
    obtain ⟨k, c, o, hk, hc, rfl, rfl, ho, hwin, hgr⟩ := hrel
    obtain ⟨g, hg1, hg2⟩ := hwin.out
    by_cases hlt : k < q.length
    · have hck : wr.cell? ⟨b, i + k, none⟩ = some (.int .u32 ((q.getD k 0 : Nat) : Int)) := by
        rw [hg1.row.cell (by have := hg1.len; rw [ho.out.1] at this; omega), hg1.at_ k (by rw [ho.out.1]; exact hlt), ho.out.2.1 k (Nat.le_refl _)]
      have hfz : wr.frozen? ⟨b, i + k, none⟩ = false := hg1.row.frozen _
      have hxb := bdq.getD k
      have hyb := bdd.getD k
      have hcall : ∀ n, Calls Tryd.prog 72 #[.slice (some ⟨bd, od, none⟩) d.length capd, .int .i64 k] (wr.drewN n) fun e w' => e = .returned (.int .u64 ((d.getD k 0 : Nat) : Int)) ∧ w' = wr.drewN n := fun n => by
        have h := limbAt_any (wr.drewN n) (sl_grown HD.out (grown_drewN hgr.out n) hne) (k : Int) (by omega) (by omega)
        rwa [Int.toNat_natCast] at h
      obtain ⟨x, hx⟩ : ∃ x, x = q.getD k 0 := ⟨_, rfl⟩
      obtain ⟨y, hy⟩ : ∃ y, y = d.getD k 0 := ⟨_, rfl⟩
      rw [← hx] at hck hxb
      rw [← hy] at hyb
      have HC : Hid (∀ n, Calls Tryd.prog 72 #[.slice (some ⟨bd, od, none⟩) d.length capd, .int .i64 k] (wr.drewN n) fun e w' => e = .returned (.int .u64 (y : Int)) ∧ w' = wr.drewN n) := by rw [hy]; exact hcall
      have HXY : Hid (x = q.getD k 0 ∧ y = d.getD k 0) := ⟨hx, hy⟩
      clear hx hy hcall hg1 hg2
      go_wp2
      go_quiet ((go_at_call 72; exact Calls.quiet_of_same (HC.out _)))
      go_wp2
      go_roundw
      case rel =>
        obtain ⟨g, hg1, hg2⟩ := hwin.out
        have hol := ho.out.1
        refine ⟨k + 1, (c + (x + y)) / 4294967296, o.set k ((c + (x + y)) % 4294967296), by omega, by omega, by go_num, by simp, ⟨by rw [List.length_set]; exact hol, fun j hj => ?_, back_step hlt hol HXY.out.1 HXY.out.2 rfl ho.out.2.2⟩, ⟨_, (hg1.drewN nq).set (by omega) (Nat.mod_lt _ (by decide)) _ (by simp), fun j hj => ?_⟩, grown_set (grown_drewN hgr.out nq) _ _⟩
        · rw [getD_set _ _ _ _ (by omega), if_neg (by omega)]; exact ho.out.2.1 j (by omega)
        · rw [if_neg (by omega)]; exact hg2 j hj
      case measure => simp [intOf]; omega
    · obtain rfl : k = q.length := by omega
      have HV : Hid (M.val o + 4294967296 ^ q.length * c = M.val q + M.val d) := by
        have h9 := ho.out.2.2
        rw [List.take_of_length_le (by rw [ho.out.1]; exact Nat.le_refl _), List.take_length, List.take_of_length_le (by omega)] at h9
        exact h9
      clear hg1 hg2
      go_wp2
      obtain ⟨g, hg1, hg2⟩ := hwin.out
      exact bodyPost_end (v := .tuple #[]) (by simp [results, Tryd.results80, go_sem]) rfl ⟨hgr.out, rfl, g, o, c, hg1, ho.out.1, hg2, HV.out⟩

end Go.Proofs.YthijnnififodjaaDoor
