/- plus, minus, mags of package shuntref01: sums and differences of magnitudes in digits, and how they are held against one another. -/
import Derived.Test.YthijnnififodjaaDoorRtrim
import Derived.Test.YthijnnififodjaaDoorGrp
namespace Go.Proofs.YthijnnififodjaaDoor
open Go.RowKit
namespace D

theorem sum_step {a b p : List Nat} {k c x y s : Nat} (hx : x = a.getD k 0) (hy : y = b.getD k 0) (hs : s = c + x + y) (hp : p.length = k)
    (h : D.val p + 65536 ^ k * c = D.val (a.take k) + D.val (b.take k)) :
    D.val (p ++ [s % 65536]) + 65536 ^ (k + 1) * (s / 65536) = D.val (a.take (k + 1)) + D.val (b.take (k + 1)) := by
  rw [D.val_snoc, hp, D.take_succ_getD, D.take_succ_getD, ← hx, ← hy, Nat.pow_succ, Nat.mul_assoc]
  have e : 65536 ^ k * (s % 65536) + 65536 ^ k * (65536 * (s / 65536)) = 65536 ^ k * s := by
    rw [← Nat.mul_add]; congr 1; omega
  have e2 : 65536 ^ k * s = 65536 ^ k * c + 65536 ^ k * x + 65536 ^ k * y := by rw [hs, Nat.mul_add, Nat.mul_add]
  omega

theorem getD_out {l : List Nat} {k : Nat} (h : ¬ k < l.length) : l.getD k 0 = 0 := by
  rw [List.getD_eq_getElem?_getD, List.getElem?_eq_none (by omega)]; rfl

theorem Sl.at {w : World} {ao : Option Addr} {cap : Nat} {l : List Nat} (h : Sl w (.slice ao l.length cap) l) {k : Nat} (hk : k < l.length) : ∃ b off : Nat, ao = some ⟨b, off, none⟩ ∧ l.length ≤ cap ∧ w.cell? ⟨b, off + k, none⟩ = some (.int .i64 ((l.getD k 0 : Nat) : Int)) := by
  obtain ⟨_, ao', cap', hv, hx⟩ := h
  simp only [Value.slice.injEq, true_and] at hv
  obtain ⟨rfl, rfl⟩ := hv
  obtain ⟨h1, b, off, e, _, hc⟩ := hx (by omega)
  exact ⟨b, off, e, h1, hc k hk⟩

set_option maxRecDepth 100000 in
set_option maxHeartbeats 2000000 in
theorem plus_any (va vb : Value) (a b : List Nat) (w : World) (ha : Sl w va a) (hb : Sl w vb b) (hla : a.length ≤ 5000) (hlb : b.length ≤ 5000) :
    Calls Tryd.prog 53 #[va, vb] w fun e w' => Kept w w' ∧ ∃ v' l', e = .returned v' ∧ Sl w' v' l' ∧ D.Tr l' ∧ D.val l' = D.val a + D.val b ∧ l'.length ≤ max a.length b.length + 1 := by
  have HA : Hid (Sl w va a) := ha
  have HB : Hid (Sl w vb b) := hb
  obtain ⟨bda, aoa, capa, rfl, _⟩ := ha
  obtain ⟨bdb, aob, capb, rfl, _⟩ := hb
  obtain ⟨i0, hi, hz0, hz1, hz2⟩ := info_parts infoI
  go_enter Tryd.func53, Tryd.ntmps53
  go_wp2
  go_loopw [5, 6, 7] (fun vd vc vi wr => ∃ (k c : Nat) (o : List Nat), c ≤ 1 ∧ vi = .int .i64 k ∧ vc = .int .i64 c ∧ k ≤ max a.length b.length + 1 ∧ (k = max a.length b.length + 1 → c = 0) ∧ Hid (o.length = k ∧ D.Bd o ∧ D.val o + 65536 ^ k * c = D.val (a.take k) + D.val (b.take k)) ∧
      Hid (wr.ownsRow w.heap.size 3 1 vd o.length (us o)) ∧ Hid (Kept w wr)) (fun _ _ vi _ => a.length + b.length + 2 - (intOf vi).toNat)
  case atStart => exact ⟨0, 0, [], by omega, rfl, rfl, by omega, fun _ => rfl, ⟨rfl, D.Bd_nil, by simp [D.val]⟩, World.ownsRow_nil _ _ _ _, Kept.refl w⟩
  case round =>
    obtain ⟨k, c, o, hc, rfl, rfl, hk, hkc, ho, hown, hkept⟩ := hrel
    have hwb : ∀ x, w.heap.size ≤ (wr.alloc x).heap.size := fun x => by have := hkept.out.size; simp; omega
    have hml : o.length + 1 ≤ maxLen := by rw [ho.out.1]; unfold maxLen; omega
    have hol : o.length ≤ 10002 := by rw [ho.out.1]; omega
    by_cases hka : k < a.length
    · by_cases hkb : k < b.length
      · obtain ⟨ba, oa, rfl, hcapa, hca⟩ := (HA.out.kept hkept.out).at hka
        have hxb := bda.getD k
        obtain ⟨x, hx⟩ : ∃ x, x = a.getD k 0 := ⟨_, rfl⟩
        rw [← hx] at hca hxb
        have HX : Hid (x = a.getD k 0) := hx
        clear hx
        obtain ⟨bb, ob, rfl, hcapb, hcb⟩ := (HB.out.kept hkept.out).at hkb
        have hyb := bdb.getD k
        obtain ⟨y, hy⟩ : ∃ y, y = b.getD k 0 := ⟨_, rfl⟩
        rw [← hy] at hcb hyb
        have HY : Hid (y = b.getD k 0) := hy
        clear hy
        go_wp2_with (at_builtin; refine wpList_append_own _ rfl _ _ 48 rfl w.heap.size 3 i0 (.int .i64 0) 1 8 Tryd.underlying48 hi hz0 hz1 hz2 rfl (by decide) _ _ _ rfl (hown.out.alloc _) ⟨wr.heap.size, 0, none⟩ 1 1 [.int .i64 (((c : Int) + x + y) % 65536)] rfl rfl (cell_new wr _ _) (fun u hu => by simp at hu; subst hu; rfl) (by omega) (by omega) (by exact hwb _) ?_)
        intro v' w3 hown' hgrow _
        have HN : Hid (w3.ownsRow w.heap.size 3 1 v' (o.length + 1) (us (o ++ [(c + x + y) % 65536])) ∧ Kept w w3) := by
          refine ⟨?_, Below.grown (hkept.out.alloc _) hgrow ((hkept.out.alloc _).size) (fun j hj => (hown.out.lt j hj).1)⟩
          rw [us_snoc, show (((c + x + y) % 65536 : Nat) : Int) = ((c : Int) + x + y) % 65536 by omega]; exact hown'
        clear hown' hgrow hwb
        go_wp2
        go_roundw
        case rel => exact ⟨k + 1, (c + x + y) / 65536, o ++ [(c + x + y) % 65536], by omega, by go_num, by simp, by omega, by omega, ⟨by rw [List.length_append, ho.out.1]; rfl, ho.out.2.1.snoc (Nat.mod_lt _ (by decide)), sum_step HX.out HY.out (by omega) ho.out.1 ho.out.2.2⟩, by rw [List.length_append]; exact HN.out.1, HN.out.2⟩
        case measure => simp [intOf]; omega
      · obtain ⟨ba, oa, rfl, hcapa, hca⟩ := (HA.out.kept hkept.out).at hka
        have hxb := bda.getD k
        obtain ⟨x, hx⟩ : ∃ x, x = a.getD k 0 := ⟨_, rfl⟩
        rw [← hx] at hca hxb
        have HX : Hid (x = a.getD k 0) := hx
        clear hx
        go_wp2_with (at_builtin; refine wpList_append_own _ rfl _ _ 48 rfl w.heap.size 3 i0 (.int .i64 0) 1 8 Tryd.underlying48 hi hz0 hz1 hz2 rfl (by decide) _ _ _ rfl (hown.out.alloc _) ⟨wr.heap.size, 0, none⟩ 1 1 [.int .i64 (((c : Int) + x) % 65536)] rfl rfl (cell_new wr _ _) (fun u hu => by simp at hu; subst hu; rfl) (by omega) (by omega) (by exact hwb _) ?_)
        intro v' w3 hown' hgrow _
        have HN : Hid (w3.ownsRow w.heap.size 3 1 v' (o.length + 1) (us (o ++ [(c + x) % 65536])) ∧ Kept w w3) := by
          refine ⟨?_, Below.grown (hkept.out.alloc _) hgrow ((hkept.out.alloc _).size) (fun j hj => (hown.out.lt j hj).1)⟩
          rw [us_snoc, show (((c + x) % 65536 : Nat) : Int) = ((c : Int) + x) % 65536 by omega]; exact hown'
        clear hown' hgrow hwb
        go_wp2
        go_roundw
        case rel => exact ⟨k + 1, (c + x) / 65536, o ++ [(c + x) % 65536], by omega, by go_num, by simp, by omega, by omega, ⟨by rw [List.length_append, ho.out.1]; rfl, ho.out.2.1.snoc (Nat.mod_lt _ (by decide)), sum_step HX.out (getD_out hkb).symm (by omega) ho.out.1 ho.out.2.2⟩, by rw [List.length_append]; exact HN.out.1, HN.out.2⟩
        case measure => simp [intOf]; omega
    · by_cases hkb : k < b.length
      · obtain ⟨bb, ob, rfl, hcapb, hcb⟩ := (HB.out.kept hkept.out).at hkb
        have hyb := bdb.getD k
        obtain ⟨y, hy⟩ : ∃ y, y = b.getD k 0 := ⟨_, rfl⟩
        rw [← hy] at hcb hyb
        have HY : Hid (y = b.getD k 0) := hy
        clear hy
        go_wp2_with (at_builtin; refine wpList_append_own _ rfl _ _ 48 rfl w.heap.size 3 i0 (.int .i64 0) 1 8 Tryd.underlying48 hi hz0 hz1 hz2 rfl (by decide) _ _ _ rfl (hown.out.alloc _) ⟨wr.heap.size, 0, none⟩ 1 1 [.int .i64 (((c : Int) + y) % 65536)] rfl rfl (cell_new wr _ _) (fun u hu => by simp at hu; subst hu; rfl) (by omega) (by omega) (by exact hwb _) ?_)
        intro v' w3 hown' hgrow _
        have HN : Hid (w3.ownsRow w.heap.size 3 1 v' (o.length + 1) (us (o ++ [(c + y) % 65536])) ∧ Kept w w3) := by
          refine ⟨?_, Below.grown (hkept.out.alloc _) hgrow ((hkept.out.alloc _).size) (fun j hj => (hown.out.lt j hj).1)⟩
          rw [us_snoc, show (((c + y) % 65536 : Nat) : Int) = ((c : Int) + y) % 65536 by omega]; exact hown'
        clear hown' hgrow hwb
        go_wp2
        go_roundw
        case rel => exact ⟨k + 1, (c + y) / 65536, o ++ [(c + y) % 65536], by omega, by go_num, by simp, by omega, by omega, ⟨by rw [List.length_append, ho.out.1]; rfl, ho.out.2.1.snoc (Nat.mod_lt _ (by decide)), sum_step (getD_out hka).symm HY.out (by omega) ho.out.1 ho.out.2.2⟩, by rw [List.length_append]; exact HN.out.1, HN.out.2⟩
        case measure => simp [intOf]; omega
      · by_cases hc0 : c = 0
        · subst hc0
          have hnew := Sl.kept (New.of_owns hown.out ho.out.2.1).sl (Kept.refl wr)
          have hval := ho.out.2.2
          rw [List.take_of_length_le (by omega), List.take_of_length_le (by omega)] at hval
          have HS : Hid (Sl wr u5 o ∧ o.length ≤ max a.length b.length + 1) := ⟨hnew, by rw [ho.out.1]; exact hk⟩
          have HV : Hid (D.val o = D.val a + D.val b) := by
            show D.val o = _
            simpa using hval
          clear hnew hval hwb
          go_wp2_with fail
          refine (trim_any _ HS.out.1 (by omega)).mono ?_
          rintro e w1 ⟨rfl, v', l', rfl, hn', ht', hv', hl'⟩
          have HR : Hid (Sl w1 v' l' ∧ D.Tr l' ∧ D.val l' = D.val a + D.val b ∧ l'.length ≤ max a.length b.length + 1) := ⟨hn', ht', by rw [hv', HV.out], Nat.le_trans hl' HS.out.2⟩
          clear hn' ht' hv' hl'
          go_wp2
          go_ret
          exact ⟨hkept.out, v', l', rfl, HR.out⟩
        · obtain rfl : c = 1 := by omega
          go_wp2_with (at_builtin; refine wpList_append_own _ rfl _ _ 48 rfl w.heap.size 3 i0 (.int .i64 0) 1 8 Tryd.underlying48 hi hz0 hz1 hz2 rfl (by decide) _ _ _ rfl (hown.out.alloc _) ⟨wr.heap.size, 0, none⟩ 1 1 [.int .i64 1] rfl rfl (cell_new wr _ _) (fun u hu => by simp at hu; subst hu; rfl) (by omega) (by omega) (by exact hwb _) ?_)
          intro v' w3 hown' hgrow _
          have HN : Hid (w3.ownsRow w.heap.size 3 1 v' (o.length + 1) (us (o ++ [1])) ∧ Kept w w3) := by
            refine ⟨?_, Below.grown (hkept.out.alloc _) hgrow ((hkept.out.alloc _).size) (fun j hj => (hown.out.lt j hj).1)⟩
            rw [us_snoc]; exact hown'
          clear hown' hgrow hwb
          go_wp2
          go_roundw
          case rel => exact ⟨k + 1, 0, o ++ [1], by omega, by go_num, rfl, by omega, by omega, ⟨by rw [List.length_append, ho.out.1]; rfl, ho.out.2.1.snoc (by decide), sum_step (s := 1) (getD_out hka).symm (getD_out hkb).symm rfl ho.out.1 ho.out.2.2⟩, by rw [List.length_append]; exact HN.out.1, HN.out.2⟩
          case measure => simp [intOf]; omega

end D
end Go.Proofs.YthijnnififodjaaDoor
