/- Wide of package shuntref01: any int64 as a number. -/
import Derived.Test.YtiadnlpbbibkgaaDoorRgive
namespace Go.Proofs.YtiadnlpbbibkgaaDoor
open Go.RowKit
namespace D

theorem wide_step {o : List Nat} {u U : Nat} (h : D.val o + 65536 ^ o.length * u = U) : D.val (o ++ [u % 65536]) + 65536 ^ (o ++ [u % 65536]).length * (u / 65536) = U := by
  rw [D.val_snoc, List.length_append, List.length_singleton, Nat.pow_succ, Nat.mul_assoc, Nat.add_assoc, ← Nat.mul_add, Nat.mod_add_div]
  exact h

theorem wide_tr {o : List Nat} {u : Nat} (hu : 0 < u) (h0 : u / 65536 = 0) : D.Tr (o ++ [u % 65536]) := by
  right
  simp [List.getD_eq_getElem?_getD]
  omega

theorem wide_len {o : List Nat} {u U : Nat} (hu : 0 < u) (hU : U < 18446744073709551616) (h : D.val o + 65536 ^ o.length * u = U) : o.length < 4 := by
  have h1 : 65536 ^ o.length * 1 ≤ 65536 ^ o.length * u := Nat.mul_le_mul_left _ hu
  have h2 : 65536 ^ o.length < 65536 ^ 4 := by
    have : (65536 : Nat) ^ 4 = 18446744073709551616 := by decide
    omega
  exact (Nat.pow_lt_pow_iff_right (by decide)).1 h2

set_option maxRecDepth 100000 in
set_option maxHeartbeats 4000000 in
theorem wide_pos (U : Nat) (w : World) (hlo : True) (hU : U ≤ 9223372036854775807) :
    Calls Tryd.prog 31 #[.int .i64 (U : Int)] w fun e w' => Kept w w' ∧ ∃ ao k cap, e = .returned (.agg #[.bool false, .slice ao k cap]) ∧ NIs w' false (.slice ao k cap) (U : Int) ∧ k ≤ 4 := by
  obtain ⟨i0, hi, hz0, hz1, hz2⟩ := info_parts infoI
  have hw0 : IntKind.u64.wrap (U : Int) = (U : Int) := by simp only [IntKind.wrap_u64]; omega
  have hng : 0 ≤ (U : Int) := by omega
  have hU2 : U < 18446744073709551616 := by omega
  have HLO : Hid (True) := hlo
  go_enter Tryd.func31, Tryd.ntmps31
  go_wp2
  go_loopw [4] (fun vi wr => ∃ (u : Nat) (o : List Nat) (ao' : Option Addr) (cap : Nat), vi = .int .u64 (u : Int) ∧ u ≤ U ∧ wr.cell? ⟨w.heap.size + 1, 0, none⟩ = some (.bool false) ∧ wr.cell? ⟨w.heap.size + 1, 1, none⟩ = some (.slice ao' o.length cap) ∧ wr.frozen? ⟨w.heap.size + 1, 1, none⟩ = false ∧
      Hid (D.Bd o ∧ D.val o + 65536 ^ o.length * u = U ∧ (u = 0 → D.Tr o)) ∧ Hid (wr.ownsRow (w.heap.size + 1 + 1) 3 1 (.slice ao' o.length cap) o.length (us o)) ∧
      Hid (Kept (w.alloc (Obj.cells #[.bool false, .slice none 0 0] 55)) wr ∧ w.heap.size + 1 + 1 ≤ wr.heap.size)) (fun vi _ => (intOf vi).toNat)
  case atStart => exact ⟨U, [], none, 0, rfl, Nat.le_refl _, World.cell?_alloc_at _ _ _ _ (by simp), World.cell?_alloc_at _ _ _ _ (by simp), World.frozen?_alloc_at _ _ _ _ (by simp), ⟨D.Bd_nil, by simp [D.val], fun _ => .inl rfl⟩, World.ownsRow_nil _ _ _ _, (Kept.refl _).alloc _, by simp⟩
  case round =>
    obtain ⟨u, o, ao', cap, rfl, huU, hc0, hc1, hfz, ho, hown, hkept⟩ := hrel
    have hwb : ∀ x, w.heap.size + 1 + 1 ≤ (wr.alloc x).heap.size := fun x => by have := hkept.out.2; simp; omega
    by_cases h0 : 0 < u
    · have hol := wide_len h0 hU2 ho.out.2.1
      have hml : o.length + 1 ≤ maxLen := by unfold maxLen; omega
      have h0' : (0 : Int) < (u : Int) := by omega
      go_wp2_with (at_builtin; refine wpList_append_own _ rfl _ _ 53 rfl (w.heap.size + 1 + 1) 3 i0 (.int .i64 0) 1 8 Tryd.underlying53 hi hz0 hz1 hz2 rfl (by decide) _ _ _ rfl (hown.out.alloc _) ⟨wr.heap.size, 0, none⟩ 1 1 [.int .i64 ((u : Int) % 65536)] rfl rfl (cell_new wr _ _) (fun u hu => by simp at hu; subst hu; rfl) (by omega) (by omega) (by exact hwb _) ?_)
      intro v' w3 hown' hgrow _
      have hB3 : Below (w.heap.size + 1 + 1) wr w3 := Below.grown ((Below.refl _ wr).alloc hkept.out.2 _) hgrow (by exact hwb _) (fun j hj => (hown.out.lt j hj).1)
      have hown3 : w3.ownsRow (w.heap.size + 1 + 1) 3 1 v' (o.length + 1) (us (o ++ [u % 65536])) := by
        rw [us_snoc, show ((u % 65536 : Nat) : Int) = (u : Int) % 65536 by omega]; exact hown'
      obtain ⟨ao3, cap3, rfl⟩ : ∃ ao3 cap3, v' = .slice ao3 (o.length + 1) cap3 := own_shape hown3
      have H3 : Hid (w3.ownsRow (w.heap.size + 1 + 1) 3 1 (.slice ao3 (o.length + 1) cap3) (o.length + 1) (us (o ++ [u % 65536])) ∧ Below (w.heap.size + 1 + 1) wr w3) := ⟨hown3, hB3⟩
      have gc0 := (Below.cell hB3 (p := ⟨w.heap.size + 1, 0, none⟩) (by simp)).trans hc0
      have gc1 := (Below.cell hB3 (p := ⟨w.heap.size + 1, 1, none⟩) (by simp)).trans hc1
      have gfz := (Below.frozen hB3 (p := ⟨w.heap.size + 1, 1, none⟩) (by simp)).trans hfz
      clear hown' hgrow hwb hown3 hB3 hc0 hc1 hfz
      go_wp2
      go_roundw
      case rel =>
        refine ⟨u / 65536, o ++ [u % 65536], ao3, cap3, by go_num, by omega, ?_, ?_, ?_, ⟨ho.out.1.snoc (by exact Nat.mod_lt _ (by decide)), by exact wide_step ho.out.2.1, fun e => by exact wide_tr h0 e⟩, ?_, ?_, ?_⟩
        · rw [World.cell?_setCell_other _ _ _ _ (by simp)]; exact gc0
        · rw [List.length_append]; exact World.cell?_setCell_same _ _ _ gc1
        · rw [World.frozen?_setCell]; exact gfz
        · rw [List.length_append]
          exact H3.out.1.kept (grown_set (World.grownBy.refl _ _) _ _) (own_ne H3.out.1 (b := w.heap.size + 1) (by omega))
        · exact (Kept.mono3 hkept.out.1 H3.out.2 (by simp)).setCell (by simp) _
        · rw [World.size_setCell]; exact Nat.le_trans hkept.out.2 H3.out.2.size
      case measure => simp [intOf]; omega
    · have hu0 : u = 0 := by omega
      subst hu0
      have HT : Hid (D.Tr o ∧ D.val o = U) := ⟨ho.out.2.2 rfl, by have := ho.out.2.1; simpa using this⟩
      have hol : o.length ≤ 4 := D.len_of_lt HT.out.1 (by rw [HT.out.2, show (65536 : Nat) ^ 4 = 18446744073709551616 from rfl]; omega)
      have hk := hkept.out.1
      obtain ⟨hR0, hR1⟩ := box_kept hk
      have hfr := hk.frozens
      have HN : Hid (New (w.heap.size + 1 + 1) wr (.slice ao' o.length cap) o) := New.of_owns hown.out ho.out.1
      have HK : Hid (Kept w wr) := ((Kept.refl w).alloc _).trans hk
      clear hwb hk
      go_wp2
      exact bodyPost_ret (v := .agg #[.bool false, .slice ao' o.length cap]) (by simp [results, Tryd.results31, go_sem, hR0, hR1]) rfl ⟨(HK.out.setCell (by simp) _).setCell (by simp) _, ao', _, cap, rfl, ⟨o, HN.out.sl.box hR0 hR1 _ _, ⟨ho.out.1, HT.out.1, by first | exact fun _ => rfl | exact fun e => by have h5 := HT.out.2; rw [e] at h5; simp only [D.val] at h5; have h6 := HLO.out; omega⟩, by unfold int; rw [HT.out.2]; simp⟩, hol⟩
set_option maxRecDepth 100000 in
set_option maxHeartbeats 4000000 in
theorem wide_neg (U : Nat) (w : World) (hlo : 0 < U) (hU : U ≤ 9223372036854775808) :
    Calls Tryd.prog 31 #[.int .i64 (-(U : Int))] w fun e w' => Kept w w' ∧ ∃ ao k cap, e = .returned (.agg #[.bool true, .slice ao k cap]) ∧ NIs w' true (.slice ao k cap) (-(U : Int)) ∧ k ≤ 4 := by
  obtain ⟨i0, hi, hz0, hz1, hz2⟩ := info_parts infoI
  have hw0 : IntKind.u64.wrap (-IntKind.u64.wrap (-(U : Int))) = (U : Int) := by simp only [IntKind.wrap_u64]; omega
  have hng : -(U : Int) < 0 := by omega
  have hU2 : U < 18446744073709551616 := by omega
  have HLO : Hid (0 < U) := hlo
  go_enter Tryd.func31, Tryd.ntmps31
  go_wp2
  go_loopw [4] (fun vi wr => ∃ (u : Nat) (o : List Nat) (ao' : Option Addr) (cap : Nat), vi = .int .u64 (u : Int) ∧ u ≤ U ∧ wr.cell? ⟨w.heap.size + 1, 0, none⟩ = some (.bool true) ∧ wr.cell? ⟨w.heap.size + 1, 1, none⟩ = some (.slice ao' o.length cap) ∧ wr.frozen? ⟨w.heap.size + 1, 1, none⟩ = false ∧
      Hid (D.Bd o ∧ D.val o + 65536 ^ o.length * u = U ∧ (u = 0 → D.Tr o)) ∧ Hid (wr.ownsRow (w.heap.size + 1 + 1) 3 1 (.slice ao' o.length cap) o.length (us o)) ∧
      Hid (Kept (w.alloc (Obj.cells #[.bool false, .slice none 0 0] 55)) wr ∧ w.heap.size + 1 + 1 ≤ wr.heap.size)) (fun vi _ => (intOf vi).toNat)
  case atStart => exact ⟨U, [], none, 0, rfl, Nat.le_refl _, World.cell?_alloc_at _ _ _ _ (by simp), World.cell?_alloc_at _ _ _ _ (by simp), World.frozen?_alloc_at _ _ _ _ (by simp), ⟨D.Bd_nil, by simp [D.val], fun _ => .inl rfl⟩, World.ownsRow_nil _ _ _ _, (Kept.refl _).alloc _, by simp⟩
  case round =>
    obtain ⟨u, o, ao', cap, rfl, huU, hc0, hc1, hfz, ho, hown, hkept⟩ := hrel
    have hwb : ∀ x, w.heap.size + 1 + 1 ≤ (wr.alloc x).heap.size := fun x => by have := hkept.out.2; simp; omega
    by_cases h0 : 0 < u
    · have hol := wide_len h0 hU2 ho.out.2.1
      have hml : o.length + 1 ≤ maxLen := by unfold maxLen; omega
      have h0' : (0 : Int) < (u : Int) := by omega
      go_wp2_with (at_builtin; refine wpList_append_own _ rfl _ _ 53 rfl (w.heap.size + 1 + 1) 3 i0 (.int .i64 0) 1 8 Tryd.underlying53 hi hz0 hz1 hz2 rfl (by decide) _ _ _ rfl (hown.out.alloc _) ⟨wr.heap.size, 0, none⟩ 1 1 [.int .i64 ((u : Int) % 65536)] rfl rfl (cell_new wr _ _) (fun u hu => by simp at hu; subst hu; rfl) (by omega) (by omega) (by exact hwb _) ?_)
      intro v' w3 hown' hgrow _
      have hB3 : Below (w.heap.size + 1 + 1) wr w3 := Below.grown ((Below.refl _ wr).alloc hkept.out.2 _) hgrow (by exact hwb _) (fun j hj => (hown.out.lt j hj).1)
      have hown3 : w3.ownsRow (w.heap.size + 1 + 1) 3 1 v' (o.length + 1) (us (o ++ [u % 65536])) := by
        rw [us_snoc, show ((u % 65536 : Nat) : Int) = (u : Int) % 65536 by omega]; exact hown'
      obtain ⟨ao3, cap3, rfl⟩ : ∃ ao3 cap3, v' = .slice ao3 (o.length + 1) cap3 := own_shape hown3
      have H3 : Hid (w3.ownsRow (w.heap.size + 1 + 1) 3 1 (.slice ao3 (o.length + 1) cap3) (o.length + 1) (us (o ++ [u % 65536])) ∧ Below (w.heap.size + 1 + 1) wr w3) := ⟨hown3, hB3⟩
      have gc0 := (Below.cell hB3 (p := ⟨w.heap.size + 1, 0, none⟩) (by simp)).trans hc0
      have gc1 := (Below.cell hB3 (p := ⟨w.heap.size + 1, 1, none⟩) (by simp)).trans hc1
      have gfz := (Below.frozen hB3 (p := ⟨w.heap.size + 1, 1, none⟩) (by simp)).trans hfz
      clear hown' hgrow hwb hown3 hB3 hc0 hc1 hfz
      go_wp2
      go_roundw
      case rel =>
        refine ⟨u / 65536, o ++ [u % 65536], ao3, cap3, by go_num, by omega, ?_, ?_, ?_, ⟨ho.out.1.snoc (by exact Nat.mod_lt _ (by decide)), by exact wide_step ho.out.2.1, fun e => by exact wide_tr h0 e⟩, ?_, ?_, ?_⟩
        · rw [World.cell?_setCell_other _ _ _ _ (by simp)]; exact gc0
        · rw [List.length_append]; exact World.cell?_setCell_same _ _ _ gc1
        · rw [World.frozen?_setCell]; exact gfz
        · rw [List.length_append]
          exact H3.out.1.kept (grown_set (World.grownBy.refl _ _) _ _) (own_ne H3.out.1 (b := w.heap.size + 1) (by omega))
        · exact (Kept.mono3 hkept.out.1 H3.out.2 (by simp)).setCell (by simp) _
        · rw [World.size_setCell]; exact Nat.le_trans hkept.out.2 H3.out.2.size
      case measure => simp [intOf]; omega
    · have hu0 : u = 0 := by omega
      subst hu0
      have HT : Hid (D.Tr o ∧ D.val o = U) := ⟨ho.out.2.2 rfl, by have := ho.out.2.1; simpa using this⟩
      have hol : o.length ≤ 4 := D.len_of_lt HT.out.1 (by rw [HT.out.2, show (65536 : Nat) ^ 4 = 18446744073709551616 from rfl]; omega)
      have hk := hkept.out.1
      obtain ⟨hR0, hR1⟩ := box_kept hk
      have hfr := hk.frozens
      have HN : Hid (New (w.heap.size + 1 + 1) wr (.slice ao' o.length cap) o) := New.of_owns hown.out ho.out.1
      have HK : Hid (Kept w wr) := ((Kept.refl w).alloc _).trans hk
      clear hwb hk
      go_wp2
      exact bodyPost_ret (v := .agg #[.bool true, .slice ao' o.length cap]) (by simp [results, Tryd.results31, go_sem, hR0, hR1]) rfl ⟨(HK.out.setCell (by simp) _).setCell (by simp) _, ao', _, cap, rfl, ⟨o, HN.out.sl.box hR0 hR1 _ _, ⟨ho.out.1, HT.out.1, by first | exact fun _ => rfl | exact fun e => by have h5 := HT.out.2; rw [e] at h5; simp only [D.val] at h5; have h6 := HLO.out; omega⟩, by unfold int; rw [HT.out.2]; simp⟩, hol⟩

theorem wide_any (v : Int) (w : World) (h1 : -9223372036854775808 ≤ v) (h2 : v ≤ 9223372036854775807) :
    Calls Tryd.prog 31 #[.int .i64 v] w fun e w' => Kept w w' ∧ ∃ s ao k cap, e = .returned (.agg #[.bool s, .slice ao k cap]) ∧ NIs w' s (.slice ao k cap) v ∧ k ≤ 4 := by
  by_cases h : 0 ≤ v
  · obtain ⟨U, rfl⟩ := Int.eq_ofNat_of_zero_le h
    refine (wide_pos U w trivial (by omega)).mono ?_
    rintro e w' ⟨hk, ao, k, cap, rfl, hN⟩
    exact ⟨hk, _, _, _, _, rfl, hN⟩
  · obtain ⟨U, hU⟩ := Int.eq_ofNat_of_zero_le (show 0 ≤ -v by omega)
    have e : v = -(U : Int) := by omega
    subst e
    refine (wide_neg U w (by omega) (by omega)).mono ?_
    rintro e w' ⟨hk, ao, k, cap, rfl, hN⟩
    exact ⟨hk, _, _, _, _, rfl, hN⟩

end D
end Go.Proofs.YtiadnlpbbibkgaaDoor
