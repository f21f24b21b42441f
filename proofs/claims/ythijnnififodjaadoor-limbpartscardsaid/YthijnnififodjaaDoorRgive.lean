/- Give, told of package shuntref01: a number as limbs. -/
import Derived.Test.YthijnnififodjaaDoorRnum
namespace Go.Proofs.YthijnnififodjaaDoor
open Go.RowKit
namespace D

theorem pow_two (n : Nat) : 65536 ^ (2 * n) = 4294967296 ^ n := by
  rw [Nat.pow_mul]

theorem pack_step {d o : List Nat} {i x y : Nat} (hi : i = 2 * o.length) (hx : x = d.getD i 0) (hy : y = d.getD (i + 1) 0) (h : M.val o = D.val (d.take i)) : M.val (o ++ [x + y * 65536]) = D.val (d.take (i + 2)) := by
  rw [M.val_snoc, h, D.take_succ_getD, D.take_succ_getD, ← hx, ← hy, Nat.pow_succ, hi, pow_two, Nat.mul_add, Nat.mul_assoc, Nat.mul_comm 65536 y]
  omega

theorem tr_of_val {o : List Nat} (hb : M.Bd o) (h : 0 < o.length → 4294967296 ^ (o.length - 1) ≤ M.val o) : M.Tr o := by
  by_cases h0 : o.length = 0
  · exact .inl h0
  · right
    intro e
    have h1 := h (by omega)
    have h2 : M.val o = M.val (o.take (o.length - 1)) := by
      have h3 := M.take_succ_getD o (o.length - 1)
      rw [e, show o.length - 1 + 1 = o.length by omega, List.take_length] at h3
      simpa using h3
    have h3 := M.val_lt (hb.take (o.length - 1))
    rw [List.length_take, Nat.min_eq_left (by omega)] at h3
    omega

theorem pack_tr {d o : List Nat} (hb : M.Bd o) (hl : o.length = (d.length + 1) / 2) (hv : M.val o = D.val d) (ht : D.Tr d) : M.Tr o := by
  refine tr_of_val hb (fun h0 => ?_)
  have hd0 : d.length ≠ 0 := by omega
  have h1 := D.val_ge ht (fun e => hd0 (by simp [e]))
  rw [hv]
  refine Nat.le_trans ?_ h1
  rw [← pow_two]
  exact Nat.pow_le_pow_right (by decide) (by omega)

theorem own_shape {w : World} {B : Nat} {t : TypeId} {s : Nat} {v : Value} {n : Nat} {xs : List Value} (h : w.ownsRow B t s v n xs) : ∃ ao cap, v = .slice ao n cap := by
  obtain ⟨_, ⟨rfl, rfl⟩ | ⟨b, N, cur, rfl, _⟩⟩ := h
  · exact ⟨_, _, rfl⟩
  · exact ⟨_, _, rfl⟩

theorem own_ne {w : World} {B : Nat} {t : TypeId} {s : Nat} {v : Value} {n : Nat} {xs : List Value} (h : w.ownsRow B t s v n xs) {b : Nat} (hb : b < B) : v.ownBlock = none ∨ v.ownBlock ≠ some b := by
  cases hv : v.ownBlock with
  | none => exact .inl rfl
  | some k =>
    right
    have := (h.lt k hv).1
    intro e
    cases e
    omega

theorem Kept.mono3 {a b c : World} {B : Nat} (h : Kept a b) (k : Below B b c) (hB : a.heap.size ≤ B) : Kept a c := Below.trans h (Below.mono k hB)

set_option maxRecDepth 100000 in
set_option maxHeartbeats 4000000 in
theorem Give_any (m : Bool) (ao : Option Addr) (capd : Nat) (d : List Nat) (w : World) (hd : Sl w (.slice ao d.length capd) d) (ht : D.Tr d) (hl : d.length ≤ 10000) :
    Calls Tryd.prog 27 #[.agg #[.bool m, .slice ao d.length capd]] w fun e w' => Kept w w' ∧ ∃ ao' n cap l, e = .returned (.agg #[.bool m, .slice ao' n cap]) ∧ Go.Proofs.YthijnnififodjaaDoor.New w.heap.size w' (.slice ao' n cap) l ∧ M.Tr l ∧ M.val l = D.val d ∧ l.length = (d.length + 1) / 2 := by
  have HD : Hid (Sl w (.slice ao d.length capd) d ∧ D.Tr d) := ⟨hd, ht⟩
  have bdd := hd.bd
  obtain ⟨i0, hi, hz0, hz1, hz2⟩ := info_parts Tryd.info43
  clear hd ht
  go_enter Tryd.func27, Tryd.ntmps27
  go_wp2
  go_loopw [4] (fun vi wr => ∃ (i : Nat) (o : List Nat) (ao' : Option Addr) (cap : Nat), vi = .int .i64 (i : Int) ∧ i ≤ d.length + 1 ∧ wr.cell? ⟨w.heap.size + 1 + 1, 0, none⟩ = some (.bool m) ∧ wr.cell? ⟨w.heap.size + 1 + 1, 1, none⟩ = some (.slice ao' o.length cap) ∧ wr.frozen? ⟨w.heap.size + 1 + 1, 1, none⟩ = false ∧
      Hid (i = 2 * o.length ∧ M.Bd o ∧ M.val o = D.val (d.take i)) ∧ Hid (wr.ownsRow (w.heap.size + 1 + 1 + 1) 43 1 (.slice ao' o.length cap) o.length (Go.Proofs.YthijnnififodjaaDoor.us o)) ∧
      Hid (Kept ((w.alloc (Obj.cells #[.bool m, .slice ao d.length capd] 50)).alloc (Obj.cells #[.bool false, .slice none 0 0] 24)) wr ∧ w.heap.size + 1 + 1 + 1 ≤ wr.heap.size)) (fun vi _ => d.length + 2 - (intOf vi).toNat)
  case atStart => exact ⟨0, [], none, 0, rfl, by omega, World.cell?_alloc_at _ _ _ _ (by simp), World.cell?_alloc_at _ _ _ _ (by simp), World.frozen?_alloc_at _ _ _ _ (by simp), ⟨rfl, M.Bd_nil, rfl⟩, World.ownsRow_nil _ _ _ _, (Kept.refl _).alloc _, by simp⟩
  case round =>
    obtain ⟨i, o, ao', cap, rfl, hi1, hc0, hc1, hfz, ho, hown, hkept⟩ := hrel
    obtain ⟨hA0, hA1, hB0, hB1⟩ := box_kept2 hkept.out.1
    have hKW : Kept w wr := (((Kept.refl w).alloc _).alloc _).trans hkept.out.1
    have hwb : ∀ x, w.heap.size + 1 + 1 + 1 ≤ (wr.alloc x).heap.size := fun x => by have := hkept.out.2; simp; omega
    have hol : 2 * o.length ≤ d.length + 1 := by have := ho.out.1; omega
    have hml : o.length + 1 ≤ maxLen := by unfold maxLen; omega
    by_cases hlt : i < d.length
    · obtain ⟨bd, od, rfl, hcapd, hcd⟩ := (HD.out.1.kept hKW).at hlt
      have hxb := bdd.getD i
      obtain ⟨x, hx⟩ : ∃ x, x = d.getD i 0 := ⟨_, rfl⟩
      rw [← hx] at hcd hxb
      have HX : Hid (x = d.getD i 0) := hx
      clear hx
      by_cases hlt2 : i + 1 < d.length
      · obtain ⟨bd2, od2, he2, _, hcd2⟩ := (HD.out.1.kept hKW).at hlt2
        simp only [Option.some.injEq, Addr.mk.injEq] at he2
        obtain ⟨rfl, rfl, _⟩ := he2
        have hyb := bdd.getD (i + 1)
        obtain ⟨y, hy⟩ : ∃ y, y = d.getD (i + 1) 0 := ⟨_, rfl⟩
        rw [← hy] at hcd2 hyb
        have HY : Hid (y = d.getD (i + 1) 0) := hy
        clear hy hKW
        go_wp2_with (at_builtin; refine wpList_append_own _ rfl _ _ 22 rfl (w.heap.size + 1 + 1 + 1) 43 i0 (.int .u32 0) 1 4 Tryd.underlying22 hi hz0 hz1 hz2 rfl (by decide) _ _ _ rfl (hown.out.alloc _) ⟨wr.heap.size, 0, none⟩ 1 1 [.int .u32 ((x : Int) + (y : Int) * 65536)] rfl rfl (cell_new wr _ _) (fun u hu => by simp at hu; subst hu; rfl) (by omega) (by omega) (by exact hwb _) ?_)
        intro v' w3 hown' hgrow _
        have hB3 : Below (w.heap.size + 1 + 1 + 1) wr w3 := Below.grown ((Below.refl _ wr).alloc hkept.out.2 _) hgrow (by exact hwb _) (fun j hj => (hown.out.lt j hj).1)
        have hown3 : w3.ownsRow (w.heap.size + 1 + 1 + 1) 43 1 v' (o.length + 1) (Go.Proofs.YthijnnififodjaaDoor.us (o ++ [x + y * 65536])) := by
          rw [Go.Proofs.YthijnnififodjaaDoor.us_snoc, show ((x + y * 65536 : Nat) : Int) = (x : Int) + (y : Int) * 65536 by omega]; exact hown'
        obtain ⟨ao3, cap3, rfl⟩ : ∃ ao3 cap3, v' = .slice ao3 (o.length + 1) cap3 := own_shape hown3
        have H3 : Hid (w3.ownsRow (w.heap.size + 1 + 1 + 1) 43 1 (.slice ao3 (o.length + 1) cap3) (o.length + 1) (Go.Proofs.YthijnnififodjaaDoor.us (o ++ [x + y * 65536])) ∧ Below (w.heap.size + 1 + 1 + 1) wr w3) := ⟨hown3, hB3⟩
        have gc0 := (Below.cell hB3 (p := ⟨w.heap.size + 1 + 1, 0, none⟩) (by simp)).trans hc0
        have gc1 := (Below.cell hB3 (p := ⟨w.heap.size + 1 + 1, 1, none⟩) (by simp)).trans hc1
        have gfz := (Below.frozen hB3 (p := ⟨w.heap.size + 1 + 1, 1, none⟩) (by simp)).trans hfz
        clear hown' hgrow hwb hown3 hB3 hc0 hc1 hfz
        go_wp2
        go_roundw
        case rel =>
          have hps := pack_step (y := y) ho.out.1 HX.out HY.out ho.out.2.2
          refine ⟨i + 2, o ++ [x + y * 65536], ao3, cap3, by go_num, by omega, ?_, ?_, ?_, ⟨by rw [List.length_append, ho.out.1, List.length_singleton]; omega, ho.out.2.1.snoc (by omega), hps⟩, ?_, ?_, ?_⟩
          · rw [World.cell?_setCell_other _ _ _ _ (by simp)]; exact gc0
          · rw [List.length_append]; exact World.cell?_setCell_same _ _ _ gc1
          · rw [World.frozen?_setCell]; exact gfz
          · rw [List.length_append]
            exact H3.out.1.kept (grown_set (World.grownBy.refl _ _) _ _) (own_ne H3.out.1 (b := w.heap.size + 1 + 1) (by omega))
          · exact (Kept.mono3 hkept.out.1 H3.out.2 (by simp)).setCell (by simp) _
          · rw [World.size_setCell]; exact Nat.le_trans hkept.out.2 H3.out.2.size
        case measure => simp [intOf]; omega
      · have HY : Hid (0 = d.getD (i + 1) 0) := (getD_out hlt2).symm
        clear hKW
        go_wp2_with (at_builtin; refine wpList_append_own _ rfl _ _ 22 rfl (w.heap.size + 1 + 1 + 1) 43 i0 (.int .u32 0) 1 4 Tryd.underlying22 hi hz0 hz1 hz2 rfl (by decide) _ _ _ rfl (hown.out.alloc _) ⟨wr.heap.size, 0, none⟩ 1 1 [.int .u32 ((x : Int))] rfl rfl (cell_new wr _ _) (fun u hu => by simp at hu; subst hu; rfl) (by omega) (by omega) (by exact hwb _) ?_)
        intro v' w3 hown' hgrow _
        have hB3 : Below (w.heap.size + 1 + 1 + 1) wr w3 := Below.grown ((Below.refl _ wr).alloc hkept.out.2 _) hgrow (by exact hwb _) (fun j hj => (hown.out.lt j hj).1)
        have hown3 : w3.ownsRow (w.heap.size + 1 + 1 + 1) 43 1 v' (o.length + 1) (Go.Proofs.YthijnnififodjaaDoor.us (o ++ [x])) := by
          rw [Go.Proofs.YthijnnififodjaaDoor.us_snoc, show ((x : Nat) : Int) = (x : Int) by omega]; exact hown'
        obtain ⟨ao3, cap3, rfl⟩ : ∃ ao3 cap3, v' = .slice ao3 (o.length + 1) cap3 := own_shape hown3
        have H3 : Hid (w3.ownsRow (w.heap.size + 1 + 1 + 1) 43 1 (.slice ao3 (o.length + 1) cap3) (o.length + 1) (Go.Proofs.YthijnnififodjaaDoor.us (o ++ [x])) ∧ Below (w.heap.size + 1 + 1 + 1) wr w3) := ⟨hown3, hB3⟩
        have gc0 := (Below.cell hB3 (p := ⟨w.heap.size + 1 + 1, 0, none⟩) (by simp)).trans hc0
        have gc1 := (Below.cell hB3 (p := ⟨w.heap.size + 1 + 1, 1, none⟩) (by simp)).trans hc1
        have gfz := (Below.frozen hB3 (p := ⟨w.heap.size + 1 + 1, 1, none⟩) (by simp)).trans hfz
        clear hown' hgrow hwb hown3 hB3 hc0 hc1 hfz
        go_wp2
        go_roundw
        case rel =>
          have hps := pack_step (y := 0) ho.out.1 HX.out HY.out ho.out.2.2
          refine ⟨i + 2, o ++ [x], ao3, cap3, by go_num, by omega, ?_, ?_, ?_, ⟨by rw [List.length_append, ho.out.1, List.length_singleton]; omega, ho.out.2.1.snoc (by omega), by simpa using hps⟩, ?_, ?_, ?_⟩
          · rw [World.cell?_setCell_other _ _ _ _ (by simp)]; exact gc0
          · rw [List.length_append]; exact World.cell?_setCell_same _ _ _ gc1
          · rw [World.frozen?_setCell]; exact gfz
          · rw [List.length_append]
            exact H3.out.1.kept (grown_set (World.grownBy.refl _ _) _ _) (own_ne H3.out.1 (b := w.heap.size + 1 + 1) (by omega))
          · exact (Kept.mono3 hkept.out.1 H3.out.2 (by simp)).setCell (by simp) _
          · rw [World.size_setCell]; exact Nat.le_trans hkept.out.2 H3.out.2.size
        case measure => simp [intOf]; omega
    · have HV : Hid (M.val o = D.val d ∧ o.length = (d.length + 1) / 2) := by
        refine ⟨?_, by have := ho.out.1; omega⟩
        have := ho.out.2.2
        rwa [List.take_of_length_le (by omega)] at this
      have hRf : ∀ j, wr.frozen? ⟨w.heap.size + 1, j, none⟩ = false := fun j => by rw [hkept.out.1.frozens _ _ (by simp)]; simp
      have HN : Hid (Go.Proofs.YthijnnififodjaaDoor.New (w.heap.size + 1 + 1 + 1) wr (.slice ao' o.length cap) o) := Go.Proofs.YthijnnififodjaaDoor.New.of_owns hown.out ho.out.2.1
      have HK : Hid (Kept w wr) := hKW
      clear hwb hKW
      go_wp2
      exact bodyPost_ret (v := .agg #[.bool m, .slice ao' o.length cap]) (by simp [results, Tryd.results27, go_sem, hB0, hB1]) rfl ⟨(HK.out.setCell (by simp) _).setCell (by simp) _, ao', _, cap, o, rfl, ((HN.out.other (by simp) _).other (by simp) _).mono (by omega), pack_tr ho.out.2.1 HV.out.2 HV.out.1 HD.out.2, HV.out⟩

end D
end Go.Proofs.YthijnnififodjaaDoor
