/- told of package shuntref01: a number as an answer. -/
import Derived.Test.YthijnnififodjaaDoorRgive
namespace Go.Proofs.YthijnnififodjaaDoor
open Go.RowKit
namespace D

/-- The document's answer for the number z: the number itself, in its one form, or ErrWide. -/
def FinX (w : World) (s : Bool) (v : Value) (c z : Int) : Prop := (c = 0 ∧ ∃ l, Go.Proofs.YthijnnififodjaaDoor.Sl w v l ∧ M.Right s l ∧ M.int s l = z) ∨ (c = 13 ∧ s = false ∧ v = .slice none 0 0 ∧ M.W72 ≤ z.natAbs)

theorem FinX.kept {w w' : World} {s : Bool} {v : Value} {c z : Int} (h : FinX w s v c z) (k : Kept w w') : FinX w' s v c z := by
  rcases h with ⟨hc, l, h1, h2⟩ | h
  · exact .inl ⟨hc, l, h1.kept k, h2⟩
  · exact .inr h

theorem sl_box {w : World} {v : Value} {l : List Nat} {b : Nat} {q : Bool} {ao : Option Addr} {n cap : Nat} (h : Go.Proofs.YthijnnififodjaaDoor.Sl w v l) (h0 : w.cell? ⟨b, 0, none⟩ = some (.bool q)) (h1 : w.cell? ⟨b, 1, none⟩ = some (.slice ao n cap)) (x y : Value) : Go.Proofs.YthijnnififodjaaDoor.Sl ((w.setCell ⟨b, 0, none⟩ x).setCell ⟨b, 1, none⟩ y) v l := by
  obtain ⟨hb, ao, cap', rfl, hx⟩ := h
  refine ⟨hb, ao, cap', rfl, fun hl => ?_⟩
  obtain ⟨k1, b', off', rfl, hlt, hc⟩ := hx hl
  refine ⟨k1, b', off', rfl, by rw [World.size_setCell, World.size_setCell]; exact hlt, fun j hj => ?_⟩
  rw [World.cell?_setCell_other _ _ _ _ (fun e => by have := hc j hj; rw [← e, h1] at this; simp at this), World.cell?_setCell_other _ _ _ _ (fun e => by have := hc j hj; rw [← e, h0] at this; simp at this)]
  exact hc j hj

theorem fin_x {B : Nat} {w : World} {s : Bool} {v : Value} {c z : Int} (h : Fin B w s v c z) : FinX w s v c z := by
  rcases h with ⟨hc, l, h1, h2⟩ | h
  · exact .inl ⟨hc, l, h1.sl, h2⟩
  · exact .inr h

theorem wide_of {l : List Nat} (ht : D.Tr l) (h : 72 < (l.length + 1) / 2) : M.W72 ≤ D.val l := by
  have h1 := D.val_ge ht (fun e => by rw [e] at h; simp at h)
  refine Nat.le_trans ?_ h1
  unfold M.W72
  rw [← pow_two]
  exact Nat.pow_le_pow_right (by decide) (by omega)

set_option maxRecDepth 100000 in
set_option maxHeartbeats 1000000 in
theorem told_any (m : Bool) (ao : Option Addr) (n cap : Nat) (z : Int) (w : World) (h : NIs w m (.slice ao n cap) z) (hn : n ≤ 10000) :
    Calls Tryd.prog 28 #[.agg #[.bool m, .slice ao n cap]] w fun e w' => Kept w w' ∧ ∃ s ao' n' cap' c, e = .returned (.tuple #[.agg #[.bool s, .slice ao' n' cap'], .int .i64 c]) ∧ Fin w.heap.size w' s (.slice ao' n' cap') c z := by
  obtain ⟨l, hsl, hr, hz⟩ := h
  have e1 := hsl.len
  subst e1
  have H : Hid (Sl w (.slice ao l.length cap) l ∧ Right m l ∧ int m l = z) := ⟨hsl, hr, hz⟩
  clear hsl hr hz
  go_enter Tryd.func28, Tryd.ntmps28
  go_wp2_with fail
  refine (Length_any m ao _ cap _ (by omega)).mono ?_
  rintro e w1 ⟨hk, rfl⟩
  obtain ⟨hA0, hA1, hR0, hR1⟩ := box_kept2 hk
  have hf := hk.frozens
  have HK : Hid (Kept w w1) := (((Kept.refl w).alloc _).alloc _).trans hk
  have HKa : Hid (Kept ((w.alloc (Obj.cells #[.bool m, .slice ao l.length cap] 50)).alloc (Obj.cells #[.bool false, .slice none 0 0] 24)) w1) := hk
  clear hk
  by_cases h72 : 72 < (l.length + 1) / 2
  · have h72' : (72 : Int) < (((l.length + 1) / 2 : Nat) : Int) := by omega
    have HW : Hid (M.W72 ≤ z.natAbs) := by
      show M.W72 ≤ z.natAbs
      rw [← H.out.2.2, D.natAbs_int]
      exact wide_of H.out.2.1.tr h72
    generalize (((l.length + 1) / 2 : Nat) : Int) = q at *
    clear h72
    go_wp2
    exact bodyPost_ret (v := .tuple #[.agg #[.bool false, .slice none 0 0], .int .i64 13]) (by simp [results, Tryd.results28, go_sem, hR0, hR1]) rfl ⟨(HK.out.setCell (by simp) _).setCell (by simp) _, false, none, 0, 0, 13, rfl, .inr ⟨rfl, rfl, rfl, HW.out⟩⟩
  · have h72' : (((l.length + 1) / 2 : Nat) : Int) ≤ 72 := by omega
    have HL : Hid ((l.length + 1) / 2 ≤ 72) := by show _ ≤ _; omega
    generalize (((l.length + 1) / 2 : Nat) : Int) = q at *
    clear h72
    go_wp2_with fail
    refine (Give_any m ao cap l _ (H.out.1.kept HK.out) H.out.2.1.tr hn).mono ?_
    rintro e w2 ⟨hk2, ao', n', cap', l', rfl, hs', ht', hv', hl'⟩
    have hR0 := cell_kept hk2 hR0
    have hR1 := cell_kept hk2 hR1
    have hf2 := (HKa.out.trans hk2).frozens
    have HK : Hid (Kept w w2) := HK.out.trans hk2
    have HR : Hid (Go.Proofs.YthijnnififodjaaDoor.New (w.heap.size + 1 + 1) w2 (.slice ao' n' cap') l' ∧ M.Right m l' ∧ M.int m l' = z) := by
      refine ⟨hs'.mono (by have := HKa.out.size; simpa using this), ⟨hs'.sl.bd, ht', by rw [hl']; exact HL.out, fun e => ?_⟩, ?_⟩
      · apply H.out.2.1.zero
        rw [e] at hl'
        simp at hl'
        exact List.length_eq_zero_iff.1 (by omega)
      · rw [← H.out.2.2]; unfold M.int int; rw [hv']
    clear hk2 hs' ht' hv' hl' HKa hA0 hA1
    go_wp2
    exact bodyPost_ret (v := .tuple #[.agg #[.bool m, .slice ao' n' cap'], .int .i64 0]) (by simp [results, Tryd.results28, go_sem, hR0, hR1]) rfl ⟨(HK.out.setCell (by simp) _).setCell (by simp) _, m, ao', n', cap', 0, rfl, .inl ⟨rfl, l', ((HR.out.1.other (by simp) _).other (by simp) _).mono (by omega), HR.out.2⟩⟩

end D
end Go.Proofs.YthijnnififodjaaDoor
