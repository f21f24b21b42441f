/- Add, Sub, of right whole numbers. -/
import Derived.Test.YthijnnififodjaaDoorSsum
namespace Go.Proofs.YthijnnififodjaaDoor
open Go.RowKit

theorem int_neg (n : Bool) (b : List Nat) : M.int (!n) b = -M.int n b := by unfold M.int; cases n <;> simp

set_option maxHeartbeats 1000000 in
theorem add_any (m n : Bool) (va vb : Value) (a b : List Nat) (w : World) (ha : Sl w va a) (hb : Sl w vb b) (hra : R m a) (hrb : R n b) :
    Calls Tryd.prog 17 #[.agg #[.bool m, va], .agg #[.bool n, vb]] w fun e w' => Kept w w' ∧ AnsIs w.heap.size w' e (M.int m a + M.int n b) := by
  obtain ⟨z, hz⟩ : ∃ z, z = M.int m a + M.int n b := ⟨_, rfl⟩
  rw [← hz]
  have HZ : Hid (M.int m a + M.int n b = z) := by rw [hz]; exact rfl
  have HR : Hid (R m a ∧ R n b) := ⟨hra, hrb⟩
  clear hz hra hrb
  have K3 : ∀ x y t, Kept w (((w.alloc x).alloc y).alloc t) := fun x y t => (((Kept.refl w).alloc x).alloc y).alloc t
  go_enter Tryd.func17, Tryd.ntmps17
  go_wp2_with fail
  refine (wrong_no m n va vb a b _ (ha.kept (K3 _ _ _)) (hb.kept (K3 _ _ _)) HR.out.1 HR.out.2).mono ?_
  rintro e w1 ⟨rfl, hk⟩
  have hc := hk.cells
  have HK1 : Hid (Kept w w1) := (K3 _ _ _).trans hk
  have HKa : Hid (Kept (((w.alloc (.cells #[.bool m, va] 24)).alloc (.cells #[.bool n, vb] 24)).alloc (.cells #[.bool false, .slice none 0 0] 24)) w1) := hk
  clear hk
  go_wp2_with fail
  refine (ssum_any m n va vb a b _ (ha.kept HK1.out) (hb.kept HK1.out) (by have := HR.out.1.1; omega) (by have := HR.out.2.1; omega) HR.out.1.tr HR.out.2.tr).mono ?_
  rintro e w2 ⟨hk2, s, ao, nn, cap, c, rfl, hF⟩
  clear hc
  have hKW := HKa.out.trans hk2
  have hc := hKW.cells
  have hf := hKW.frozens
  have HK : Hid (Kept w w2) := HK1.out.trans hk2
  have HF : Hid (Fin (w.heap.size + 1 + 1 + 1) w2 s (.slice ao nn cap) c z) := by
    show Fin _ _ _ _ _ _
    rw [HZ.out] at hF
    exact hF.mono (by have := HKa.out.size; simpa using this)
  clear hk2 hF hKW HKa K3
  go_wp2
  exact bodyPost_ret (v := .tuple #[.agg #[.bool s, .slice ao nn cap], .int .i64 c]) (by simp [results, Tryd.results17, go_sem, hc]) rfl ⟨(HK.out.setCell (by simp; omega) _).setCell (by simp; omega) _, _, _, _, _, _, rfl, ((HF.out.other (by simp) _).other (by simp) _).mono (by omega)⟩

theorem box_kept2 {w w1 : World} {c0 c1 d0 d1 : Value} {t u : TypeId} (h : Kept ((w.alloc (.cells #[c0, c1] t)).alloc (.cells #[d0, d1] u)) w1) :
    w1.cell? ⟨w.heap.size, 0, none⟩ = some c0 ∧ w1.cell? ⟨w.heap.size, 1, none⟩ = some c1 ∧ w1.cell? ⟨w.heap.size + 1, 0, none⟩ = some d0 ∧ w1.cell? ⟨w.heap.size + 1, 1, none⟩ = some d1 := by
  refine ⟨?_, ?_, ?_, ?_⟩ <;> (rw [h.cells _ _ (by simp <;> omega)]; simp)

end Go.Proofs.YthijnnififodjaaDoor
