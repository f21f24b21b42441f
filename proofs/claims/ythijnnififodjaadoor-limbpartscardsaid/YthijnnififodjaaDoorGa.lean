/- What the statements' walks have in common. An answer is told by its number. -/
import Derived.Test.YthijnnififodjaaDoorAwk
namespace Go.Proofs.YthijnnififodjaaDoor
open Go.RowKit

theorem fin_fits {B : Nat} {w : World} {s : Bool} {v : Value} {c z : Int} (h : Fin B w s v c z) (hz : z.natAbs < M.W72) : c = 0 ∧ ∃ l, New B w v l ∧ M.Right s l ∧ M.int s l = z := by
  rcases h with h | ⟨_, _, _, h⟩
  · exact h
  · omega

theorem Sl.len {w : World} {ao : Option Addr} {n cap : Nat} {l : List Nat} (h : Sl w (.slice ao n cap) l) : n = l.length := by
  obtain ⟨_, ao', cap', he, _⟩ := h
  simp only [Value.slice.injEq] at he
  exact he.2.1

theorem box_kept3 {w w1 : World} {c0 c1 d0 d1 e0 e1 : Value} {t u x : TypeId} (h : Kept (((w.alloc (.cells #[c0, c1] t)).alloc (.cells #[d0, d1] u)).alloc (.cells #[e0, e1] x)) w1) :
    w1.cell? ⟨w.heap.size, 0, none⟩ = some c0 ∧ w1.cell? ⟨w.heap.size, 1, none⟩ = some c1 ∧ w1.cell? ⟨w.heap.size + 1, 0, none⟩ = some d0 ∧ w1.cell? ⟨w.heap.size + 1, 1, none⟩ = some d1 ∧ w1.cell? ⟨w.heap.size + 1 + 1, 0, none⟩ = some e0 ∧ w1.cell? ⟨w.heap.size + 1 + 1, 1, none⟩ = some e1 := by
  obtain ⟨h1, h2, h3, h4⟩ := box_kept2 (((Kept.refl _).alloc _).trans h)
  refine ⟨h1, h2, h3, h4, ?_, ?_⟩ <;> (rw [h.cells _ _ (by simp), World.cell?_alloc_at _ _ _ _ (by simp)]; rfl)

end Go.Proofs.YthijnnififodjaaDoor

namespace Go.Proofs.YthijnnififodjaaDoor
open Go.RowKit

theorem out_of (z : Int) : ∃ (s : Bool) (l : List Nat) (c : Int), l.length ≤ 72 ∧
    (∀ B w e, AnsIs B w e z → ∃ ao n cap, e = .returned (.tuple #[.agg #[.bool s, .slice ao n cap], .int .i64 c]) ∧ New B w (.slice ao n cap) l) := by
  by_cases h : ∃ s l, M.Right s l ∧ M.int s l = z
  · obtain ⟨s, l, hr, hz⟩ := h
    have hlt : z.natAbs < M.W72 := by rw [← hz, M.natAbs_int]; exact M.lt_W72 hr.bd hr.len
    refine ⟨s, l, 0, hr.len, ?_⟩
    · rintro B w e ⟨s', ao, n, cap, c, rfl, ⟨rfl, l', hn, hr', hz'⟩ | ⟨_, _, _, h⟩⟩
      · obtain ⟨rfl, rfl⟩ := M.int_inj hr hr' (hz.trans hz'.symm)
        exact ⟨ao, n, cap, rfl, hn⟩
      · omega
  · refine ⟨false, [], 13, by simp, ?_⟩
    · rintro B w e ⟨s', ao, n, cap, c, rfl, ⟨_, l', _, hr', hz'⟩ | ⟨rfl, rfl, hv, _⟩⟩
      · exact absurd ⟨_, _, hr', hz'⟩ h
      · simp only [Value.slice.injEq] at hv
        obtain ⟨rfl, rfl, rfl⟩ := hv
        exact ⟨none, 0, 0, rfl, New.nil _ _⟩

end Go.Proofs.YthijnnififodjaaDoor
