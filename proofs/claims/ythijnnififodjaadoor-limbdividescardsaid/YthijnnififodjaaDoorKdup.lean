/- duplicate of any magnitude, the empty one too. -/
import Derived.Test.YthijnnififodjaaDoorKdiv
namespace Go.Proofs.YthijnnififodjaaDoor
open Go.RowKit

set_option maxHeartbeats 1000000 in
theorem dup_nil (cap : Nat) (w : World) :
    Calls Tryd.prog 44 #[.slice none 0 cap] w fun e w' => w' = w ∧ e = .returned (.slice none 0 0) := by
  go_enter Tryd.func44, Tryd.ntmps44
  go_wp2
  go_ret
  exact ⟨rfl, rfl⟩

set_option maxHeartbeats 1000000 in
theorem dup_emp (ad : Addr) (cap : Nat) (w : World) :
    Calls Tryd.prog 44 #[.slice (some ad) 0 cap] w fun e w' => w' = w ∧ e = .returned (.slice none 0 0) := by
  go_enter Tryd.func44, Tryd.ntmps44
  go_wp2
  go_ret
  exact ⟨rfl, rfl⟩

theorem dup_any {v : Value} {l : List Nat} (w : World) (h : Sl w v l) (hl : l.length ≤ 1000000) :
    Calls Tryd.prog 44 #[v] w fun e w' => Kept w w' ∧ ∃ v', e = .returned v' ∧ New w.heap.size w' v' l := by
  by_cases h0 : 0 < l.length
  · exact dup_some w h h0 hl
  · have h1 : l = [] := List.length_eq_zero_iff.1 (by omega)
    subst h1
    obtain ⟨_, ao, cap, rfl, _⟩ := h
    cases ao with
    | none =>
      refine (dup_nil cap w).mono ?_
      rintro e w' ⟨rfl, rfl⟩
      exact ⟨Kept.refl _, _, rfl, New.nil _ _⟩
    | some ad =>
      refine (dup_emp ad cap w).mono ?_
      rintro e w' ⟨rfl, rfl⟩
      exact ⟨Kept.refl _, _, rfl, New.nil _ _⟩

end Go.Proofs.YthijnnififodjaaDoor
