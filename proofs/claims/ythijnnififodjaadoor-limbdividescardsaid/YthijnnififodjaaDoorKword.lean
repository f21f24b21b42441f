/- toWord of limb. -/
import Derived.Test.YthijnnififodjaaDoorLcom
namespace Go.Proofs.YthijnnififodjaaDoor
open Go.RowKit

set_option maxHeartbeats 1000000 in
theorem toWord_any {v : Value} {l : List Nat} (w : World) (h : Sl w v l) (hl : l.length ≤ 2) :
    Calls Tryd.prog 62 #[v] w fun e w' => Kept w w' ∧ e = .returned (.int .u64 ((M.val l : Nat) : Int)) := by
  have h1 := h.bd.getD 1
  have h0 := h.bd.getD 0
  have hv : M.val l = l.getD 1 0 * 4294967296 + l.getD 0 0 := by
    match l, hl with
    | [], _ => rfl
    | [x], _ => simp [M.val]
    | [x, y], _ => simp [M.val]; omega
  rw [hv]
  have HL : Hid (Sl w v l) := h
  have c1 : Calls Tryd.prog 72 #[v, .int .i64 1] w fun e w' => e = .returned (.int .u64 ((l.getD 1 0 : Nat) : Int)) ∧ w' = w := limbAt_any w h 1 (by omega) (by omega)
  have c0 : Calls Tryd.prog 72 #[v, .int .i64 0] w fun e w' => e = .returned (.int .u64 ((l.getD 0 0 : Nat) : Int)) ∧ w' = w := limbAt_any w h 0 (by omega) (by omega)
  generalize l.getD 1 0 = x at *
  generalize l.getD 0 0 = y at *
  have C1 : Hid (Calls Tryd.prog 72 #[v, .int .i64 1] w fun e w' => e = .returned (.int .u64 (x : Int)) ∧ w' = w) := c1
  have C0 : Hid (Calls Tryd.prog 72 #[v, .int .i64 0] w fun e w' => e = .returned (.int .u64 (y : Int)) ∧ w' = w) := c0
  have hor := or_low x y h1 h0
  clear c1 c0 hv h
  go_enter Tryd.func62, Tryd.ntmps62
  go_wp2_with fail
  refine C1.out.mono ?_
  rintro e w1 ⟨rfl, rfl⟩
  go_wp2_with fail
  refine C0.out.mono ?_
  rintro e w1 ⟨rfl, rfl⟩
  go_wp2
  go_ret
  exact ⟨Kept.refl _, by simp⟩

end Go.Proofs.YthijnnififodjaaDoor
