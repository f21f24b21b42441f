/- signed, answer: a sign and a magnitude as an answer. -/
import Derived.Test.YthijnnififodjaaDoorChk
namespace Go.Proofs.YthijnnififodjaaDoor
open Go.RowKit

set_option maxHeartbeats 1000000 in
theorem signed_any (neg : Bool) (ao : Option Addr) (n cap : Nat) (w : World) (hn : n ≤ 1000000) :
    Calls Tryd.prog 24 #[.bool neg, .slice ao n cap] w fun e w' => e = .returned (.agg #[.bool (neg && decide (0 < n)), .slice ao n cap]) ∧ Kept w w' := by
  cases neg with
  | false =>
    go_enter Tryd.func24, Tryd.ntmps24
    go_wp2
    exact bodyPost_ret (v := .agg #[.bool false, .slice ao n cap]) (by simp [results, Tryd.results24, go_sem]) rfl ⟨by simp, (Kept.refl w).alloc _⟩
  | true =>
    by_cases h0 : 0 < n
    · go_enter Tryd.func24, Tryd.ntmps24
      go_wp2
      exact bodyPost_ret (v := .agg #[.bool true, .slice ao n cap]) (by simp [results, Tryd.results24, go_sem]) rfl ⟨by simp [h0], (Kept.refl w).alloc _⟩
    · have e : n = 0 := by omega
      subst e
      go_enter Tryd.func24, Tryd.ntmps24
      go_wp2
      exact bodyPost_ret (v := .agg #[.bool false, .slice ao 0 cap]) (by simp [results, Tryd.results24, go_sem]) rfl ⟨by simp, (Kept.refl w).alloc _⟩

set_option maxHeartbeats 1000000 in
theorem answer_fits (neg : Bool) (ao : Option Addr) (n cap : Nat) (w : World) (hn : n ≤ 72) :
    Calls Tryd.prog 36 #[.bool neg, .slice ao n cap] w fun e w' => e = .returned (.tuple #[.agg #[.bool (neg && decide (0 < n)), .slice ao n cap], .int .i64 0]) ∧ Kept w w' := by
  obtain ⟨s, hs⟩ : ∃ s, s = (neg && decide (0 < n)) := ⟨_, rfl⟩
  rw [← hs]
  have HS : Hid (s = (neg && decide (0 < n))) := hs
  clear hs
  go_enter Tryd.func36, Tryd.ntmps36
  go_wp2_with fail
  refine (signed_any neg ao n cap _ (by omega)).mono ?_
  rintro e w1 ⟨rfl, hk⟩
  rw [← HS.out]
  have hc := hk.cells
  have hf := hk.frozens
  have HK : Hid (Kept w w1) := ((Kept.refl w).alloc _).trans hk
  have hz : w.heap.size < w1.heap.size := by have := hk.size; simp at this; omega
  clear hk
  go_wp2
  exact bodyPost_ret (v := .tuple #[.agg #[.bool s, .slice ao n cap], .int .i64 0]) (by simp [results, Tryd.results36, go_sem, hc]) rfl ⟨rfl, by
    have := HK.out
    exact (this.setCell (Nat.le_refl _) _).setCell (Nat.le_refl _) _⟩

set_option maxHeartbeats 1000000 in
theorem answer_wide (neg : Bool) (ao : Option Addr) (n cap : Nat) (w : World) (hn : 72 < n) (hl : n ≤ 1000000) :
    Calls Tryd.prog 36 #[.bool neg, .slice ao n cap] w fun e w' => e = .returned (.tuple #[.agg #[.bool false, .slice none 0 0], .int .i64 13]) ∧ Kept w w' := by
  go_enter Tryd.func36, Tryd.ntmps36
  go_wp2
  exact bodyPost_ret (v := .tuple #[.agg #[.bool false, .slice none 0 0], .int .i64 13]) (by simp [results, Tryd.results36, go_sem]) rfl ⟨rfl, (Kept.refl w).alloc _⟩

end Go.Proofs.YthijnnififodjaaDoor
