/- strconv.AppendUint of 4 onto nil: all that the statements' own wakening asks of it. -/
import Derived.Test.YthijnnififodjaaDoorTxt
namespace Go.Proofs.YthijnnififodjaaDoor
open Go.RowKit

theorem run_app4 (w : World) : ∃ v' w', (Builtin.append_ #[64, 9] 64 #[.slice none 0 0, .string ⟨#[52]⟩]).run Tryd.prog w = .ok v' w' ∧ w'.ownsRow w.heap.size 5 1 v' 1 (bs [52]) ∧ Kept w w' := by
  obtain ⟨i0, hi, hz0, hz1, hz2⟩ := info_parts Tryd.info5
  have hsrc := Src.ofString (P := Tryd.prog) w (tx := 9) Tryd.underlying9 ⟨#[52]⟩
  have hrun := run_append_grow_src (P := Tryd.prog) w 64 9 64 5 i0 (.int .u8 0) Tryd.underlying64 hi hz0 none 0 0 [] (by rw [hz1]; exact run_firstCells_none w.drew 1 0 0 0) (.string ⟨#[52]⟩) 1 (byteCells ⟨#[52]⟩) (by rw [hz1]; exact hsrc) (by omega) (by omega) (by rw [hz2]; decide)
  refine ⟨_, _, hrun, ⟨by simp [bs], .inr ⟨w.heap.size, grownCap w (0 + 1) 0 5, ([] ++ byteCells ⟨#[52]⟩).toArray ++ Builtin.zeroCells (Value.int .u8 0).cells (grownCap w (0 + 1) 0 5 - (0 + 1)), rfl, Nat.le_refl _, ?_, ?_, ?_, ?_, ?_⟩⟩, ?_⟩
  · exact heap_alloc_new w.drew _
  · exact grownCap_ge _ _ _ _
  · exact grownCap_le_maxLen _ _ _ _ (by decide)
  · have h := grownCap_ge w 1 0 5
    simp [byteCells, size_zeroCells, Value.cells]
    omega
  · simp [byteCells, bs]
  · exact (Kept.refl w).drew.alloc _

theorem wpList_app4 (w : World) {ops : Array Oper} {rest : List Oper} {o : Oper} {a : Act} {Q : Exit → Act → World → Prop} (hgd : o.guard = none) (s x : Operand)
    (ho : o.op = .call { callee := .builtin .append, args := #[s, x], argTypes := #[64, 9] }) (hty : o.type = 64) (hs : a.eval s = .slice none 0 0) (hx : a.eval x = .string ⟨#[52]⟩)
    (h : ∀ v' w', w'.ownsRow w.heap.size 5 1 v' 1 (bs [52]) → Kept w w' → wpList Tryd.prog ops Q rest (a.put o.dst v') w') : wpList Tryd.prog ops Q (o :: rest) a w := by
  refine wpList_plain hgd fun K hK => ?_
  obtain ⟨v', w', hrun, h1, h2⟩ := run_app4 w
  unfold Oper.wp execOp
  simp only [ho, hty, resolve, invoke, builtin, Sem.run_bind, Sem.run_pure, Result.andThen_ok, List.map_toArray, List.map_cons, List.map_nil, hs, hx, hrun]
  exact hK _ _ (h v' w' h1 h2)

set_option maxHeartbeats 1000000 in
theorem small_four (w : World) : Calls Tryd.prog 73 #[.int .i64 4] w fun e w' => e = .returned (.string ⟨#[52]⟩) ∧ w' = w := by
  go_enter Tryd.func73, Tryd.ntmps73
  go_wp2
  go_ret
  exact ⟨rfl, rfl⟩

set_option maxHeartbeats 1000000 in
theorem appendUint_four (w : World) : Calls Tryd.prog 42 #[.slice none 0 0, .int .u64 4, .int .i64 10] w fun e w' => Kept w w' ∧ ∃ v', e = .returned v' ∧ w'.ownsRow w.heap.size 5 1 v' 1 (bs [52]) := by
  have H : Hid (∀ w, Calls Tryd.prog 65 #[.slice none 0 0, .int .u64 4, .int .i64 10] w fun e w' => Kept w w' ∧ ∃ v', e = .returned v' ∧ w'.ownsRow w.heap.size 5 1 v' 1 (bs [52])) := by
    intro w
    go_enter Tryd.func65, Tryd.ntmps65
    go_wp2_with fail
    refine (small_four _).mono ?_
    rintro e w1 ⟨rfl, rfl⟩
    go_wp2_with (at_builtin; refine wpList_app4 _ rfl _ _ rfl rfl rfl rfl ?_)
    intro v' w2 ho hk
    have HO : Hid (Kept w1 w2 ∧ w2.ownsRow w1.heap.size 5 1 v' 1 (bs [52])) := ⟨hk, ho⟩
    clear ho hk
    go_wp2
    go_ret
    exact ⟨HO.out.1, v', rfl, HO.out.2⟩
  go_enter Tryd.func42, Tryd.ntmps42
  go_wp2_with fail
  refine (H.out _).mono ?_
  rintro e w1 ⟨hk, v', rfl, ho⟩
  have HO : Hid (Kept w w1 ∧ w1.ownsRow w.heap.size 5 1 v' 1 (bs [52])) := ⟨hk, ho⟩
  clear hk ho H
  go_wp2
  go_ret
  exact ⟨HO.out.1, v', rfl, HO.out.2⟩

end Go.Proofs.YthijnnififodjaaDoor
