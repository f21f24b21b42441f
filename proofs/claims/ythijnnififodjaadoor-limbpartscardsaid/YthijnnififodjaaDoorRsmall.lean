/- Small, Length, Minus of package shuntref01. -/
import Derived.Test.YthijnnififodjaaDoorRminus
import Derived.Test.YthijnnififodjaaDoorSsum
namespace Go.Proofs.YthijnnififodjaaDoor
open Go.RowKit
namespace D

theorem one_digit (v : Nat) (h0 : 0 < v) (hv : v < 65536) : D.Bd [v] ∧ D.Tr [v] ∧ D.val [v] = v :=
  ⟨fun x hx => by simp at hx; omega, .inr (by simpa using Nat.ne_of_gt h0), by simp [D.val]⟩

/-- A store into another block. -/
theorem Sl.far {w : World} {b off n cap : Nat} {l : List Nat} (h : Sl w (.slice (some ⟨b, off, none⟩) n cap) l) {p : Addr} (hp : p.block ≠ b) (u : Value) : Sl (w.setCell p u) (.slice (some ⟨b, off, none⟩) n cap) l := by
  obtain ⟨hb, ao, cap', hv, hx⟩ := h
  simp only [Value.slice.injEq] at hv
  obtain ⟨rfl, rfl, rfl⟩ := hv
  refine ⟨hb, _, cap, rfl, fun h0 => ?_⟩
  obtain ⟨h1, b', off', e, hlt, hc⟩ := hx h0
  simp only [Option.some.injEq, Addr.mk.injEq] at e
  obtain ⟨rfl, rfl, _⟩ := e
  exact ⟨h1, b, off, rfl, by rw [World.size_setCell]; exact hlt, fun j hj => by rw [World.cell?_setCell_far _ _ _ _ hp]; exact hc j hj⟩

/-- Two stores into a variable of the struct type: its cells hold no digit. -/
theorem Sl.box {w : World} {v : Value} {l : List Nat} {b : Nat} {q : Bool} {ao : Option Addr} {n cap : Nat} (h : Sl w v l) (h0 : w.cell? ⟨b, 0, none⟩ = some (.bool q)) (h1 : w.cell? ⟨b, 1, none⟩ = some (.slice ao n cap)) (x y : Value) : Sl ((w.setCell ⟨b, 0, none⟩ x).setCell ⟨b, 1, none⟩ y) v l := by
  obtain ⟨hb, ao, cap', rfl, hx⟩ := h
  refine ⟨hb, ao, cap', rfl, fun hl => ?_⟩
  obtain ⟨k1, b', off', rfl, hlt, hc⟩ := hx hl
  refine ⟨k1, b', off', rfl, by rw [World.size_setCell, World.size_setCell]; exact hlt, fun j hj => ?_⟩
  rw [World.cell?_setCell_other _ _ _ _ (fun e => by have := hc j hj; rw [← e, h1] at this; simp at this), World.cell?_setCell_other _ _ _ _ (fun e => by have := hc j hj; rw [← e, h0] at this; simp at this)]
  exact hc j hj

set_option maxRecDepth 100000 in
set_option maxHeartbeats 1000000 in
theorem small_any (v : Nat) (w : World) (hv : v < 65536) :
    Calls Tryd.prog 51 #[.int .i64 (v : Int)] w fun e w' => Kept w w' ∧ ∃ ao n cap l, e = .returned (.agg #[.bool false, .slice ao n cap]) ∧ Sl w' (.slice ao n cap) l ∧ D.Tr l ∧ D.val l = v ∧ l.length ≤ 1 := by
  obtain ⟨i0, hi, hz0, hz1, hz2⟩ := info_parts infoI
  have hml : 0 + 1 ≤ maxLen := by unfold maxLen; omega
  go_enter Tryd.func51, Tryd.ntmps51
  go_wp2
  go_loopw [0] (fun v0 wr => (v0 = .int .i64 (v : Int) ∧ wr = (w.alloc (Obj.cells #[.bool false, .slice none 0 0] 50)).alloc (Obj.cells #[.bool false, .slice none 0 0] 50)) ∨ (v0 = .int .i64 0 ∧ 0 < v ∧ ∃ b cap : Nat, w.heap.size < b ∧ wr.cell? ⟨w.heap.size + 1, 0, none⟩ = some (.bool false) ∧ wr.cell? ⟨w.heap.size + 1, 1, none⟩ = some (.slice (some ⟨b, 0, none⟩) 1 cap) ∧ wr.frozen? ⟨w.heap.size, 0, none⟩ = false ∧ wr.frozen? ⟨w.heap.size, 1, none⟩ = false ∧ (∃ x, wr.cell? ⟨w.heap.size, 0, none⟩ = some x) ∧ (∃ x, wr.cell? ⟨w.heap.size, 1, none⟩ = some x) ∧ Hid (Kept w wr) ∧ Hid (Sl wr (.slice (some ⟨b, 0, none⟩) 1 cap) [v]))) (fun v0 _ => (intOf v0).toNat)
  case atStart => exact .inl ⟨rfl, rfl⟩
  case round =>
    rcases hrel with ⟨rfl, rfl⟩ | ⟨rfl, hv0, b, cap, hb, hc0, hc1, hf0, hf1, ⟨x0, hx0⟩, ⟨x1, hx1⟩, hk3, hsl⟩
    · by_cases h0 : v = 0
      · subst h0
        go_wp2
        exact bodyPost_ret (v := .agg #[.bool false, .slice none 0 0]) (by simp [results, Tryd.results51, go_sem]) rfl ⟨((Kept.refl w).alloc _).alloc _, none, 0, 0, [], rfl, Sl.nil _ _ _, .inl rfl, rfl, by simp⟩
      · have h1 : 0 < v := by omega
        go_wp2
        go_roundw
        case rel =>
          have hcap := grownCap_ge w 1 0 3
          refine .inr ⟨by go_num, h1, w.heap.size + 1 + 1 + 1, grownCap w 1 0 3, by omega, ?_, ?_, ?_, ?_, ?_, ?_, (((((Kept.refl w).alloc _).alloc _).alloc _).alloc _).drew, (one_digit v h1 hv).1, _, _, rfl, fun _ => ⟨hcap, _, _, rfl, ?_, fun j hj => ?_⟩⟩
          · rw [(((Kept.refl ((w.alloc (Obj.cells #[.bool false, .slice none 0 0] 50)).alloc _)).alloc _).alloc _).drew.cells (w.heap.size + 1) _ (by simp)]; simp
          · rw [(((Kept.refl ((w.alloc (Obj.cells #[.bool false, .slice none 0 0] 50)).alloc _)).alloc _).alloc _).drew.cells (w.heap.size + 1) _ (by simp)]; simp; rfl
          · rw [((((Kept.refl (w.alloc (Obj.cells #[.bool false, .slice none 0 0] 50))).alloc _).alloc _).alloc _).drew.frozens _ _ (by simp)]; simp
          · rw [((((Kept.refl (w.alloc (Obj.cells #[.bool false, .slice none 0 0] 50))).alloc _).alloc _).alloc _).drew.frozens _ _ (by simp)]; simp
          · exact ⟨_, (box_kept (w := w) ((((Kept.refl _).alloc _).alloc _).alloc _).drew).1⟩
          · exact ⟨_, (box_kept (w := w) ((((Kept.refl _).alloc _).alloc _).alloc _).drew).2⟩
          · simp
          · have : j = 0 := by simpa using hj
            subst this
            rw [show (v : Int) % 65536 = v by omega]
            refine Eq.trans (b := ((#[Value.int .i64 (v : Int)] ++ Builtin.zeroCells #[Value.int .i64 0] (grownCap w 1 0 3 - 1)) : Array Value)[0]?) ?_ ?_
            · exact World.cell?_alloc_at _ _ _ _ (by simp)
            · rw [Array.getElem?_append_left (by simp)]; rfl
        case measure => simp [intOf]; omega
    · go_wp2
      exact bodyPost_ret (v := .agg #[.bool false, .slice (some ⟨b, 0, none⟩) 1 cap]) (by simp [results, Tryd.results51, go_sem, hx0, hx1]) rfl ⟨(hk3.out.setCell (by simp) _).setCell (by simp) _, _, 1, cap, [v], rfl, (hsl.out.far (by simp; omega) _).far (by simp; omega) _, (one_digit v hv0 hv).2.1, (one_digit v hv0 hv).2.2, by simp⟩

theorem Length_any (m : Bool) (ao : Option Addr) (n cap : Nat) (w : World) (hn : n ≤ 1000000) :
    Calls Tryd.prog 52 #[.agg #[.bool m, .slice ao n cap]] w fun e w' => Kept w w' ∧ e = .returned (.int .i64 (((n + 1) / 2 : Nat) : Int)) := by
  go_enter Tryd.func52, Tryd.ntmps52
  go_wp2
  go_ret
  exact ⟨(Kept.refl w).alloc _, ret_i64 (by simp)⟩

/-- The value is a number of the reference's, and tells z. -/
def NIs (w : World) (s : Bool) (v : Value) (z : Int) : Prop := ∃ l, Sl w v l ∧ Right s l ∧ int s l = z

theorem NIs.kept {w w' : World} {s : Bool} {v : Value} {z : Int} (h : NIs w s v z) (k : Kept w w') : NIs w' s v z := by
  obtain ⟨l, h1, h2⟩ := h
  exact ⟨l, h1.kept k, h2⟩

set_option maxHeartbeats 1000000 in
theorem Minus_any (m : Bool) (ao : Option Addr) (n cap : Nat) (z : Int) (w : World) (h : NIs w m (.slice ao n cap) z) (hn : n ≤ 1000000) :
    Calls Tryd.prog 55 #[.agg #[.bool m, .slice ao n cap]] w fun e w' => Kept w w' ∧ ∃ s ao' cap', e = .returned (.agg #[.bool s, .slice ao' n cap']) ∧ NIs w' s (.slice ao' n cap') (-z) := by
  obtain ⟨l, hsl, hr, hi⟩ := h
  have hlen : n = l.length := by
    obtain ⟨_, _, _, hv, _⟩ := hsl
    simp only [Value.slice.injEq] at hv
    exact hv.2.1
  by_cases h0 : n = 0
  · subst h0
    have e : l = [] := List.length_eq_zero_iff.1 hlen.symm
    subst e
    have hz : z = 0 := by rw [← hi]; unfold int; cases m <;> simp [D.val]
    subst hz
    clear hsl hr hi hlen
    go_enter Tryd.func55, Tryd.ntmps55
    go_wp2
    exact bodyPost_ret (v := .agg #[.bool false, .slice none 0 0]) (by simp [results, Tryd.results55, go_sem]) rfl ⟨((Kept.refl w).alloc _).alloc _, false, none, 0, rfl, [], Sl.nil _ _ _, ⟨D.Bd_nil, .inl rfl, fun _ => rfl⟩, rfl⟩
  · have H : Hid (Sl w (.slice ao n cap) l ∧ Right (!m) l ∧ int (!m) l = -z) := by
      refine ⟨hsl, ⟨hr.bd, hr.tr, fun e => ?_⟩, ?_⟩
      · rw [e] at hlen; simp at hlen; omega
      · rw [← hi]; unfold int; cases m <;> simp
    clear hsl hr hi hlen
    go_enter Tryd.func55, Tryd.ntmps55
    go_wp2
    exact bodyPost_ret (v := .agg #[.bool (!m), .slice ao n cap]) (by simp [results, Tryd.results55, go_sem]) rfl ⟨((Kept.refl w).alloc _).alloc _, _, _, _, rfl, l, H.out.1.kept (((Kept.refl w).alloc _).alloc _), H.out.2⟩

end D
end Go.Proofs.YthijnnififodjaaDoor
