/- A list of fractions that came in as an argument: what its reading gives the walk. -/
import Derived.Test.YtfpcoolkkmnngaaOpenr
import Derived.Test.YtfpcoolkkmnngaaGal
import Derived.Deep.Slices
namespace Go.Proofs.Ytfpcoolkkmnngaa
open Go.ChangeShapes Go.WideShapes Go.ChangeAt Go.RowKit Go.Joins Go.Deep

set_option maxRecDepth 100000 in
theorem open_four {H : Type} {enc : TypeId × Value → H} {W : World} {fuel : Nat} {c0 c1 c2 c3 : Value} {y : DataW H × List MemPlace} (h : DataW.trod enc Try.prog W 0 (fun _ => true) true fuel 26 [c0, c1, c2, c3] = some y) :
    ∃ m ao k c l n ap k' c' l', c0 = .bool m ∧ c1 = .slice ao k c ∧ c2 = .bool n ∧ c3 = .slice ap k' c' ∧ Sl W (.slice ao k c) l ∧ Sl W (.slice ap k' c') l' ∧ l.length ≤ 9223372036854775807 ∧ l'.length ≤ 9223372036854775807 := by
  obtain ⟨y0, y1, n, _, _, h0, h1⟩ := trod_struct2 (cs := [c0, c1, c2, c3]) Try.underlying26 h
  simp only [cells_int, List.drop_zero, List.take_succ_cons, List.take_zero] at h0
  simp only [cells_int, List.drop_succ_cons, List.drop_zero, List.take_succ_cons, List.take_zero] at h1
  obtain ⟨m, ao, k, c, l, rfl, rfl, s1, l1⟩ := open_two h0
  obtain ⟨n, ap, k', c', l', rfl, rfl, s2, l2⟩ := open_two h1
  exact ⟨m, ao, k, c, l, n, ap, k', c', l', rfl, rfl, rfl, rfl, s1, s2, l1, l2⟩

/-- One fraction of a list. -/
structure RatAt (W : World) (b o : Nat) (x : Bool × Option Addr × Nat × Nat × List Nat × Bool × Option Addr × Nat × Nat × List Nat) : Prop where
  c : W.cell? ⟨b, o, none⟩ = some (.bool x.1) ∧ W.cell? ⟨b, o + 1, none⟩ = some (.slice x.2.1 x.2.2.1 x.2.2.2.1) ∧ W.cell? ⟨b, o + 2, none⟩ = some (.bool x.2.2.2.2.2.1) ∧ W.cell? ⟨b, o + 3, none⟩ = some (.slice x.2.2.2.2.2.2.1 x.2.2.2.2.2.2.2.1 x.2.2.2.2.2.2.2.2.1)
  s : Sl W (.slice x.2.1 x.2.2.1 x.2.2.2.1) x.2.2.2.2.1 ∧ Sl W (.slice x.2.2.2.2.2.2.1 x.2.2.2.2.2.2.2.1 x.2.2.2.2.2.2.2.2.1) x.2.2.2.2.2.2.2.2.2 ∧ x.2.2.2.2.1.length ≤ 9223372036854775807 ∧ x.2.2.2.2.2.2.2.2.2.length ≤ 9223372036854775807

set_option maxRecDepth 100000 in
theorem open_Rats {H : Type} {enc : TypeId × Value → H} {W : World} {r : Reach} {b0 : Nat} {v : Value} {d : DataW H} {p : List MemPlace} (hv : Value.okWide Try.prog W r b0 29 v)
    (h : DataW.Trod enc Try.prog W 0 (fun _ => true) true 29 v d p) : ∃ (ao : Option Addr) (b off N cap : Nat) (m n : Nat → Bool) (aa ad : Nat → Option Addr) (ka ca kd cd : Nat → Nat) (a dd : Nat → List Nat), v = .slice ao N cap ∧ (0 < N → ao = some ⟨b, off, none⟩) ∧ N ≤ 9223372036854775807 ∧ F.RatAll W b off N m n aa ad ka ca kd cd a dd := by
  obtain ⟨a0, len0, cap0, rfl⟩ := okWide_slice Try.underlying29 hv
  obtain ⟨fuel, hf⟩ := h
  rcases open_slice Try.underlying29 hf with ⟨hcs, _⟩ | ⟨a, len, cap, mm, nn, D, Pl, hcs, _, hl, hm, hmm, _, hx⟩
  · have hcs' : [Value.slice a0 len0 cap0] = [Value.slice none 0 0] := hcs
    simp at hcs'
    obtain ⟨rfl, rfl, rfl⟩ := hcs'
    exact ⟨none, 0, 0, 0, 0, fun _ => false, fun _ => false, fun _ => none, fun _ => none, fun _ => 0, fun _ => 0, fun _ => 0, fun _ => 0, fun _ => [], fun _ => [], rfl, fun h => by omega, by omega, fun i hi => by omega⟩
  · have hcs' : [Value.slice a0 len0 cap0] = [Value.slice (some a) len cap] := hcs
    simp at hcs'
    obtain ⟨rfl, rfl, rfl⟩ := hcs'
    have hlen : len0 ≤ 9223372036854775807 := by unfold maxLen at hm; omega
    rw [if_pos rfl] at hmm
    by_cases hN : 0 < len0
    · have hspot : a.spot = none := by
        obtain ⟨cs', h1, _⟩ := hx 0 (by omega)
        rw [cells_rat] at h1
        obtain ⟨_, hlen4, hc⟩ := World.cells?_some h1
        have h0 := hc 0 (by omega)
        simp [Addr.add] at h0
        exact World.cell?_spot (h0.trans (List.getElem?_eq_getElem (by omega)))
      obtain ⟨b, off, spot⟩ := a
      simp at hspot
      subst hspot
      obtain ⟨X, hX⟩ := choose_lt (n := len0) (p := fun i x => RatAt W b (off + i * 4) x) (fun i hi => by
        obtain ⟨cs', h1, h2⟩ := hx i (by omega)
        rw [cells_rat] at h1
        obtain ⟨_, hlen4, hc⟩ := World.cells?_some h1
        match cs', hlen4 with
        | [x0, x1, x2, x3], _ =>
          obtain ⟨m, ao, k, c, l, n, ap, k', c', l', rfl, rfl, rfl, rfl, s1, s2, l1, l2⟩ := open_four h2
          have add4 : ∀ q j, ((⟨b, off, none⟩ : Addr).add q).add j = ⟨b, off + q + j, none⟩ := fun q j => by
            unfold Addr.add
            by_cases hi0 : q = 0 <;> by_cases hj0 : j = 0 <;> simp [hi0, hj0]
          have c0 := hc 0 (by omega)
          have c1 := hc 1 (by omega)
          have c2 := hc 2 (by omega)
          have c3 := hc 3 (by omega)
          rw [add4] at c0 c1 c2 c3
          exact ⟨(m, ao, k, c, l, n, ap, k', c', l'), ⟨c0, c1, c2, c3⟩, s1, s2, l1, l2⟩)
      refine ⟨some ⟨b, off, none⟩, b, off, len0, cap0, fun i => (X i).1, fun i => (X i).2.2.2.2.2.1, fun i => (X i).2.1, fun i => (X i).2.2.2.2.2.2.1, fun i => (X i).2.2.1, fun i => (X i).2.2.2.1, fun i => (X i).2.2.2.2.2.2.2.1, fun i => (X i).2.2.2.2.2.2.2.2.1, fun i => (X i).2.2.2.2.1, fun i => (X i).2.2.2.2.2.2.2.2.2, rfl, fun _ => rfl, hlen, fun i hi => ⟨(hX i hi).c, (hX i hi).s⟩⟩
    · obtain rfl : len0 = 0 := by omega
      exact ⟨some a, 0, 0, 0, cap0, fun _ => false, fun _ => false, fun _ => none, fun _ => none, fun _ => 0, fun _ => 0, fun _ => 0, fun _ => 0, fun _ => [], fun _ => [], rfl, fun h => by omega, by omega, fun i hi => by omega⟩

end Go.Proofs.Ytfpcoolkkmnngaa
