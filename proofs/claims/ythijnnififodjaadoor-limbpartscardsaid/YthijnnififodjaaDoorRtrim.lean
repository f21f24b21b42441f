/- trim of package shuntref01: the noughts at the top are cut off. -/
import Derived.Test.YthijnnififodjaaDoorRbase
namespace Go.Proofs.YthijnnififodjaaDoor
open Go.RowKit
namespace D

theorem Sl.take {w : World} {ao : Option Addr} {cap : Nat} {l : List Nat} (h : Sl w (.slice ao l.length cap) l) (n : Nat) (hn : n ≤ l.length) :
    Sl w (.slice ao n cap) (l.take n) := by
  have e1 : (l.take n).length = n := by rw [List.length_take]; omega
  obtain ⟨hb, ao', cap', hv, hx⟩ := h
  simp only [Value.slice.injEq, true_and] at hv
  obtain ⟨rfl, rfl⟩ := hv
  refine ⟨hb.take n, ao, cap, by rw [e1], fun h0 => ?_⟩
  rw [e1] at h0
  obtain ⟨hc, b, off, e, hlt, hcell⟩ := hx (by omega)
  refine ⟨by omega, b, off, e, hlt, fun j hj => ?_⟩
  rw [e1] at hj
  rw [hcell j (by omega), List.getD_eq_getElem?_getD, List.getD_eq_getElem?_getD, List.getElem?_take_of_lt hj]

set_option maxHeartbeats 400000 in
theorem trim_raw (ao : Option Addr) (cap : Nat) (l : List Nat) (w : World) (h : Sl w (.slice ao l.length cap) l) (hl : l.length ≤ 1000000) :
    Calls Tryd.prog 48 #[.slice ao l.length cap] w fun e w' => w' = w ∧ ∃ n, n ≤ l.length ∧ D.Tr (l.take n) ∧ D.val (l.take n) = D.val l ∧
      ∃ ao' cap', e = .returned (.slice ao' n cap') ∧ (0 < n → ao' = ao ∧ cap' = cap) := by
  obtain ⟨hb, ao', cap', hv, hx⟩ := h
  simp only [Value.slice.injEq, true_and] at hv
  obtain ⟨rfl, rfl⟩ := hv
  obtain ⟨len, hlen⟩ : ∃ len, len = l.length := ⟨_, rfl⟩
  rw [← hlen] at hx hl ⊢
  have HL : Hid (len = l.length) := hlen
  have HX : Hid (0 < len → len ≤ cap ∧ ∃ b off : Nat, ao = some ⟨b, off, none⟩ ∧ b < w.heap.size ∧ ∀ j, j < len → w.cell? ⟨b, off + j, none⟩ = some (.int .i64 ((l.getD j 0 : Nat) : Int))) := hx
  clear hx hlen
  go_enter Tryd.func48, Tryd.ntmps48
  go_wp2
  go_loop [3] (fun n => ∃ k : Nat, k ≤ len ∧ n = .int .i64 k ∧ Hid (∀ j, k ≤ j → l.getD j 0 = 0)) (fun n => (intOf n).toNat)
  case atStart => exact ⟨len, Nat.le_refl _, rfl, fun j hj => by rw [HL.out] at hj; rw [List.getD_eq_getElem?_getD, List.getElem?_eq_none hj]; rfl⟩
  case round =>
    obtain ⟨k, hk, rfl, hz⟩ := hrel
    by_cases h0 : k = 0
    · subst h0
      cases ao with
      | none =>
        go_wp2
        go_ret
        exact ⟨rfl, 0, Nat.zero_le _, Or.inl (by simp), D.val_drop_zero hz.out, _, _, rfl, fun h => absurd h (by decide)⟩
      | some p =>
        go_wp2
        go_ret
        exact ⟨rfl, 0, Nat.zero_le _, Or.inl (by simp), D.val_drop_zero hz.out, _, _, rfl, fun h => absurd h (by decide)⟩
    · obtain ⟨hcap, b, off, rfl, hlt, hc⟩ := HX.out (by omega)
      have hck := hc (k - 1) (by omega)
      clear HX hc
      have hbd := hb.getD (k - 1)
      obtain ⟨x, hxe⟩ : ∃ x, x = l.getD (k - 1) 0 := ⟨_, rfl⟩
      rw [← hxe] at hck hbd
      have HXE : Hid (x = l.getD (k - 1) 0) := hxe
      clear hxe
      have h1 : 1 ≤ k := by omega
      by_cases hx0 : x = 0
      · subst hx0
        go_wp2
        go_round
        case rel => exact ⟨k - 1, by omega, by go_num, fun j hj => by
          by_cases e : j = k - 1
          · rw [e]; exact HXE.out.symm
          · exact hz.out j (by omega)⟩
        case measure => simp [intOf]; omega
      · have hx1 : ((x : Int) == 0) = false := by simp; omega
        go_wp2
        go_ret
        refine ⟨rfl, k, hk, Or.inr ?_, D.val_drop_zero hz.out, _, _, rfl, fun _ => ⟨rfl, rfl⟩⟩
        have e1 : (l.take k).length = k := by rw [List.length_take]; have := HL.out; omega
        rw [e1, List.getD_eq_getElem?_getD, List.getElem?_take_of_lt (by omega), ← List.getD_eq_getElem?_getD, ← HXE.out]
        exact hx0

theorem trim_any {v : Value} {l : List Nat} (w : World) (h : Sl w v l) (hl : l.length ≤ 1000000) :
    Calls Tryd.prog 48 #[v] w fun e w' => w' = w ∧ ∃ v' l', e = .returned v' ∧ Sl w v' l' ∧ D.Tr l' ∧ D.val l' = D.val l ∧ l'.length ≤ l.length := by
  have h' := h
  obtain ⟨hb, ao, cap, rfl, hx⟩ := h
  refine (trim_raw ao cap l w h' hl).mono ?_
  rintro e w' ⟨rfl, n, hn, ht, hval, ao', cap', rfl, hsame⟩
  have e1 : (l.take n).length = n := by rw [List.length_take]; omega
  refine ⟨rfl, _, _, rfl, ?_, ht, hval, by rw [List.length_take]; omega⟩
  by_cases h0 : 0 < n
  · obtain ⟨rfl, rfl⟩ := hsame h0
    exact h'.take n hn
  · have : n = 0 := by omega
    subst this
    exact Sl.nil _ _ _

/-- Digits that read as l and, where there are any, lie from block B on. -/
def NewE (B : Nat) (w : World) (v : Value) (l : List Nat) : Prop := Sl w v l ∧ (0 < l.length → ∃ b n cap, v = .slice (some ⟨b, 0, none⟩) n cap ∧ B ≤ b)

theorem New.newE {B : Nat} {w : World} {v : Value} {l : List Nat} (h : New B w v l) : NewE B w v l := by
  refine ⟨h.sl, fun h0 => ?_⟩
  obtain ⟨_, ⟨_, rfl⟩ | ⟨b, N, f, rfl, hB, _⟩⟩ := h
  · simp at h0
  · exact ⟨b, _, _, rfl, hB⟩

theorem NewE.kept {B : Nat} {w w' : World} {v : Value} {l : List Nat} (h : NewE B w v l) (k : Kept w w') : NewE B w' v l := ⟨h.1.kept k, h.2⟩
theorem NewE.mono {B B' : Nat} {w : World} {v : Value} {l : List Nat} (h : NewE B w v l) (hB : B' ≤ B) : NewE B' w v l := ⟨h.1, fun h0 => by
  obtain ⟨b, n, cap, e, hb⟩ := h.2 h0
  exact ⟨b, n, cap, e, by omega⟩⟩

/-- A store elsewhere leaves them. -/
theorem NewE.other {B : Nat} {w : World} {v : Value} {l : List Nat} (h : NewE B w v l) {p : Addr} (hp : p.block < B) (u : Value) : Sl (w.setCell p u) v l := by
  obtain ⟨⟨hb, ao, cap, rfl, hx⟩, h2⟩ := h
  refine ⟨hb, ao, cap, rfl, fun h0 => ?_⟩
  obtain ⟨h3, b, off, rfl, hlt, hc⟩ := hx h0
  refine ⟨h3, b, off, rfl, by simpa using hlt, fun j hj => ?_⟩
  obtain ⟨b', n', c', e, hB⟩ := h2 h0
  simp only [Value.slice.injEq, Option.some.injEq, Addr.mk.injEq] at e
  obtain ⟨⟨rfl, _, _⟩, _, _⟩ := e
  rw [World.cell?_setCell_other _ _ _ _ (by intro e; rw [e] at hp; simp at hp; omega)]
  exact hc j hj

theorem NewE.otherE {B : Nat} {w : World} {v : Value} {l : List Nat} (h : NewE B w v l) {p : Addr} (hp : p.block < B) (u : Value) : NewE B (w.setCell p u) v l := ⟨h.other hp u, h.2⟩

theorem trim_newE {B : Nat} {v : Value} {l : List Nat} (w : World) (h : New B w v l) (hl : l.length ≤ 1000000) :
    Calls Tryd.prog 48 #[v] w fun e w' => w' = w ∧ ∃ v' l', e = .returned v' ∧ NewE B w v' l' ∧ D.Tr l' ∧ D.val l' = D.val l ∧ l'.length ≤ l.length := by
  have h' := h.sl
  have hE := h.newE
  obtain ⟨hb, ao, cap, rfl, hx⟩ := h.sl
  refine (trim_raw ao cap l w h' hl).mono ?_
  rintro e w' ⟨rfl, n, hn, ht, hval, ao', cap', rfl, hsame⟩
  have e1 : (l.take n).length = n := by rw [List.length_take]; omega
  refine ⟨rfl, _, _, rfl, ?_, ht, hval, by rw [List.length_take]; omega⟩
  by_cases h0 : 0 < n
  · obtain ⟨rfl, rfl⟩ := hsame h0
    refine ⟨h'.take n hn, fun _ => ?_⟩
    obtain ⟨b, m, c, e, hB⟩ := hE.2 (by omega)
    simp only [Value.slice.injEq] at e
    exact ⟨b, n, _, by rw [e.1], hB⟩
  · have : n = 0 := by omega
    subst this
    exact ⟨Sl.nil _ _ _, fun h => by simp at h⟩

end D
end Go.Proofs.YthijnnififodjaaDoor
