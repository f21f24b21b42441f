/- What trim does: the noughts at the top are cut off. -/
import Derived.Test.YthijnnififodjaaDoorBase
namespace Go.Proofs.YthijnnififodjaaDoor
open Go.RowKit

set_option maxHeartbeats 400000 in
theorem trim_raw (ao : Option Addr) (cap : Nat) (l : List Nat) (w : World) (h : Sl w (.slice ao l.length cap) l) (hl : l.length ≤ 1000000) :
    Calls Tryd.prog 46 #[.slice ao l.length cap] w fun e w' => w' = w ∧ ∃ n, n ≤ l.length ∧ M.Tr (l.take n) ∧ M.val (l.take n) = M.val l ∧
      e = .returned (if n = 0 then .slice none 0 0 else .slice ao n cap) := by
  obtain ⟨hb, ao', cap', hv, hx⟩ := h
  simp only [Value.slice.injEq, true_and] at hv
  obtain ⟨rfl, rfl⟩ := hv
  obtain ⟨len, hlen⟩ : ∃ len, len = l.length := ⟨_, rfl⟩
  rw [← hlen] at hx hl ⊢
  have HL : Hid (len = l.length) := hlen
  have HX : Hid (0 < len → len ≤ cap ∧ ∃ b off : Nat, ao = some ⟨b, off, none⟩ ∧ b < w.heap.size ∧ ∀ j, j < len → w.cell? ⟨b, off + j, none⟩ = some (.int .u32 ((l.getD j 0 : Nat) : Int))) := hx
  clear hx hlen
  go_enter Tryd.func46, Tryd.ntmps46
  go_wp2
  go_loop [3] (fun n => ∃ k : Nat, k ≤ len ∧ n = .int .i64 k ∧ Hid (∀ j, k ≤ j → l.getD j 0 = 0)) (fun n => (intOf n).toNat)
  case atStart => exact ⟨len, Nat.le_refl _, rfl, fun j hj => by rw [HL.out] at hj; rw [List.getD_eq_getElem?_getD, List.getElem?_eq_none hj]; rfl⟩
  case round =>
    obtain ⟨k, hk, rfl, hz⟩ := hrel
    by_cases h0 : k = 0
    · subst h0
      go_wp2
      go_ret
      exact ⟨rfl, 0, Nat.zero_le _, Or.inl (by simp), M.val_drop_zero hz.out, by simp⟩
    · obtain ⟨hcap, b, off, rfl, hlt, hc⟩ := HX.out (by omega)
      have hck := hc (k - 1) (by omega)
      clear HX hc
      have hbd := hb.getD (k - 1)
      obtain ⟨x, hxe⟩ : ∃ x, x = l.getD (k - 1) 0 := ⟨_, rfl⟩
      rw [← hxe] at hck hbd
      have HXE : Hid (x = l.getD (k - 1) 0) := hxe
      clear hxe
      have h1 : 1 ≤ k := by omega
      by_cases hx0 : x = 0
      · subst hx0
        go_wp2
        go_round
        case rel => exact ⟨k - 1, by omega, by go_num, fun j hj => by
          by_cases e : j = k - 1
          · rw [e]; exact HXE.out.symm
          · exact hz.out j (by omega)⟩
        case measure => simp [intOf]; omega
      · have hx1 : ((x : Int) == 0) = false := by simp; omega
        go_wp2
        go_ret
        refine ⟨rfl, k, hk, Or.inr ?_, M.val_drop_zero hz.out, by rw [if_neg h0]; rfl⟩
        have e1 : (l.take k).length = k := by rw [List.length_take]; have := HL.out; omega
        rw [e1, List.getD_eq_getElem?_getD, List.getElem?_take_of_lt (by omega), ← List.getD_eq_getElem?_getD, ← HXE.out]
        exact hx0

theorem Sl.take {w : World} {ao : Option Addr} {cap : Nat} {l : List Nat} (h : Sl w (.slice ao l.length cap) l) (n : Nat) (hn : n ≤ l.length) :
    Sl w (if n = 0 then .slice none 0 0 else .slice ao n cap) (l.take n) := by
  by_cases h0 : n = 0
  · subst h0; rw [if_pos rfl]; exact Sl.nil _ _ _
  · rw [if_neg h0]
    obtain ⟨hb, ao', cap', hv, hx⟩ := h
    simp only [Value.slice.injEq, true_and] at hv
    obtain ⟨rfl, rfl⟩ := hv
    have e1 : (l.take n).length = n := by rw [List.length_take]; omega
    refine ⟨hb.take n, ao, cap, by rw [e1], fun _ => ?_⟩
    obtain ⟨hc, b, off, e, hlt, hcell⟩ := hx (by omega)
    refine ⟨by omega, b, off, e, hlt, fun j hj => ?_⟩
    rw [e1] at hj
    rw [hcell j (by omega), List.getD_eq_getElem?_getD, List.getD_eq_getElem?_getD, List.getElem?_take_of_lt hj]

/-- The same of a row of its own. -/
theorem trim_new {B b N len : Nat} {l : List Nat} (w : World) (h : New B w (.slice (some ⟨b, 0, none⟩) len N) l) (hl : l.length ≤ 1000000) :
    Calls Tryd.prog 46 #[.slice (some ⟨b, 0, none⟩) len N] w fun e w' => w' = w ∧ ∃ v' l', e = .returned v' ∧ New B w v' l' ∧ M.Tr l' ∧ M.val l' = M.val l ∧ l'.length ≤ l.length := by
  have e := h.len
  subst e
  refine (trim_raw _ _ l w h.sl hl).mono ?_
  rintro e w' ⟨rfl, n, hn, ht, hval, rfl⟩
  exact ⟨rfl, _, _, rfl, h.take n hn, ht, hval, by rw [List.length_take]; omega⟩

theorem trim_any {v : Value} {l : List Nat} (w : World) (h : Sl w v l) (hl : l.length ≤ 1000000) :
    Calls Tryd.prog 46 #[v] w fun e w' => w' = w ∧ ∃ v' l', e = .returned v' ∧ Sl w v' l' ∧ M.Tr l' ∧ M.val l' = M.val l ∧ l'.length ≤ l.length := by
  have h' := h
  obtain ⟨hb, ao, cap, rfl, hx⟩ := h
  refine (trim_raw ao cap l w h' hl).mono ?_
  rintro e w' ⟨rfl, n, hn, ht, hval, rfl⟩
  exact ⟨rfl, _, _, rfl, h'.take n hn, ht, hval, by rw [List.length_take]; omega⟩

end Go.Proofs.YthijnnififodjaaDoor
