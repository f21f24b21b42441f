/- Check, Right, wrong: whether a whole number is right. -/
import Derived.Test.YthijnnififodjaaDoorBase
namespace Go.Proofs.YthijnnififodjaaDoor
open Go.RowKit

/-- A right whole number, as the code tests it. -/
def R (neg : Bool) (l : List Nat) : Prop := l.length ≤ 72 ∧ (l.length = 0 → neg = false) ∧ (0 < l.length → l.getD (l.length - 1) 0 ≠ 0)

theorem R.right {neg : Bool} {l : List Nat} (h : R neg l) (hb : M.Bd l) : M.Right neg l :=
  ⟨hb, by by_cases h0 : l.length = 0; exact .inl h0; exact .inr (h.2.2 (by omega)), h.1, fun e => h.2.1 (by simp [e])⟩

theorem R.of_right {neg : Bool} {l : List Nat} (h : M.Right neg l) : R neg l :=
  ⟨h.len, fun e => h.zero (List.length_eq_zero_iff.1 e), fun h0 => by rcases h.tr with h1 | h1; omega; exact h1⟩

theorem R.tr {neg : Bool} {l : List Nat} (h : R neg l) : M.Tr l := by
  by_cases h0 : l.length = 0
  · exact .inl h0
  · exact .inr (h.2.2 (by omega))

theorem cell_alloc_old {w : World} {b o : Nat} {v : Value} (hb : b < w.heap.size) (h : w.cell? ⟨b, o, none⟩ = some v) (x : Obj) : (w.alloc x).cell? ⟨b, o, none⟩ = some v :=
  (((Below.refl _ w).alloc (Nat.le_refl _) x).cell (p := ⟨b, o, none⟩) hb).trans h

set_option maxHeartbeats 1000000 in
theorem check_yes (neg : Bool) (v : Value) (l : List Nat) (w : World) (h : Sl w v l) (hr : R neg l) :
    Calls Tryd.prog 21 #[.agg #[.bool neg, v]] w fun e w' => e = .returned (.int .i64 0) ∧ Kept w w' := by
  obtain ⟨hb, ao, cap, rfl, hx⟩ := h
  obtain ⟨h1, h2, h3⟩ := hr
  by_cases h0 : l.length = 0
  · have h2 := h2 h0
    subst h2
    clear hx h3
    obtain ⟨n, hn⟩ : ∃ n, n = l.length := ⟨_, rfl⟩
    rw [← hn] at h0 h1 ⊢
    subst h0
    clear hn h1
    go_enter Tryd.func21, Tryd.ntmps21
    go_wp2
    go_ret
    exact ⟨rfl, (Kept.refl w).alloc _⟩
  · obtain ⟨_, b, off, rfl, hlt, hc⟩ := hx (by omega)
    have hc := hc (l.length - 1) (by omega)
    have h3 := h3 (by omega)
    have hbd := hb.getD (l.length - 1)
    obtain ⟨x, hxe⟩ : ∃ x, x = l.getD (l.length - 1) 0 := ⟨_, rfl⟩
    rw [← hxe] at hc h3 hbd
    clear hxe hx h2
    obtain ⟨n, hn⟩ : ∃ n, n = l.length := ⟨_, rfl⟩
    rw [← hn] at h0 h1 hc ⊢
    have hca := cell_alloc_old hlt hc
    have h4 : 1 ≤ n := by omega
    have hx0 : ((x : Int) == 0) = false := by simp; omega
    clear hn hc
    go_enter Tryd.func21, Tryd.ntmps21
    go_wp2
    go_ret
    refine ⟨?_, (Kept.refl w).alloc _⟩
    first | rfl | exact ret_bool (by rw [bne, hx0]; rfl)

set_option maxHeartbeats 1000000 in
theorem check_no (neg : Bool) (v : Value) (l : List Nat) (w : World) (h : Sl w v l) (hl : l.length ≤ 9223372036854775807) (hr : ¬ R neg l) :
    Calls Tryd.prog 21 #[.agg #[.bool neg, v]] w fun e w' => e = .returned (.int .i64 10) ∧ Kept w w' := by
  obtain ⟨hb, ao, cap, rfl, hx⟩ := h
  by_cases h1 : 72 < l.length
  · clear hx hr
    obtain ⟨n, hn⟩ : ∃ n, n = l.length := ⟨_, rfl⟩
    rw [← hn] at h1 hl ⊢
    clear hn
    go_enter Tryd.func21, Tryd.ntmps21
    go_wp2
    go_ret
    exact ⟨rfl, (Kept.refl w).alloc _⟩
  by_cases h0 : l.length = 0
  · have h2 : neg = true := by
      cases neg
      · exact absurd ⟨by omega, fun _ => rfl, fun h => by omega⟩ hr
      · rfl
    subst h2
    clear hx hr h1 hl
    obtain ⟨n, hn⟩ : ∃ n, n = l.length := ⟨_, rfl⟩
    rw [← hn] at h0 ⊢
    subst h0
    clear hn
    go_enter Tryd.func21, Tryd.ntmps21
    go_wp2
    go_ret
    exact ⟨rfl, (Kept.refl w).alloc _⟩
  · obtain ⟨_, b, off, rfl, hlt, hc⟩ := hx (by omega)
    have hc := hc (l.length - 1) (by omega)
    have h3 : l.getD (l.length - 1) 0 = 0 := by
      rcases Nat.eq_zero_or_pos (l.getD (l.length - 1) 0) with h | h
      · exact h
      · exact absurd ⟨by omega, fun h => by omega, fun _ => by omega⟩ hr
    rw [h3] at hc
    clear hx hr h3
    obtain ⟨n, hn⟩ : ∃ n, n = l.length := ⟨_, rfl⟩
    rw [← hn] at h0 h1 hc hl ⊢
    have hca := cell_alloc_old hlt hc
    have h4 : 1 ≤ n := by omega
    have h5 : n ≤ 72 := by omega
    clear hn hc h1
    go_enter Tryd.func21, Tryd.ntmps21
    go_wp2
    go_ret
    exact ⟨rfl, (Kept.refl w).alloc _⟩

set_option maxHeartbeats 1000000 in
theorem right_yes (neg : Bool) (v : Value) (l : List Nat) (w : World) (h : Sl w v l) (hr : R neg l) :
    Calls Tryd.prog 15 #[.agg #[.bool neg, v]] w fun e w' => e = .returned (.bool true) ∧ Kept w w' := by
  obtain ⟨hb, ao, cap, rfl, hx⟩ := h
  obtain ⟨h1, h2, h3⟩ := hr
  by_cases h0 : l.length = 0
  · have h2 := h2 h0
    subst h2
    clear hx h3
    obtain ⟨n, hn⟩ : ∃ n, n = l.length := ⟨_, rfl⟩
    rw [← hn] at h0 h1 ⊢
    subst h0
    clear hn h1
    go_enter Tryd.func15, Tryd.ntmps15
    go_wp2
    go_ret
    exact ⟨rfl, (Kept.refl w).alloc _⟩
  · obtain ⟨_, b, off, rfl, hlt, hc⟩ := hx (by omega)
    have hc := hc (l.length - 1) (by omega)
    have h3 := h3 (by omega)
    have hbd := hb.getD (l.length - 1)
    obtain ⟨x, hxe⟩ : ∃ x, x = l.getD (l.length - 1) 0 := ⟨_, rfl⟩
    rw [← hxe] at hc h3 hbd
    clear hxe hx h2
    obtain ⟨n, hn⟩ : ∃ n, n = l.length := ⟨_, rfl⟩
    rw [← hn] at h0 h1 hc ⊢
    have hca := cell_alloc_old hlt hc
    have h4 : 1 ≤ n := by omega
    have hx0 : ((x : Int) == 0) = false := by simp; omega
    clear hn hc
    go_enter Tryd.func15, Tryd.ntmps15
    go_wp2
    go_ret
    refine ⟨?_, (Kept.refl w).alloc _⟩
    first | rfl | exact ret_bool (by rw [bne, hx0]; rfl)

set_option maxHeartbeats 1000000 in
theorem right_no (neg : Bool) (v : Value) (l : List Nat) (w : World) (h : Sl w v l) (hl : l.length ≤ 9223372036854775807) (hr : ¬ R neg l) :
    Calls Tryd.prog 15 #[.agg #[.bool neg, v]] w fun e w' => e = .returned (.bool false) ∧ Kept w w' := by
  obtain ⟨hb, ao, cap, rfl, hx⟩ := h
  by_cases h1 : 72 < l.length
  · clear hx hr
    obtain ⟨n, hn⟩ : ∃ n, n = l.length := ⟨_, rfl⟩
    rw [← hn] at h1 hl ⊢
    clear hn
    go_enter Tryd.func15, Tryd.ntmps15
    go_wp2
    go_ret
    exact ⟨rfl, (Kept.refl w).alloc _⟩
  by_cases h0 : l.length = 0
  · have h2 : neg = true := by
      cases neg
      · exact absurd ⟨by omega, fun _ => rfl, fun h => by omega⟩ hr
      · rfl
    subst h2
    clear hx hr h1 hl
    obtain ⟨n, hn⟩ : ∃ n, n = l.length := ⟨_, rfl⟩
    rw [← hn] at h0 ⊢
    subst h0
    clear hn
    go_enter Tryd.func15, Tryd.ntmps15
    go_wp2
    go_ret
    exact ⟨rfl, (Kept.refl w).alloc _⟩
  · obtain ⟨_, b, off, rfl, hlt, hc⟩ := hx (by omega)
    have hc := hc (l.length - 1) (by omega)
    have h3 : l.getD (l.length - 1) 0 = 0 := by
      rcases Nat.eq_zero_or_pos (l.getD (l.length - 1) 0) with h | h
      · exact h
      · exact absurd ⟨by omega, fun h => by omega, fun _ => by omega⟩ hr
    rw [h3] at hc
    clear hx hr h3
    obtain ⟨n, hn⟩ : ∃ n, n = l.length := ⟨_, rfl⟩
    rw [← hn] at h0 h1 hc hl ⊢
    have hca := cell_alloc_old hlt hc
    have h4 : 1 ≤ n := by omega
    have h5 : n ≤ 72 := by omega
    clear hn hc h1
    go_enter Tryd.func15, Tryd.ntmps15
    go_wp2
    go_ret
    exact ⟨rfl, (Kept.refl w).alloc _⟩


/-- Cells that were there. -/
theorem Kept.cells {W w1 : World} (h : Kept W w1) : ∀ b o, b < W.heap.size → w1.cell? ⟨b, o, none⟩ = W.cell? ⟨b, o, none⟩ := fun b o hb => Below.cell h (p := ⟨b, o, none⟩) hb
theorem Kept.frozens {W w1 : World} (h : Kept W w1) : ∀ b o, b < W.heap.size → w1.frozen? ⟨b, o, none⟩ = W.frozen? ⟨b, o, none⟩ := fun b o hb => Below.frozen h (p := ⟨b, o, none⟩) hb

theorem cell_kept {W W' : World} (h : Kept W W') {b o : Nat} {v : Value} (hc : W.cell? ⟨b, o, none⟩ = some v) : W'.cell? ⟨b, o, none⟩ = some v :=
  (h.cell (p := ⟨b, o, none⟩) (World.block_lt_of_cell? W _ hc)).trans hc

set_option maxHeartbeats 1000000 in
theorem wrong_no (m n : Bool) (va vb : Value) (a b : List Nat) (w : World) (ha : Sl w va a) (hb : Sl w vb b) (hra : R m a) (hrb : R n b) :
    Calls Tryd.prog 22 #[.agg #[.bool m, va], .agg #[.bool n, vb]] w fun e w' => e = .returned (.bool false) ∧ Kept w w' := by
  go_enter Tryd.func22, Tryd.ntmps22
  go_wp2_with fail
  refine (check_yes m va a _ (ha.kept (((Kept.refl w).alloc _).alloc _)) hra).mono ?_
  rintro e w1 ⟨rfl, hk⟩
  have hc := hk.cells
  have HK : Hid (Kept w w1) := (((Kept.refl w).alloc _).alloc _).trans hk
  clear hk
  go_wp2_with fail
  refine (check_yes n vb b _ (hb.kept HK.out) hrb).mono ?_
  rintro e w2 ⟨rfl, hk2⟩
  have HK2 : Hid (Kept w w2) := HK.out.trans hk2
  clear hk2 hc
  go_wp2
  go_ret
  exact ⟨rfl, HK2.out⟩

set_option maxHeartbeats 1000000 in
theorem wrong_yes (m n : Bool) (va vb : Value) (a b : List Nat) (w : World) (ha : Sl w va a) (hb : Sl w vb b) (hla : a.length ≤ 9223372036854775807) (hlb : b.length ≤ 9223372036854775807) (h : ¬ (R m a ∧ R n b)) :
    Calls Tryd.prog 22 #[.agg #[.bool m, va], .agg #[.bool n, vb]] w fun e w' => e = .returned (.bool true) ∧ Kept w w' := by
  by_cases hra : R m a
  · have hrb : ¬ R n b := fun h2 => h ⟨hra, h2⟩
    clear h
    go_enter Tryd.func22, Tryd.ntmps22
    go_wp2_with fail
    refine (check_yes m va a _ (ha.kept (((Kept.refl w).alloc _).alloc _)) hra).mono ?_
    rintro e w1 ⟨rfl, hk⟩
    have hc := hk.cells
    have HK : Hid (Kept w w1) := (((Kept.refl w).alloc _).alloc _).trans hk
    clear hk
    go_wp2_with fail
    refine (check_no n vb b _ (hb.kept HK.out) hlb hrb).mono ?_
    rintro e w2 ⟨rfl, hk2⟩
    have HK2 : Hid (Kept w w2) := HK.out.trans hk2
    clear hk2 hc
    go_wp2
    go_ret
    exact ⟨rfl, HK2.out⟩
  · clear h
    go_enter Tryd.func22, Tryd.ntmps22
    go_wp2_with fail
    refine (check_no m va a _ (ha.kept (((Kept.refl w).alloc _).alloc _)) hla hra).mono ?_
    rintro e w1 ⟨rfl, hk⟩
    have HK : Hid (Kept w w1) := (((Kept.refl w).alloc _).alloc _).trans hk
    clear hk
    go_wp2
    go_ret
    exact ⟨rfl, HK.out⟩

end Go.Proofs.YthijnnififodjaaDoor
