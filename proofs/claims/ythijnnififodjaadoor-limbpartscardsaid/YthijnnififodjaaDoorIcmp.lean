/- Cmp, of right whole numbers. -/
import Derived.Test.YthijnnififodjaaDoorRing
namespace Go.Proofs.YthijnnififodjaaDoor
open Go.RowKit

/-- -1, 0 or 1. -/
def isgn (x y : Int) : Int := if x < y then -1 else if x = y then 0 else 1

theorem isgn_of {m n : Nat} {x y : Int} (h : m < n ↔ x < y) (h2 : m = n ↔ x = y) : sgn m n = isgn x y := by unfold sgn isgn; simp only [h, h2]

theorem isgn_pos (a b : List Nat) : sgn (M.val a) (M.val b) = isgn (M.int false a) (M.int false b) := by
  have e1 : M.int false a = (M.val a : Int) := by simp [M.int]
  have e2 : M.int false b = (M.val b : Int) := by simp [M.int]
  exact isgn_of (by rw [e1, e2]; omega) (by rw [e1, e2]; omega)

theorem isgn_neg (a b : List Nat) : sgn (M.val b) (M.val a) = isgn (M.int true a) (M.int true b) := by
  have e1 : M.int true a = -(M.val a : Int) := by simp [M.int]
  have e2 : M.int true b = -(M.val b : Int) := by simp [M.int]
  exact isgn_of (by rw [e1, e2]; omega) (by rw [e1, e2]; omega)

theorem int_neg_lt {a : List Nat} (h : R true a) : M.int true a < 0 := by
  have h0 : a ≠ [] := fun e => by have := h.2.1 (by simp [e]); simp at this
  have := M.val_pos h.tr h0
  simp [M.int]; omega

theorem int_pos_ge (a : List Nat) : 0 ≤ M.int false a := by simp [M.int]

set_option maxHeartbeats 1000000 in
theorem icmp_any (m n : Bool) (va vb : Value) (a b : List Nat) (w : World) (ha : Sl w va a) (hb : Sl w vb b) (hra : R m a) (hrb : R n b) :
    Calls Tryd.prog 18 #[.agg #[.bool m, va], .agg #[.bool n, vb]] w fun e w' => e = .returned (.tuple #[.int .i64 (isgn (M.int m a) (M.int n b)), .int .i64 0]) ∧ Kept w w' := by
  have HR : Hid (R m a ∧ R n b) := ⟨hra, hrb⟩
  clear hra hrb
  have K2 : ∀ x y, Kept w ((w.alloc x).alloc y) := fun x y => ((Kept.refl w).alloc x).alloc y
  cases m <;> cases n
  · rw [← isgn_pos]
    obtain ⟨r, hr⟩ : ∃ r, r = sgn (M.val a) (M.val b) := ⟨_, rfl⟩
    rw [← hr]
    have HRR : Hid (r = sgn (M.val a) (M.val b)) := hr
    clear hr
    go_enter Tryd.func18, Tryd.ntmps18
    go_wp2_with fail
    refine (wrong_no _ _ va vb a b _ (ha.kept (K2 _ _)) (hb.kept (K2 _ _)) HR.out.1 HR.out.2).mono ?_
    rintro e w1 ⟨rfl, hk⟩
    obtain ⟨hb0, hb1, hb2, hb3⟩ := box_kept2 hk
    have HK1 : Hid (Kept w w1) := (K2 _ _).trans hk
    clear hk K2
    go_wp2_with fail
    refine (compare_any va vb a b w1 (ha.kept HK1.out) (hb.kept HK1.out) (by have := HR.out.1.1; omega) (by have := HR.out.2.1; omega) HR.out.1.tr HR.out.2.tr).mono ?_
    rintro e w2 ⟨rfl, nq, rfl⟩
    rw [← HRR.out]
    go_wp2
    go_ret2
    exact ⟨rfl, HK1.out.drewN nq⟩
  · have e : isgn (M.int false a) (M.int true b) = 1 := by
      have h1 := int_pos_ge a
      have h2 := int_neg_lt HR.out.2
      unfold isgn; rw [if_neg (by omega), if_neg (by omega)]
    rw [e]
    clear e
    go_enter Tryd.func18, Tryd.ntmps18
    go_wp2_with fail
    refine (wrong_no _ _ va vb a b _ (ha.kept (K2 _ _)) (hb.kept (K2 _ _)) HR.out.1 HR.out.2).mono ?_
    rintro e w1 ⟨rfl, hk⟩
    obtain ⟨hb0, hb1, hb2, hb3⟩ := box_kept2 hk
    have HK1 : Hid (Kept w w1) := (K2 _ _).trans hk
    clear hk K2
    go_wp2
    go_ret2
    exact ⟨rfl, HK1.out⟩
  · have e : isgn (M.int true a) (M.int false b) = -1 := by
      have h1 := int_pos_ge b
      have h2 := int_neg_lt HR.out.1
      unfold isgn; rw [if_pos (by omega)]
    rw [e]
    clear e
    go_enter Tryd.func18, Tryd.ntmps18
    go_wp2_with fail
    refine (wrong_no _ _ va vb a b _ (ha.kept (K2 _ _)) (hb.kept (K2 _ _)) HR.out.1 HR.out.2).mono ?_
    rintro e w1 ⟨rfl, hk⟩
    obtain ⟨hb0, hb1, hb2, hb3⟩ := box_kept2 hk
    have HK1 : Hid (Kept w w1) := (K2 _ _).trans hk
    clear hk K2
    go_wp2
    go_ret2
    exact ⟨rfl, HK1.out⟩
  · rw [← isgn_neg]
    obtain ⟨r, hr⟩ : ∃ r, r = sgn (M.val b) (M.val a) := ⟨_, rfl⟩
    rw [← hr]
    have HRR : Hid (r = sgn (M.val b) (M.val a)) := hr
    clear hr
    go_enter Tryd.func18, Tryd.ntmps18
    go_wp2_with fail
    refine (wrong_no _ _ va vb a b _ (ha.kept (K2 _ _)) (hb.kept (K2 _ _)) HR.out.1 HR.out.2).mono ?_
    rintro e w1 ⟨rfl, hk⟩
    obtain ⟨hb0, hb1, hb2, hb3⟩ := box_kept2 hk
    have HK1 : Hid (Kept w w1) := (K2 _ _).trans hk
    clear hk K2
    go_wp2_with fail
    refine (compare_any vb va b a w1 (hb.kept HK1.out) (ha.kept HK1.out) (by have := HR.out.2.1; omega) (by have := HR.out.1.1; omega) HR.out.2.tr HR.out.1.tr).mono ?_
    rintro e w2 ⟨rfl, nq, rfl⟩
    rw [← HRR.out]
    go_wp2
    go_ret2
    exact ⟨rfl, HK1.out.drewN nq⟩

end Go.Proofs.YthijnnififodjaaDoor
