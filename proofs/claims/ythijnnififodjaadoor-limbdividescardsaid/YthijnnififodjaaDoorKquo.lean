/- divide of limb, whole; QuoRem and Exact. -/
import Derived.Test.YthijnnififodjaaDoorKdup
namespace Go.Proofs.YthijnnififodjaaDoor
open Go.RowKit

set_option maxHeartbeats 1000000 in
theorem divide_less (va vb : Value) (a b : List Nat) (w : World) (ha : Sl w va a) (hb : Sl w vb b) (hla : a.length ≤ 900) (hlb : b.length ≤ 900) (ta : M.Tr a) (tb : M.Tr b) (hlt : M.val a < M.val b) :
    Calls Tryd.prog 23 #[va, vb] w fun e w' => Kept w w' ∧ DivIs w.heap.size w' e a b := by
  have HT : Hid (M.Tr a ∧ M.Tr b ∧ M.val a < M.val b) := ⟨ta, tb, hlt⟩
  have HA : Hid (Sl w va a) := ha
  have HB : Hid (Sl w vb b) := hb
  clear ta tb hlt ha hb
  go_enter Tryd.func23, Tryd.ntmps23
  go_wp2_with fail
  refine (compare_any _ _ a b _ HA.out HB.out (by omega) (by omega) HT.out.1 HT.out.2.1).mono ?_
  rintro e w0 ⟨rfl, nq, rfl⟩
  rw [sgn, if_pos HT.out.2.2]
  go_wp2_with fail
  refine (dup_any _ (HA.out.kept ((Kept.refl w).drewN nq)) (by omega)).mono ?_
  rintro e w1 ⟨hk1, v1, rfl, hn1⟩
  have HK1 : Hid (Kept w w1 ∧ New w.heap.size w1 v1 a) := ⟨((Kept.refl w).drewN nq).trans hk1, hn1⟩
  clear hk1 hn1
  go_wp2
  go_ret2
  exact ⟨HK1.out.1, _, [], v1, a, rfl, New.nil _ _, HK1.out.2, .inl rfl, HT.out.1, by simp, by simp [M.val], HT.out.2.2⟩

set_option maxHeartbeats 1000000 in
theorem divide_long (va vb : Value) (a b : List Nat) (w : World) (ha : Sl w va a) (hb : Sl w vb b) (hla : a.length ≤ 900) (hlb : b.length ≤ 900) (ta : M.Tr a) (tb : M.Tr b) (hle : M.val b ≤ M.val a) (hb2 : 2 ≤ b.length) :
    Calls Tryd.prog 23 #[va, vb] w fun e w' => Kept w w' ∧ DivIs w.heap.size w' e a b := by
  have HT : Hid (M.Tr a ∧ M.Tr b ∧ M.val b ≤ M.val a) := ⟨ta, tb, hle⟩
  have HLL : Hid (b.length ≤ a.length) := M.len_le_of_val_le tb ha.bd hle
  have HA : Hid (Sl w va a) := ha
  have HB : Hid (Sl w vb b) := hb
  obtain ⟨_, aoa, capa, rfl, _⟩ := ha
  obtain ⟨_, aob, capb, rfl, _⟩ := hb
  clear ta tb hle
  go_enter Tryd.func23, Tryd.ntmps23
  go_wp2_with fail
  refine (compare_any _ _ a b _ HA.out HB.out (by omega) (by omega) HT.out.1 HT.out.2.1).mono ?_
  rintro e w0 ⟨rfl, nq, rfl⟩
  have hs : 0 ≤ sgn (M.val a) (M.val b) := by unfold sgn; have := HT.out.2.2; split; omega; split <;> omega
  generalize sgn (M.val a) (M.val b) = sg at *
  have hb1 : ((b.length : Int) == 1) = false := by simp; omega
  go_wp2_with fail
  refine (divideLong_any aoa aob capa capb a b _ (HA.out.kept ((Kept.refl w).drewN nq)) (HB.out.kept ((Kept.refl w).drewN nq)) hla HLL.out hb2 HT.out.2.1).mono ?_
  rintro e w1 ⟨hk1, vq, q, vr, r, rfl, hd⟩
  have HK1 : Hid (Kept w w1) := ((Kept.refl w).drewN nq).trans hk1
  have HD : Hid (New w.heap.size w1 vq q ∧ New w.heap.size w1 vr r ∧ M.Tr q ∧ M.Tr r ∧ q.length ≤ a.length ∧ M.val a = M.val q * M.val b + M.val r ∧ M.val r < M.val b) := hd
  clear hk1 hd
  go_wp2
  go_ret2
  exact ⟨HK1.out, vq, q, vr, r, rfl, HD.out⟩

theorem divide_any (va vb : Value) (a b : List Nat) (w : World) (ha : Sl w va a) (hb : Sl w vb b) (hla : a.length ≤ 900) (hlb : b.length ≤ 900) (ta : M.Tr a) (tb : M.Tr b) (hb0 : 0 < b.length) :
    Calls Tryd.prog 23 #[va, vb] w fun e w' => Kept w w' ∧ DivIs w.heap.size w' e a b := by
  by_cases h1 : M.val a < M.val b
  · exact divide_less va vb a b w ha hb hla hlb ta tb h1
  · by_cases h2 : b.length = 1
    · exact divide_small va vb a b w ha hb (by omega) ta tb h2 (by omega)
    · exact divide_long va vb a b w ha hb hla hlb ta tb (by omega) (by omega)

theorem quoRem_any (m n : Bool) (va vb : Value) (a b : List Nat) (w : World) (ha : Sl w va a) (hb : Sl w vb b) (hra : R m a) (hrb : R n b) (hb0 : 0 < b.length) :
    Calls Tryd.prog 8 #[.agg #[.bool m, va], .agg #[.bool n, vb]] w fun e w' => Kept w w' ∧ QuoIs w.heap.size w' e m n a b :=
  quoRem_of m n va vb a b w ha hb hra hrb hb0 (fun W hk => divide_any va vb a b W (ha.kept hk) (hb.kept hk) (by have := hra.1; omega) (by have := hrb.1; omega) (R.tr hra) (R.tr hrb) hb0)

end Go.Proofs.YthijnnififodjaaDoor
