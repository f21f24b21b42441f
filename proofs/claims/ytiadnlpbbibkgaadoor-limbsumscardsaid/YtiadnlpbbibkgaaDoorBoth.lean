/- Sums, differences, products, comparisons: limb and the document's answer tell the same. -/
import Derived.Test.YtiadnlpbbibkgaaDoorRtwo2
import Derived.Test.YtiadnlpbbibkgaaDoorWrong
namespace Go.Proofs.YtiadnlpbbibkgaaDoor
open Go.RowKit

theorem out_of (z : Int) : ∃ (s : Bool) (l : List Nat) (c : Int), l.length ≤ 72 ∧
    (∀ B w e, AnsIs B w e z → ∃ ao n cap, e = .returned (.tuple #[.agg #[.bool s, .slice ao n cap], .int .i64 c]) ∧ New B w (.slice ao n cap) l) := by
  by_cases h : ∃ s l, M.Right s l ∧ M.int s l = z
  · obtain ⟨s, l, hr, hz⟩ := h
    have hlt : z.natAbs < M.W72 := by rw [← hz, M.natAbs_int]; exact M.lt_W72 hr.bd hr.len
    refine ⟨s, l, 0, hr.len, ?_⟩
    · rintro B w e ⟨s', ao, n, cap, c, rfl, ⟨rfl, l', hn, hr', hz'⟩ | ⟨_, _, _, h⟩⟩
      · obtain ⟨rfl, rfl⟩ := M.int_inj hr hr' (hz.trans hz'.symm)
        exact ⟨ao, n, cap, rfl, hn⟩
      · omega
  · refine ⟨false, [], 13, by simp, ?_⟩
    · rintro B w e ⟨s', ao, n, cap, c, rfl, ⟨_, l', _, hr', hz'⟩ | ⟨rfl, rfl, hv, _⟩⟩
      · exact absurd ⟨_, _, hr', hz'⟩ h
      · simp only [Value.slice.injEq] at hv
        obtain ⟨rfl, rfl, rfl⟩ := hv
        exact ⟨none, 0, 0, rfl, New.nil _ _⟩

theorem add_both (m n : Bool) (a b : List Nat) (hla : a.length ≤ 80) (hlb : b.length ≤ 80) : ∃ (s : Bool) (l : List Nat) (c : Int), l.length ≤ 72 ∧
    (∀ w aoa ka capa aob kb capb, Sl w (.slice aoa ka capa) a → Sl w (.slice aob kb capb) b → Calls Tryd.prog 12 #[.agg #[.bool m, .slice aoa ka capa], .agg #[.bool n, .slice aob kb capb]] w fun e w' => Kept w w' ∧ ∃ ao k cap, e = .returned (.tuple #[.agg #[.bool s, .slice ao k cap], .int .i64 c]) ∧ New w.heap.size w' (.slice ao k cap) l) ∧
    (∀ w aoa ka capa aob kb capb, Sl w (.slice aoa ka capa) a → Sl w (.slice aob kb capb) b → Calls Tryd.prog 16 #[.int .u8 43, .agg #[.bool m, .slice aoa ka capa], .agg #[.bool n, .slice aob kb capb]] w fun e w' => Kept w w' ∧ ∃ ao k cap, e = .returned (.tuple #[.agg #[.bool s, .slice ao k cap], .int .i64 c]) ∧ New w.heap.size w' (.slice ao k cap) l) := by
  by_cases hr : R m a ∧ R n b
  · obtain ⟨s, l, c, hl, h1⟩ := out_of (M.int m a + M.int n b)
    refine ⟨s, l, c, hl, fun w aoa ka capa aob kb capb ha hb => ?_, fun w aoa ka capa aob kb capb ha hb => ?_⟩
    · refine (add_any m n _ _ a b w ha hb hr.1 hr.2).mono ?_
      rintro e w' ⟨hk, hans⟩
      exact ⟨hk, h1 _ _ _ hans⟩
    · refine (D.Two_yes 43 (M.int m a + M.int n b) m n aoa aob ka kb capa capb a b w ha hb hr.1 hr.2 (.inl (And.intro rfl rfl))).mono ?_
      rintro e w' ⟨hk, hans⟩
      exact ⟨hk, h1 _ _ _ hans⟩
  · refine ⟨false, [], 10, by simp, fun w aoa ka capa aob kb capb ha hb => ?_, fun w aoa ka capa aob kb capb ha hb => ?_⟩
    · refine (add_no m n _ _ a b w ha hb hla hlb hr).mono ?_
      rintro e w' ⟨hk, rfl⟩
      exact ⟨hk, none, 0, 0, rfl, New.nil _ _⟩
    · refine (D.Two_no 43 m n aoa aob ka kb capa capb a b w ha hb hla hlb hr).mono ?_
      rintro e w' ⟨hk, rfl⟩
      exact ⟨hk, none, 0, 0, rfl, New.nil _ _⟩

theorem sub_both (m n : Bool) (a b : List Nat) (hla : a.length ≤ 80) (hlb : b.length ≤ 80) : ∃ (s : Bool) (l : List Nat) (c : Int), l.length ≤ 72 ∧
    (∀ w aoa ka capa aob kb capb, Sl w (.slice aoa ka capa) a → Sl w (.slice aob kb capb) b → Calls Tryd.prog 13 #[.agg #[.bool m, .slice aoa ka capa], .agg #[.bool n, .slice aob kb capb]] w fun e w' => Kept w w' ∧ ∃ ao k cap, e = .returned (.tuple #[.agg #[.bool s, .slice ao k cap], .int .i64 c]) ∧ New w.heap.size w' (.slice ao k cap) l) ∧
    (∀ w aoa ka capa aob kb capb, Sl w (.slice aoa ka capa) a → Sl w (.slice aob kb capb) b → Calls Tryd.prog 16 #[.int .u8 45, .agg #[.bool m, .slice aoa ka capa], .agg #[.bool n, .slice aob kb capb]] w fun e w' => Kept w w' ∧ ∃ ao k cap, e = .returned (.tuple #[.agg #[.bool s, .slice ao k cap], .int .i64 c]) ∧ New w.heap.size w' (.slice ao k cap) l) := by
  by_cases hr : R m a ∧ R n b
  · obtain ⟨s, l, c, hl, h1⟩ := out_of (M.int m a - M.int n b)
    refine ⟨s, l, c, hl, fun w aoa ka capa aob kb capb ha hb => ?_, fun w aoa ka capa aob kb capb ha hb => ?_⟩
    · refine (sub_any m n _ _ a b w ha hb hr.1 hr.2).mono ?_
      rintro e w' ⟨hk, hans⟩
      exact ⟨hk, h1 _ _ _ hans⟩
    · refine (D.Two_yes 45 (M.int m a - M.int n b) m n aoa aob ka kb capa capb a b w ha hb hr.1 hr.2 (.inr (.inl (And.intro rfl rfl)))).mono ?_
      rintro e w' ⟨hk, hans⟩
      exact ⟨hk, h1 _ _ _ hans⟩
  · refine ⟨false, [], 10, by simp, fun w aoa ka capa aob kb capb ha hb => ?_, fun w aoa ka capa aob kb capb ha hb => ?_⟩
    · refine (sub_no m n _ _ a b w ha hb hla hlb hr).mono ?_
      rintro e w' ⟨hk, rfl⟩
      exact ⟨hk, none, 0, 0, rfl, New.nil _ _⟩
    · refine (D.Two_no 45 m n aoa aob ka kb capa capb a b w ha hb hla hlb hr).mono ?_
      rintro e w' ⟨hk, rfl⟩
      exact ⟨hk, none, 0, 0, rfl, New.nil _ _⟩

theorem mul_both (m n : Bool) (a b : List Nat) (hla : a.length ≤ 80) (hlb : b.length ≤ 80) : ∃ (s : Bool) (l : List Nat) (c : Int), l.length ≤ 72 ∧
    (∀ w aoa ka capa aob kb capb, Sl w (.slice aoa ka capa) a → Sl w (.slice aob kb capb) b → Calls Tryd.prog 14 #[.agg #[.bool m, .slice aoa ka capa], .agg #[.bool n, .slice aob kb capb]] w fun e w' => Kept w w' ∧ ∃ ao k cap, e = .returned (.tuple #[.agg #[.bool s, .slice ao k cap], .int .i64 c]) ∧ New w.heap.size w' (.slice ao k cap) l) ∧
    (∀ w aoa ka capa aob kb capb, Sl w (.slice aoa ka capa) a → Sl w (.slice aob kb capb) b → Calls Tryd.prog 16 #[.int .u8 42, .agg #[.bool m, .slice aoa ka capa], .agg #[.bool n, .slice aob kb capb]] w fun e w' => Kept w w' ∧ ∃ ao k cap, e = .returned (.tuple #[.agg #[.bool s, .slice ao k cap], .int .i64 c]) ∧ New w.heap.size w' (.slice ao k cap) l) := by
  by_cases hr : R m a ∧ R n b
  · obtain ⟨s, l, c, hl, h1⟩ := out_of (M.int m a * M.int n b)
    refine ⟨s, l, c, hl, fun w aoa ka capa aob kb capb ha hb => ?_, fun w aoa ka capa aob kb capb ha hb => ?_⟩
    · refine (mul_any m n _ _ a b w ha hb hr.1 hr.2).mono ?_
      rintro e w' ⟨hk, hans⟩
      exact ⟨hk, h1 _ _ _ hans⟩
    · refine (D.Two_yes 42 (M.int m a * M.int n b) m n aoa aob ka kb capa capb a b w ha hb hr.1 hr.2 (.inr (.inr (And.intro rfl rfl)))).mono ?_
      rintro e w' ⟨hk, hans⟩
      exact ⟨hk, h1 _ _ _ hans⟩
  · refine ⟨false, [], 10, by simp, fun w aoa ka capa aob kb capb ha hb => ?_, fun w aoa ka capa aob kb capb ha hb => ?_⟩
    · refine (mul_no m n _ _ a b w ha hb hla hlb hr).mono ?_
      rintro e w' ⟨hk, rfl⟩
      exact ⟨hk, none, 0, 0, rfl, New.nil _ _⟩
    · refine (D.Two_no 42 m n aoa aob ka kb capa capb a b w ha hb hla hlb hr).mono ?_
      rintro e w' ⟨hk, rfl⟩
      exact ⟨hk, none, 0, 0, rfl, New.nil _ _⟩

theorem cmp_both (m n : Bool) (a b : List Nat) (hla : a.length ≤ 80) (hlb : b.length ≤ 80) : ∃ c e : Int,
    (∀ w aoa ka capa aob kb capb, Sl w (.slice aoa ka capa) a → Sl w (.slice aob kb capb) b → Calls Tryd.prog 15 #[.agg #[.bool m, .slice aoa ka capa], .agg #[.bool n, .slice aob kb capb]] w fun r w' => r = .returned (.tuple #[.int .i64 c, .int .i64 e]) ∧ Kept w w') ∧
    (∀ w aoa ka capa aob kb capb, Sl w (.slice aoa ka capa) a → Sl w (.slice aob kb capb) b → Calls Tryd.prog 17 #[.agg #[.bool m, .slice aoa ka capa], .agg #[.bool n, .slice aob kb capb]] w fun r w' => r = .returned (.tuple #[.int .i64 c, .int .i64 e]) ∧ Kept w w') := by
  by_cases hr : R m a ∧ R n b
  · exact ⟨_, _, fun w aoa ka capa aob kb capb ha hb => icmp_any m n _ _ a b w ha hb hr.1 hr.2, fun w aoa ka capa aob kb capb ha hb => D.Cmp_yes m n aoa aob ka kb capa capb a b w ha hb hr.1 hr.2⟩
  · exact ⟨_, _, fun w aoa ka capa aob kb capb ha hb => icmp_no m n _ _ a b w ha hb hla hlb hr, fun w aoa ka capa aob kb capb ha hb => D.Cmp_no m n aoa aob ka kb capa capb a b w ha hb hla hlb hr⟩

end Go.Proofs.YtiadnlpbbibkgaaDoor
