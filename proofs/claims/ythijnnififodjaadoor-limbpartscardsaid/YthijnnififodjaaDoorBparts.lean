/- Quotients, exact quotients, common divisors: limb and the document's answer tell the same. -/
import Derived.Test.YthijnnififodjaaDoorGa
import Derived.Test.YthijnnififodjaaDoorKno
import Derived.Test.YthijnnififodjaaDoorRtwo3
import Derived.Test.YthijnnififodjaaDoorRtwono
import Derived.Test.YthijnnififodjaaDoorRquo
namespace Go.Proofs.YthijnnififodjaaDoor
open Go.RowKit

theorem m_tdiv {m n : Bool} {a b q r : List Nat} (h : M.val a = M.val q * M.val b + M.val r) (hlt : M.val r < M.val b) : M.int (m != n) q = Int.tdiv (M.int m a) (M.int n b) ∧ M.int m r = Int.tmod (M.int m a) (M.int n b) := by
  have hq : M.val a / M.val b = M.val q := by rw [h, Nat.mul_comm, Nat.mul_add_div (by omega), Nat.div_eq_of_lt hlt]; rfl
  have hr : M.val a % M.val b = M.val r := by rw [h, Nat.mul_comm, Nat.mul_add_mod, Nat.mod_eq_of_lt hlt]
  have e1 : Int.tdiv (M.val a : Int) (M.val b : Int) = ((M.val q : Nat) : Int) := by rw [← Int.ofNat_tdiv, hq]
  have e2 : Int.tmod (M.val a : Int) (M.val b : Int) = ((M.val r : Nat) : Int) := by rw [← Int.ofNat_tmod, hr]
  unfold M.int
  cases m <;> cases n <;> simp [Int.tdiv_neg, Int.neg_tdiv, Int.tmod_neg, Int.neg_tmod, e1, e2]

/-- Quotient and rest as right numbers. -/
def QuoVal (B : Nat) (w' : World) (e : Ending) (x y : Int) : Prop :=
  ∃ s aq kq cq q t ar kr cr r, e = .returned (.tuple #[.agg #[.bool s, .slice aq kq cq], .agg #[.bool t, .slice ar kr cr], .int .i64 0]) ∧ New B w' (.slice aq kq cq) q ∧ New B w' (.slice ar kr cr) r ∧ M.Right s q ∧ M.Right t r ∧ M.int s q = Int.tdiv x y ∧ M.int t r = Int.tmod x y

theorem out_quo (x y : Int) : ∃ (s : Bool) (q : List Nat) (t : Bool) (r : List Nat), q.length ≤ 72 ∧ r.length ≤ 72 ∧
    (∀ B w e, QuoVal B w e x y → ∃ aq kq cq ar kr cr, e = .returned (.tuple #[.agg #[.bool s, .slice aq kq cq], .agg #[.bool t, .slice ar kr cr], .int .i64 0]) ∧ New B w (.slice aq kq cq) q ∧ New B w (.slice ar kr cr) r) := by
  by_cases h : ∃ s q t r, M.Right s q ∧ M.int s q = Int.tdiv x y ∧ M.Right t r ∧ M.int t r = Int.tmod x y
  · obtain ⟨s, q, t, r, hq, hqi, hr, hri⟩ := h
    refine ⟨s, q, t, r, hq.len, hr.len, ?_⟩
    rintro B w e ⟨s', aq, kq, cq, q', t', ar, kr, cr, r', rfl, hn1, hn2, hq', hr', h1, h2⟩
    obtain ⟨rfl, rfl⟩ := M.int_inj hq hq' (hqi.trans h1.symm)
    obtain ⟨rfl, rfl⟩ := M.int_inj hr hr' (hri.trans h2.symm)
    exact ⟨aq, kq, cq, ar, kr, cr, rfl, hn1, hn2⟩
  · refine ⟨false, [], false, [], by simp, by simp, ?_⟩
    rintro B w e ⟨s', aq, kq, cq, q', t', ar, kr, cr, r', rfl, hn1, hn2, hq', hr', h1, h2⟩
    exact absurd ⟨_, _, _, _, hq', h1, hr', h2⟩ h

theorem len_of_W72 {l : List Nat} (ht : M.Tr l) (h : M.val l < M.W72) : l.length ≤ 72 := by
  rcases Nat.lt_or_ge 72 l.length with h1 | h1
  · have := M.W72_le ht h1; omega
  · exact h1

def QuoC (f : Nat) (m n : Bool) (a b : List Nat) (s : Bool) (q : List Nat) (t : Bool) (r : List Nat) (c : Int) : Prop := ∀ w aoa ka capa aob kb capb, Sl w (.slice aoa ka capa) a → Sl w (.slice aob kb capb) b → Calls Tryd.prog f #[.agg #[.bool m, .slice aoa ka capa], .agg #[.bool n, .slice aob kb capb]] w fun e w' => Kept w w' ∧ ∃ aq kq cq ar kr cr, e = .returned (.tuple #[.agg #[.bool s, .slice aq kq cq], .agg #[.bool t, .slice ar kr cr], .int .i64 c]) ∧ New w.heap.size w' (.slice aq kq cq) q ∧ New w.heap.size w' (.slice ar kr cr) r
def OneC (f : Nat) (m n : Bool) (a b : List Nat) (s : Bool) (l : List Nat) (c : Int) : Prop := ∀ w aoa ka capa aob kb capb, Sl w (.slice aoa ka capa) a → Sl w (.slice aob kb capb) b → Calls Tryd.prog f #[.agg #[.bool m, .slice aoa ka capa], .agg #[.bool n, .slice aob kb capb]] w fun e w' => Kept w w' ∧ ∃ ao k cap, e = .returned (.tuple #[.agg #[.bool s, .slice ao k cap], .int .i64 c]) ∧ New w.heap.size w' (.slice ao k cap) l
def Two3C (op : Int) (m n : Bool) (a b : List Nat) (s : Bool) (l : List Nat) (c : Int) : Prop := ∀ w aoa ka capa aob kb capb, Sl w (.slice aoa ka capa) a → Sl w (.slice aob kb capb) b → Calls Tryd.prog 11 #[.int .u8 op, .agg #[.bool m, .slice aoa ka capa], .agg #[.bool n, .slice aob kb capb]] w fun e w' => Kept w w' ∧ ∃ ao k cap, e = .returned (.tuple #[.agg #[.bool s, .slice ao k cap], .int .i64 c]) ∧ New w.heap.size w' (.slice ao k cap) l

theorem sl_empty {w : World} {ao : Option Addr} {k cap : Nat} (h : Sl w (.slice ao k cap) []) : k = 0 := by
  have := h.len; simpa using this

theorem quo_both (m n : Bool) (a b : List Nat) (hla : a.length ≤ 80) (hlb : b.length ≤ 80) : ∃ (s : Bool) (q : List Nat) (t : Bool) (r : List Nat) (c : Int), q.length ≤ 72 ∧ r.length ≤ 72 ∧ QuoC 8 m n a b s q t r c ∧ QuoC 9 m n a b s q t r c := by
  by_cases hr : R m a ∧ R n b
  · by_cases hb0 : b = []
    · subst hb0
      refine ⟨false, [], false, [], 11, by simp, by simp, fun w aoa ka capa aob kb capb ha hb => ?_, fun w aoa ka capa aob kb capb ha hb => ?_⟩
      · obtain rfl := sl_empty hb
        refine (quoRem_zero m n _ aob capb a w ha hr.1 hr.2).mono ?_
        rintro e w' ⟨hk, rfl⟩
        exact ⟨hk, none, 0, 0, none, 0, 0, rfl, New.nil _ _, New.nil _ _⟩
      · obtain rfl := sl_empty hb
        refine (D.QuoRem_zero m n aoa aob ka capa capb a w ha hr.1 hr.2).mono ?_
        rintro e w' ⟨hk, rfl⟩
        exact ⟨hk, none, 0, 0, none, 0, 0, rfl, New.nil _ _, New.nil _ _⟩
    · have hbl : 0 < b.length := List.length_pos_iff.2 hb0
      obtain ⟨s, q, t, r, hl1, hl2, h1⟩ := out_quo (M.int m a) (M.int n b)
      refine ⟨s, q, t, r, 0, hl1, hl2, fun w aoa ka capa aob kb capb ha hb => ?_, fun w aoa ka capa aob kb capb ha hb => ?_⟩
      · refine (quoRem_any m n _ _ a b w ha hb hr.1 hr.2 hbl).mono ?_
        rintro e w' ⟨hk, s', aq, kq, cq, q', t', ar, kr, cr, r', rfl, hn1, hn2, hq, hr', hval, hlt, hi1, hi2⟩
        have hm := m_tdiv (m := m) (n := n) hval hlt
        exact ⟨hk, h1 _ _ _ ⟨s', aq, kq, cq, q', t', ar, kr, cr, r', rfl, hn1, hn2, hq, hr', by rw [hi1]; exact hm.1, by rw [hi2]; exact hm.2⟩⟩
      · refine (D.QuoRem_yes m n aoa aob ka kb capa capb a b w ha hb hr.1 hr.2 hbl).mono ?_
        rintro e w' ⟨hk, s', aq, kq, cq, q', t', ar, kr, cr, r', rfl, hn1, hn2, bq, tq, br, tr, hi1, hi2, hz1, hz2⟩
        have hA : (M.int m a).natAbs < M.W72 := by rw [M.natAbs_int]; exact M.lt_W72 ha.bd hr.1.1
        have hB : (M.int n b).natAbs < M.W72 := by rw [M.natAbs_int]; exact M.lt_W72 hb.bd hr.2.1
        have hq1 : M.val q' < M.W72 := by
          rw [← M.natAbs_int s' q', hi1, Int.natAbs_tdiv]
          exact Nat.lt_of_le_of_lt (Nat.div_le_self _ _) hA
        have hr1 : M.val r' < M.W72 := by
          rw [← M.natAbs_int t' r', hi2, Int.natAbs_tmod]
          exact Nat.lt_of_le_of_lt (Nat.mod_le _ _) hA
        exact ⟨hk, h1 _ _ _ ⟨s', aq, kq, cq, q', t', ar, kr, cr, r', rfl, hn1, hn2, ⟨bq, tq, len_of_W72 tq hq1, hz1⟩, ⟨br, tr, len_of_W72 tr hr1, hz2⟩, hi1, hi2⟩⟩
  · refine ⟨false, [], false, [], 10, by simp, by simp, fun w aoa ka capa aob kb capb ha hb => ?_, fun w aoa ka capa aob kb capb ha hb => ?_⟩
    · refine (quoRem_no m n _ _ a b w ha hb hla hlb hr).mono ?_
      rintro e w' ⟨hk, rfl⟩
      exact ⟨hk, none, 0, 0, none, 0, 0, rfl, New.nil _ _, New.nil _ _⟩
    · refine (D.QuoRem_no m n aoa aob ka kb capa capb a b w ha hb hla hlb hr).mono ?_
      rintro e w' ⟨hk, rfl⟩
      exact ⟨hk, none, 0, 0, none, 0, 0, rfl, New.nil _ _, New.nil _ _⟩

theorem tmod_dvd (x y : Int) : Int.tmod x y = 0 ↔ y.natAbs ∣ x.natAbs := by
  rw [Int.natAbs_dvd_natAbs]
  exact ⟨Int.dvd_of_tmod_eq_zero, Int.tmod_eq_zero_of_dvd⟩

theorem exact_both (m n : Bool) (a b : List Nat) (hla : a.length ≤ 80) (hlb : b.length ≤ 80) : ∃ (s : Bool) (l : List Nat) (c : Int), l.length ≤ 72 ∧ OneC 10 m n a b s l c ∧ Two3C 47 m n a b s l c := by
  by_cases hr : R m a ∧ R n b
  · by_cases hb0 : b = []
    · subst hb0
      have hy : M.int n [] = 0 := by simp [M.int, M.val]
      refine ⟨false, [], 11, by simp, fun w aoa ka capa aob kb capb ha hb => ?_, fun w aoa ka capa aob kb capb ha hb => ?_⟩
      · obtain rfl := sl_empty hb
        refine (exact_err 11 (.inr rfl) m n _ _ w (fun W hk => quoRem_zero m n _ aob capb a W (ha.kept hk) hr.1 hr.2)).mono ?_
        rintro e w' ⟨hk, rfl⟩
        exact ⟨hk, none, 0, 0, rfl, New.nil _ _⟩
      · refine (D.Two3_yes 47 m n aoa aob ka kb capa capb a [] w ha hb hr.1 hr.2 (.inr rfl)).mono ?_
        rintro e w' ⟨hk, ⟨h, _⟩ | ⟨_, ⟨_, rfl⟩ | ⟨h, _⟩ | ⟨h, _⟩⟩⟩
        · cases h
        · exact ⟨hk, none, 0, 0, rfl, New.nil _ _⟩
        · exact absurd hy h
        · exact absurd hy h
    · have hbl : 0 < b.length := List.length_pos_iff.2 hb0
      have hy : M.int n b ≠ 0 := by
        intro h
        have h9 := M.val_pos hr.2.tr hb0
        rw [← M.natAbs_int n b, h] at h9
        simp at h9
      by_cases hd : M.val b ∣ M.val a
      · have hm : Int.tmod (M.int m a) (M.int n b) = 0 := by rw [tmod_dvd, M.natAbs_int, M.natAbs_int]; exact hd
        obtain ⟨s, l, c, hl, h1⟩ := out_of (Int.tdiv (M.int m a) (M.int n b))
        refine ⟨s, l, c, hl, fun w aoa ka capa aob kb capb ha hb => ?_, fun w aoa ka capa aob kb capb ha hb => ?_⟩
        · refine (exact_any m n _ _ a b w ha hb hr.1 hr.2 hbl).mono ?_
          rintro e w' ⟨hk, ⟨_, s', ao, k, cap, l', rfl, hn, hr', hi⟩ | ⟨h, _⟩⟩
          · refine ⟨hk, h1 _ _ _ ⟨s', ao, k, cap, 0, rfl, .inl ⟨rfl, l', hn, hr', ?_⟩⟩⟩
            rw [← hi, Int.mul_tdiv_cancel _ hy]
          · exact absurd hd h
        · refine (D.Two3_yes 47 m n aoa aob ka kb capa capb a b w ha hb hr.1 hr.2 (.inr rfl)).mono ?_
          rintro e w' ⟨hk, ⟨h, _⟩ | ⟨_, ⟨h, _⟩ | ⟨_, h, _⟩ | ⟨_, _, hans⟩⟩⟩
          · cases h
          · exact absurd h hy
          · exact absurd hm h
          · exact ⟨hk, h1 _ _ _ hans⟩
      · have hm : Int.tmod (M.int m a) (M.int n b) ≠ 0 := by rw [Ne, tmod_dvd, M.natAbs_int, M.natAbs_int]; exact hd
        refine ⟨false, [], 12, by simp, fun w aoa ka capa aob kb capb ha hb => ?_, fun w aoa ka capa aob kb capb ha hb => ?_⟩
        · refine (exact_any m n _ _ a b w ha hb hr.1 hr.2 hbl).mono ?_
          rintro e w' ⟨hk, ⟨h, _⟩ | ⟨_, rfl⟩⟩
          · exact absurd h hd
          · exact ⟨hk, none, 0, 0, rfl, New.nil _ _⟩
        · refine (D.Two3_yes 47 m n aoa aob ka kb capa capb a b w ha hb hr.1 hr.2 (.inr rfl)).mono ?_
          rintro e w' ⟨hk, ⟨h, _⟩ | ⟨_, ⟨h, _⟩ | ⟨_, _, rfl⟩ | ⟨_, h, _⟩⟩⟩
          · cases h
          · exact absurd h hy
          · exact ⟨hk, none, 0, 0, rfl, New.nil _ _⟩
          · exact absurd h hm
  · refine ⟨false, [], 10, by simp, fun w aoa ka capa aob kb capb ha hb => ?_, fun w aoa ka capa aob kb capb ha hb => ?_⟩
    · refine (exact_err 10 (.inl rfl) m n _ _ w (fun W hk => quoRem_no m n _ _ a b W (ha.kept hk) (hb.kept hk) hla hlb hr)).mono ?_
      rintro e w' ⟨hk, rfl⟩
      exact ⟨hk, none, 0, 0, rfl, New.nil _ _⟩
    · refine (D.Two_no 47 m n aoa aob ka kb capa capb a b w ha hb hla hlb hr).mono ?_
      rintro e w' ⟨hk, rfl⟩
      exact ⟨hk, none, 0, 0, rfl, New.nil _ _⟩

theorem gcd_both (m n : Bool) (a b : List Nat) (hla : a.length ≤ 80) (hlb : b.length ≤ 80) : ∃ (s : Bool) (l : List Nat) (c : Int), l.length ≤ 72 ∧ OneC 12 m n a b s l c ∧ Two3C 103 m n a b s l c := by
  by_cases hr : R m a ∧ R n b
  · obtain ⟨s, l, c, hl, h1⟩ := out_of ((Nat.gcd (M.int m a).natAbs (M.int n b).natAbs : Nat) : Int)
    refine ⟨s, l, c, hl, fun w aoa ka capa aob kb capb ha hb => ?_, fun w aoa ka capa aob kb capb ha hb => ?_⟩
    · refine (gcd_any m n _ _ a b w ha hb hr.1 hr.2).mono ?_
      rintro e w' ⟨hk, ao, k, cap, l', rfl, hn, hr', hv⟩
      refine ⟨hk, h1 _ _ _ ⟨false, ao, k, cap, 0, rfl, .inl ⟨rfl, l', hn, hr', ?_⟩⟩⟩
      rw [M.natAbs_int, M.natAbs_int, ← hv]; simp [M.int]
    · refine (D.Two3_yes 103 m n aoa aob ka kb capa capb a b w ha hb hr.1 hr.2 (.inl rfl)).mono ?_
      rintro e w' ⟨hk, ⟨_, hans⟩ | ⟨h, _⟩⟩
      · exact ⟨hk, h1 _ _ _ hans⟩
      · cases h
  · refine ⟨false, [], 10, by simp, fun w aoa ka capa aob kb capb ha hb => ?_, fun w aoa ka capa aob kb capb ha hb => ?_⟩
    · refine (gcd_no m n _ _ a b w ha hb hla hlb hr).mono ?_
      rintro e w' ⟨hk, rfl⟩
      exact ⟨hk, none, 0, 0, rfl, New.nil _ _⟩
    · refine (D.Two_no 103 m n aoa aob ka kb capa capb a b w ha hb hla hlb hr).mono ?_
      rintro e w' ⟨hk, rfl⟩
      exact ⟨hk, none, 0, 0, rfl, New.nil _ _⟩

end Go.Proofs.YthijnnififodjaaDoor
