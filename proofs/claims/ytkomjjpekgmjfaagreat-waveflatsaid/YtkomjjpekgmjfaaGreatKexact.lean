/- Gcd and Exact of limb. -/
import Derived.Test.YtkomjjpekgmjfaaGreatKgcd
namespace Go.Proofs.YtkomjjpekgmjfaaGreat
open Go.RowKit
theorem divisor_any (va vb : Value) (a b : List Nat) (w : World) (ha : Sl w va a) (hb : Sl w vb b) (hla : a.length ≤ 900) (hlb : b.length ≤ 900) (ta : M.Tr a) (tb : M.Tr b) :
  Calls Tryz.prog 133 #[va, vb] w fun e w' => Kept w w' ∧ DvrIs w.heap.size w' e (Nat.gcd (M.val a) (M.val b)) := by
 by_cases h : M.val b ≤ M.val a
 ·
  exact divisor_ge va vb a b w ha hb hla hlb ta tb h
 ·
  exact divisor_lt va vb a b w ha hb hla hlb ta tb (by omega)
def GcdIs (B : Nat) (w' : World) (e : Ending) (g : Nat) : Prop := ∃ ao k cap l, e = .returned (.tuple #[.agg #[.bool false, .slice ao k cap], .int .i64 0]) ∧ New B w' (.slice ao k cap) l ∧ M.Right false l ∧ M.val l = g
theorem gcd_len {a b l : List Nat} (ha : M.Bd a) (hb : M.Bd b) (hla : a.length ≤ 72) (hlb : b.length ≤ 72) (tl : M.Tr l) (h : M.val l = Nat.gcd (M.val a) (M.val b)) : l.length ≤ 72 := by
 by_cases h0 : M.val a = 0
 ·
  rw [h0, Nat.gcd_zero_left] at h
  have := M.len_le_of_val_le tl hb (by omega)
  omega
 ·
  have := M.len_le_of_val_le tl ha (by rw [h]; exact Nat.gcd_le_left _ (by omega))
  omega
set_option maxHeartbeats 1000000 in
theorem gcd_any (m n : Bool) (va vb : Value) (a b : List Nat) (w : World) (ha : Sl w va a) (hb : Sl w vb b) (hra : R m a) (hrb : R n b) :
  Calls Tryz.prog 112 #[.agg #[.bool m, va], .agg #[.bool n, vb]] w fun e w' => Kept w w' ∧ GcdIs w.heap.size w' e (Nat.gcd (M.val a) (M.val b)) := by
 have HR : Hid (R m a ∧ R n b) := ⟨hra, hrb⟩
 have HA : Hid (Sl w va a ∧ Sl w vb b) := ⟨ha, hb⟩
 clear hra hrb ha hb
 have K3 : ∀ x y t, Kept w (((w.alloc x).alloc y).alloc t) := fun x y t => (((Kept.refl w).alloc x).alloc y).alloc t
 go_enter Tryz.func112, Tryz.ntmps112
 go_wp2_with fail
 refine (wrong_no m n va vb a b _ (HA.out.1.kept (K3 _ _ _)) (HA.out.2.kept (K3 _ _ _)) HR.out.1 HR.out.2).mono ?_
 rintro e w1 ⟨rfl, hk⟩
 have HKa : Hid (Kept (((w.alloc (.cells #[.bool m, va] 64)).alloc (.cells #[.bool n, vb] 64)).alloc (.cells #[.bool false, .slice none 0 0] 64)) w1) := hk
 have HK1 : Hid (Kept w w1) := (K3 _ _ _).trans hk
 obtain ⟨hA0, hA1, hB0, hB1, hR0, hR1⟩ := box_kept3 hk
 clear hk
 go_wp2_with fail
 refine (divisor_any va vb a b _ (HA.out.1.kept HK1.out) (HA.out.2.kept HK1.out) (by have := HR.out.1.1; omega) (by have := HR.out.2.1; omega) HR.out.1.tr HR.out.2.tr).mono ?_
 rintro e w2 ⟨hk2, v, l, rfl, hn, ht, hv⟩
 have hl72 := gcd_len HA.out.1.bd HA.out.2.bd HR.out.1.1 HR.out.2.1 ht hv
 obtain ⟨ao, cap, rfl⟩ := hn.shape
 have HN : Hid (New w1.heap.size w2 (.slice ao l.length cap) l ∧ M.Tr l ∧ M.val l = Nat.gcd (M.val a) (M.val b)) := ⟨hn, ht, hv⟩
 have HKb : Hid (Kept (((w.alloc (.cells #[.bool m, va] 64)).alloc (.cells #[.bool n, vb] 64)).alloc (.cells #[.bool false, .slice none 0 0] 64)) w2) := HKa.out.trans hk2
 clear hk2 hn ht hv hA0 hA1 hB0 hB1 hR0 hR1
 go_wp2_with fail
 refine (signed_any false ao l.length cap _ (by omega)).mono ?_
 rintro e w3 ⟨rfl, hk3⟩
 have hKc := HKb.out.trans hk3
 obtain ⟨_, _, _, _, hR0, hR1⟩ := box_kept3 hKc
 have hf := hKc.frozens
 have hsz := HKa.out.size
 simp at hsz
 have HF : Hid (Kept w w3 ∧ New (w.heap.size + 1 + 1 + 1) w3 (.slice ao l.length cap) l ∧ M.Right false l ∧ M.val l = Nat.gcd (M.val a) (M.val b)) :=
  ⟨(K3 _ _ _).trans hKc, (HN.out.1.kept hk3).mono hsz, ⟨HN.out.1.1, HN.out.2.1, hl72, fun _ => rfl⟩, HN.out.2.2⟩
 clear hk3 hKc hsz
 rw [Bool.false_and]
 go_wp2
 exact bodyPost_ret (v := .tuple #[.agg #[.bool false, .slice ao l.length cap], .int .i64 0]) (by simp [results, Tryz.results112, go_sem, hR0, hR1]) rfl
  ⟨(HF.out.1.setCell (by simp; omega) _).setCell (by simp; omega) _, ao, _, cap, l, rfl, ((HF.out.2.1.other (by simp) _).other (by simp) _).mono (by omega), HF.out.2.2⟩
def ExaIs (B : Nat) (w' : World) (e : Ending) (m n : Bool) (a b : List Nat) : Prop := ∃ s ao k cap l, e = .returned (.tuple #[.agg #[.bool s, .slice ao k cap], .int .i64 0]) ∧ New B w' (.slice ao k cap) l ∧ M.Right s l ∧ M.int s l * M.int n b = M.int m a
theorem exa_int {m n : Bool} {a b q : List Nat} (h : M.val a = M.val q * M.val b) : M.int (m != n) q * M.int n b = M.int m a := by
 unfold M.int
 cases m <;> cases n <;> simp [h, Int.mul_neg, Int.neg_mul]
set_option maxHeartbeats 1000000 in
theorem exact_any (m n : Bool) (va vb : Value) (a b : List Nat) (w : World) (ha : Sl w va a) (hb : Sl w vb b) (hra : R m a) (hrb : R n b) (hb0 : 0 < b.length) :
  Calls Tryz.prog 127 #[.agg #[.bool m, va], .agg #[.bool n, vb]] w fun e w' => Kept w w' ∧ ((M.val b ∣ M.val a ∧ ExaIs w.heap.size w' e m n a b) ∨ (¬ M.val b ∣ M.val a ∧ e = .returned (.tuple #[.agg #[.bool false, .slice none 0 0], .int .i64 12]))) := by
 have HR : Hid (R m a ∧ R n b) := ⟨hra, hrb⟩
 have HA : Hid (Sl w va a ∧ Sl w vb b) := ⟨ha, hb⟩
 have HP : Hid (0 < M.val b) := M.val_pos hrb.tr (fun e => by rw [e] at hb0; simp at hb0)
 obtain ⟨P, hP⟩ : ∃ P : World → Ending → Prop, P = fun w' e => ((M.val b ∣ M.val a ∧ ExaIs w.heap.size w' e m n a b) ∨ (¬ M.val b ∣ M.val a ∧ e = .returned (.tuple #[.agg #[.bool false, .slice none 0 0], .int .i64 12]))) := ⟨_, rfl⟩
 have HPP : Hid (∀ w' e, P w' e = ((M.val b ∣ M.val a ∧ ExaIs w.heap.size w' e m n a b) ∨ (¬ M.val b ∣ M.val a ∧ e = .returned (.tuple #[.agg #[.bool false, .slice none 0 0], .int .i64 12])))) := fun w' e => by rw [hP]
 suffices hs : Calls Tryz.prog 127 #[.agg #[.bool m, va], .agg #[.bool n, vb]] w fun e w' => Kept w w' ∧ P w' e by
  refine hs.mono ?_
  rintro e w' ⟨h1, h2⟩
  exact ⟨h1, by rw [← HPP.out]; exact h2⟩
 clear hra hrb ha hb hP
 have K3 : ∀ x y t, Kept w (((w.alloc x).alloc y).alloc t) := fun x y t => (((Kept.refl w).alloc x).alloc y).alloc t
 go_enter Tryz.func127, Tryz.ntmps127
 go_wp2_with fail
 refine (quoRem_any m n va vb a b _ (HA.out.1.kept (K3 _ _ _)) (HA.out.2.kept (K3 _ _ _)) HR.out.1 HR.out.2 hb0).mono ?_
 rintro e w1 ⟨hk, s, aq, nq, cq, q, t, ar, nr, cr, r, rfl, hnq, hnr, hrq, hrr, hval, hlt, hiq, hir⟩
 have e1 := hnr.len
 obtain ⟨hA0, hA1, hB0, hB1, hR0, hR1⟩ := box_kept3 hk
 have hsz := hk.size
 simp at hsz
 have hsz1 : w.heap.size + 1 + 1 < w1.heap.size := by omega
 have hsz2 : w.heap.size + 1 + 1 < w1.heap.size + 1 := by omega
 have hf : ∀ o, w1.frozen? ⟨w.heap.size + 1 + 1, o, none⟩ = false := fun o => by rw [hk.frozens (w.heap.size + 1 + 1) o (by simp)]; exact World.frozen?_alloc_at _ _ _ _ (by simp)
 have HF : Hid (Kept w w1 ∧ New (w.heap.size + 1 + 1 + 1) w1 (.slice aq nq cq) q ∧ M.Right s q ∧ M.val a = M.val q * M.val b + M.val r ∧ M.val r < M.val b ∧ M.int s q = M.int (m != n) q ∧ M.Tr r ∧ nr = r.length) :=
  ⟨(K3 _ _ _).trans hk, hnq.mono (by simp), hrq, hval, hlt, hiq, hrr.tr, e1⟩
 have hnr72 : nr ≤ 72 := by rw [e1]; exact hrr.len
 clear hk hnq hnr hrq hrr hval hlt hiq hir e1
 by_cases h0 : nr = 0
 ·
  have HV : Hid (M.val b ∣ M.val a ∧ M.val a = M.val q * M.val b) := by
   have hr0 : r = [] := List.length_eq_zero_iff.1 (by have := HF.out.2.2.2.2.2.2.2; omega)
   have h9 := HF.out.2.2.2.1
   rw [hr0] at h9
   simp only [M.val, Nat.add_zero] at h9
   exact ⟨⟨M.val q, by rw [h9, Nat.mul_comm]⟩, h9⟩
  subst h0
  go_wp2
  refine bodyPost_ret (v := .tuple #[.agg #[.bool s, .slice aq nq cq], .int .i64 0]) (by simp [results, Tryz.results127, go_sem, hR0, hR1, hsz1, hsz2]) rfl ⟨?_, ?_⟩
  ·
   exact (((HF.out.1.setCell (by show w.heap.size ≤ w.heap.size + 1 + 1; omega) _).setCell (by show w.heap.size ≤ w.heap.size + 1 + 1; omega) _).alloc _).alloc _
  ·
   rw [HPP.out]
   refine .inl ⟨HV.out.1, s, aq, nq, cq, q, rfl, ?_, HF.out.2.2.1, by rw [HF.out.2.2.2.2.2.1]; exact exa_int HV.out.2⟩
   exact (((HF.out.2.1.other (by show w.heap.size + 1 + 1 < w.heap.size + 1 + 1 + 1; omega) _).other (by show w.heap.size + 1 + 1 < w.heap.size + 1 + 1 + 1; omega) _).kept (((Kept.refl _).alloc _).alloc _)).mono (by omega)
 ·
  have HV : Hid (¬ M.val b ∣ M.val a) := by
   intro hd
   have h9 := HF.out
   have hr0 : M.val r ≠ 0 := fun e => h0 (by rw [h9.2.2.2.2.2.2.2, (M.val_zero h9.2.2.2.2.2.2.1).1 e]; rfl)
   have h8 := Nat.mod_eq_zero_of_dvd hd
   rw [h9.2.2.2.1, Nat.mul_comm, Nat.mul_add_mod, Nat.mod_eq_of_lt h9.2.2.2.2.1] at h8
   exact hr0 h8
  have h1 : (0 : Int) < (nr : Int) := by omega
  go_wp2
  refine bodyPost_ret (v := .tuple #[.agg #[.bool false, .slice none 0 0], .int .i64 12]) (by simp [results, Tryz.results127, go_sem, hR0, hR1, hsz1, hsz2]) rfl ⟨?_, ?_⟩
  ·
   exact (((HF.out.1.setCell (by show w.heap.size ≤ w.heap.size + 1 + 1; omega) _).setCell (by show w.heap.size ≤ w.heap.size + 1 + 1; omega) _).alloc _).alloc _
  ·
   rw [HPP.out]
   exact .inr ⟨HV.out, rfl⟩
end Go.Proofs.YtkomjjpekgmjfaaGreat
