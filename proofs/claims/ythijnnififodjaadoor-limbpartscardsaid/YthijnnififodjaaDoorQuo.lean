/- divide by one limb; QuoRem, out of what divide does. -/
import Derived.Test.YthijnnififodjaaDoorDup
import Derived.Test.YthijnnififodjaaDoorOf
import Derived.Test.YthijnnififodjaaDoorSsum
import Derived.Test.YthijnnififodjaaDoorRing
namespace Go.Proofs.YthijnnififodjaaDoor
open Go.RowKit

/-- What divide leaves: quotient and rest, in new memory. -/
def DivIs (B : Nat) (w' : World) (e : Ending) (a b : List Nat) : Prop :=
  ∃ vq q vr r, e = .returned (.tuple #[vq, vr]) ∧ New B w' vq q ∧ New B w' vr r ∧ M.Tr q ∧ M.Tr r ∧ q.length ≤ a.length ∧ M.val a = M.val q * M.val b + M.val r ∧ M.val r < M.val b

theorem New.grown {B b : Nat} {w w' : World} {v : Value} {l : List Nat} (h : New B w v l) (hg : w.grownBy w' (some b)) (hne : ∀ o n c, v = .slice (some ⟨b, o, none⟩) n c → False) : New B w' v l := by
  obtain ⟨hb, ⟨rfl, rfl⟩ | ⟨b', N, f, rfl, hB, hN, hr, hf⟩⟩ := h
  · exact ⟨hb, .inl ⟨rfl, rfl⟩⟩
  · exact ⟨hb, .inr ⟨b', N, f, rfl, hB, hN, hr.of_block (hg.block b' hr.lt (by intro e; cases e; exact hne _ _ _ rfl)), hf⟩⟩

set_option maxHeartbeats 1000000 in
theorem divide_small (va vb : Value) (a b : List Nat) (w : World) (ha : Sl w va a) (hb : Sl w vb b) (hla : a.length ≤ 1000) (ta : M.Tr a) (tb : M.Tr b) (h1 : b.length = 1) (hle : M.val b ≤ M.val a) :
    Calls Tryd.prog 23 #[va, vb] w fun e w' => Kept w w' ∧ DivIs w.heap.size w' e a b := by
  have HT : Hid (M.Tr a ∧ M.Tr b) := ⟨ta, tb⟩
  have HLE : Hid (M.val b ≤ M.val a) := hle
  have HA : Hid (Sl w va a) := ha
  have HB : Hid (Sl w vb b) := hb
  obtain ⟨d, rfl⟩ : ∃ d, b = [d] := by
    match b, h1 with
    | [d], _ => exact ⟨d, rfl⟩
  have hd0 : 0 < d := by
    rcases tb with h | h
    · simp at h
    · simp at h; omega
  have hd1 : d < 4294967296 := hb.1 d (by simp)
  have ha0 : 0 < a.length := by
    rcases Nat.eq_zero_or_pos a.length with h | h
    · rw [List.length_eq_zero_iff.1 h] at hle; simp [M.val] at hle; omega
    · exact h
  obtain ⟨bdb, aob, capb, rfl, hxb⟩ := hb
  obtain ⟨_, bb, ob, rfl, hbb, hcb⟩ := hxb (by simp)
  have hcb := hcb 0 (by simp)
  simp at hcb
  obtain ⟨bda, aoa, capa, rfl, _⟩ := ha
  clear hxb ta tb hle h1
  go_enter Tryd.func23, Tryd.ntmps23
  go_wp2_with fail
  refine (compare_any _ _ a [d] _ HA.out HB.out hla (by simp) HT.out.1 HT.out.2).mono ?_
  rintro e w0 ⟨rfl, nq, rfl⟩
  have hs : 0 ≤ sgn (M.val a) (M.val [d]) := by unfold sgn; have := HLE.out; split; omega; split <;> omega
  generalize sgn (M.val a) (M.val [d]) = sg at *
  go_wp2_with fail
  refine (dup_some _ (HA.out.kept ((Kept.refl w).drewN nq)) ha0 (by omega)).mono ?_
  rintro e w1 ⟨hk1, v1, rfl, hn1⟩
  obtain ⟨b1, N1, f1, rfl, hB1, hN1, hr1, hf1⟩ : ∃ (b N : Nat) (f : Nat → Value), v1 = .slice (some ⟨b, 0, none⟩) a.length N ∧ (w.drewN nq).heap.size ≤ b ∧ a.length ≤ N ∧ w1.rowIs b 43 N f ∧ ∀ j, j < a.length → f j = .int .u32 ((a.getD j 0 : Nat) : Int) := by
    obtain ⟨_, ⟨_, h⟩ | h⟩ := hn1
    · rw [h] at ha0; simp at ha0
    · exact h
  have hcb1 : w1.cell? ⟨bb, ob, none⟩ = some (.int .u32 (d : Int)) := (hk1.cell (p := ⟨bb, ob, none⟩) hbb).trans hcb
  have HK1 : Hid (Kept w w1) := ((Kept.refl w).drewN nq).trans hk1
  clear hk1 hn1 hcb
  go_wp2_with fail
  refine (small_any b1 N1 f1 a d w1 bda hd0 hd1 (by omega) hN1 hr1 hf1).mono ?_
  rintro e w2 ⟨hg2, q, r, rfl, hnq, hql, hqv, hrd⟩
  have HK2 : Hid (Kept w w2) := Below.grown HK1.out hg2 HK1.out.size (fun k hk => by cases hk; exact hB1)
  have HQ : Hid (q.length = a.length ∧ M.val a = d * M.val q + r) := ⟨hql, hqv⟩
  have HNQ : Hid (New w.heap.size w2 (.slice (some ⟨b1, 0, none⟩) a.length N1) q) := hnq.mono hB1
  clear hg2 hnq hqv hr1 hf1 hcb1
  go_wp2_with fail
  refine (trim_new _ HNQ.out (by omega)).mono ?_
  rintro e w3 ⟨rfl, vq, q', rfl, hnq', htq, hvq, hlq⟩
  have HQ' : Hid (New w.heap.size w3 vq q' ∧ M.Tr q' ∧ M.val q' = M.val q ∧ q'.length ≤ q.length) := ⟨hnq', htq, hvq, hlq⟩
  clear hnq' htq hvq hlq
  go_wp2_with fail
  refine (fromWord_any r w3 (by omega)).mono ?_
  rintro e w4 ⟨hk4, vr, r', rfl, hnr, htr, hvr, hlr⟩
  have HR : Hid (Kept w w4 ∧ New w.heap.size w4 vq q' ∧ New w.heap.size w4 vr r' ∧ M.Tr r' ∧ M.val r' = r) := ⟨HK2.out.trans hk4, HQ'.out.1.kept hk4, hnr.mono HK2.out.size, htr, hvr⟩
  clear hk4 hnr htr hvr hlr
  go_wp2
  go_ret2
  refine ⟨HR.out.1, vq, q', vr, r', rfl, HR.out.2.1, HR.out.2.2.1, HQ'.out.2.1, HR.out.2.2.2.1, by have := HQ'.out.2.2.2; have := HQ.out.1; omega, ?_, ?_⟩
  · rw [HR.out.2.2.2.2, HQ'.out.2.2.1, HQ.out.2, Nat.mul_comm d]; simp [M.val]
  · rw [HR.out.2.2.2.2]; simpa [M.val] using hrd

/-- Quotient and rest of whole numbers, cut toward 0. -/
def QuoIs (B : Nat) (w' : World) (e : Ending) (m n : Bool) (a b : List Nat) : Prop :=
  ∃ s aq nq cq q t ar nr cr r, e = .returned (.tuple #[.agg #[.bool s, .slice aq nq cq], .agg #[.bool t, .slice ar nr cr], .int .i64 0]) ∧ New B w' (.slice aq nq cq) q ∧ New B w' (.slice ar nr cr) r ∧ M.Right s q ∧ M.Right t r ∧
    M.val a = M.val q * M.val b + M.val r ∧ M.val r < M.val b ∧ M.int s q = M.int (m != n) q ∧ M.int t r = M.int m r

theorem right_signed {neg : Bool} {l : List Nat} (hb : M.Bd l) (ht : M.Tr l) (hl : l.length ≤ 72) : M.Right (neg && decide (0 < l.length)) l ∧ M.int (neg && decide (0 < l.length)) l = M.int neg l := by
  by_cases h0 : 0 < l.length
  · simp only [h0, decide_true, Bool.and_true]
    exact ⟨⟨hb, ht, hl, fun e => by rw [e] at h0; simp at h0⟩, trivial⟩
  · have : l = [] := List.length_eq_zero_iff.1 (by omega)
    subst this
    exact ⟨⟨hb, ht, hl, fun _ => by simp⟩, by cases neg <;> simp [M.int, M.val]⟩

set_option maxHeartbeats 2000000 in
theorem quoRem_of (m n : Bool) (va vb : Value) (a b : List Nat) (w : World) (ha : Sl w va a) (hb : Sl w vb b) (hra : R m a) (hrb : R n b) (hb0 : 0 < b.length)
    (hdiv : ∀ W, Kept w W → Calls Tryd.prog 23 #[va, vb] W fun e w' => Kept W w' ∧ DivIs W.heap.size w' e a b) :
    Calls Tryd.prog 8 #[.agg #[.bool m, va], .agg #[.bool n, vb]] w fun e w' => Kept w w' ∧ QuoIs w.heap.size w' e m n a b := by
  have HR : Hid (R m a ∧ R n b) := ⟨hra, hrb⟩
  have hla := hra.1
  have hlb := hrb.1
  have HA : Hid (Sl w va a) := ha
  have HB : Hid (Sl w vb b) := hb
  have HD : Hid (∀ W, Kept w W → Calls Tryd.prog 23 #[va, vb] W fun e w' => Kept W w' ∧ DivIs W.heap.size w' e a b) := hdiv
  clear hra hrb hdiv
  obtain ⟨_, aoa, capa, rfl, _⟩ := ha
  obtain ⟨_, aob, capb, rfl, _⟩ := hb
  have K4 : ∀ x y t u, Kept w ((((w.alloc x).alloc y).alloc t).alloc u) := fun x y t u => ((((Kept.refl w).alloc x).alloc y).alloc t).alloc u
  go_enter Tryd.func8, Tryd.ntmps8
  go_wp2_with fail
  refine (wrong_no m n _ _ a b _ (HA.out.kept (K4 _ _ _ _)) (HB.out.kept (K4 _ _ _ _)) HR.out.1 HR.out.2).mono ?_
  rintro e w1 ⟨rfl, hk⟩
  have hc := hk.cells
  have HK1 : Hid (Kept w w1) := (K4 _ _ _ _).trans hk
  have HKa : Hid (Kept ((((w.alloc (.cells #[.bool m, .slice aoa a.length capa] 24)).alloc (.cells #[.bool n, .slice aob b.length capb] 24)).alloc (.cells #[.bool false, .slice none 0 0] 24)).alloc (.cells #[.bool false, .slice none 0 0] 24)) w1) := hk
  clear hk K4
  go_wp2_with fail
  refine (HD.out _ HK1.out).mono ?_
  rintro e w2 ⟨hk2, vq, q, vr, r, rfl, hnq, hnr, htq, htr, hlq, hval, hlt⟩
  clear hc HD
  obtain ⟨aq, cq, rfl⟩ := hnq.shape
  obtain ⟨ar, cr, rfl⟩ := hnr.shape
  have hKW := HKa.out.trans hk2
  have HKb : Hid (Kept ((((w.alloc (.cells #[.bool m, .slice aoa a.length capa] 24)).alloc (.cells #[.bool n, .slice aob b.length capb] 24)).alloc (.cells #[.bool false, .slice none 0 0] 24)).alloc (.cells #[.bool false, .slice none 0 0] 24)) w2) := hKW
  obtain ⟨hb0', hb1, hb2, hb3⟩ := box_kept2 ((((Kept.refl _).alloc _).alloc _).trans hKW)
  have HK2 : Hid (Kept w w2) := HK1.out.trans hk2
  have hlr : r.length ≤ 72 := by have := M.len_le_of_val_le htr HB.out.bd (Nat.le_of_lt hlt); omega
  have hlq' : q.length ≤ 72 := by omega
  have HQ : Hid (New w1.heap.size w2 (.slice aq q.length cq) q ∧ New w1.heap.size w2 (.slice ar r.length cr) r ∧ M.Tr q ∧ M.Tr r ∧ M.val a = M.val q * M.val b + M.val r ∧ M.val r < M.val b) := ⟨hnq, hnr, htq, htr, hval, hlt⟩
  have HS : Hid (w.heap.size + 1 + 1 + 1 + 1 ≤ w1.heap.size) := by
    show _ ≤ _
    have := HKa.out.size
    simpa using this
  clear hk2 hnq hnr htq htr hlq hval hlt hKW HKa HA HB
  have hne1 : ¬ (w.heap.size + 1 + 1 = w.heap.size) := by omega
  have hne2 : ¬ (w.heap.size + 1 + 1 + 1 = w.heap.size) := by omega
  have hne3 : ¬ (w.heap.size + 1 + 1 + 1 = w.heap.size + 1) := by omega
  go_wp2_with fail
  go_region_held3 (fun w' => w'.cell? ⟨w.heap.size, 0, none⟩ = some (.bool m) ∧ w'.cell? ⟨w.heap.size, 1, none⟩ = some (.slice aoa a.length capa) ∧ w'.cell? ⟨w.heap.size + 1, 0, none⟩ = some (.bool n) ∧ w'.cell? ⟨w.heap.size + 1, 1, none⟩ = some (.slice aob b.length capb)) (go_keep) (first
    | (go_at_call_of 24 (Value.slice aq q.length cq); refine (signed_any (m != n) aq q.length cq _ (by omega)).mono ?_; rintro e w3 ⟨rfl, hk3⟩; obtain ⟨hb4, hb5, hb6, hb7⟩ := box_kept2 ((((Kept.refl _).alloc _).alloc _).trans (HKb.out.drew.trans hk3)))
    | (go_at_call_of 24 (Value.slice ar r.length cr); refine (signed_any m ar r.length cr _ (by omega)).mono ?_; rintro e w4 ⟨rfl, hk4⟩; obtain ⟨hb8, hb9, hba, hbb⟩ := box_kept2 ((((Kept.refl _).alloc _).alloc _).trans ((HKb.out.drew.trans hk3).trans hk4)); have hc := ((HKb.out.drew.trans hk3).trans hk4).cells; have hf := ((HKb.out.drew.trans hk3).trans hk4).frozens))
  have HF : Hid (Kept w w4 ∧ New (w.heap.size + 1 + 1 + 1 + 1) w4 (.slice aq q.length cq) q ∧ New (w.heap.size + 1 + 1 + 1 + 1) w4 (.slice ar r.length cr) r) :=
    ⟨((HK2.out.drew.trans hk3).trans hk4), ((HQ.out.1.kept ((Kept.refl w2).drew.trans hk3)).kept hk4).mono HS.out, ((HQ.out.2.1.kept ((Kept.refl w2).drew.trans hk3)).kept hk4).mono HS.out⟩
  clear hk3 hk4 hb0' hb1 hb2 hb3 hb4 hb5 hb6 hb7 hb8 hb9 hba hbb
  have hs1 := right_signed (neg := (m != n)) HQ.out.1.1 HQ.out.2.2.1 hlq'
  have hs2 := right_signed (neg := m) HQ.out.2.1.1 HQ.out.2.2.2.1 hlr
  generalize (m != n && decide (0 < q.length)) = s1 at *
  generalize (m && decide (0 < r.length)) = s2 at *
  have HS1 : Hid (M.Right s1 q ∧ M.int s1 q = M.int (m != n) q) := hs1
  have HS2 : Hid (M.Right s2 r ∧ M.int s2 r = M.int m r) := hs2
  clear hs1 hs2
  go_wp2
  exact bodyPost_ret (v := .tuple #[.agg #[.bool s1, .slice aq q.length cq], .agg #[.bool s2, .slice ar r.length cr], .int .i64 0]) (by simp [results, Tryd.results8, go_sem, hc]) rfl
    ⟨(((HF.out.1.setCell (by simp; omega) _).setCell (by simp; omega) _).setCell (by simp; omega) _).setCell (by simp; omega) _, s1, _, _, _, q, s2, _, _, _, r, rfl,
      ((((HF.out.2.1.other (by simp) _).other (by simp) _).other (by simp) _).other (by simp) _).mono (by omega),
      ((((HF.out.2.2.other (by simp) _).other (by simp) _).other (by simp) _).other (by simp) _).mono (by omega), HS1.out.1, HS2.out.1, HQ.out.2.2.2.2.1, HQ.out.2.2.2.2.2, HS1.out.2, HS2.out.2⟩

end Go.Proofs.YthijnnififodjaaDoor
