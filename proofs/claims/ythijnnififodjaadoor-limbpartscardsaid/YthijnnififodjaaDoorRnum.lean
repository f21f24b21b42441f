/- Plus, Less, Times of package shuntref01, as whole numbers with signs. -/
import Derived.Test.YthijnnififodjaaDoorRtimes
namespace Go.Proofs.YthijnnififodjaaDoor
open Go.RowKit
namespace D

theorem Sl.len {w : World} {ao : Option Addr} {n cap : Nat} {l : List Nat} (h : Sl w (.slice ao n cap) l) : n = l.length := by
  obtain ⟨_, ao', cap', he, _⟩ := h
  simp only [Value.slice.injEq] at he
  exact he.2.1

theorem int_zero {m : Bool} {l : List Nat} (h : l.length = 0) : int m l = 0 := by
  have : l = [] := List.length_eq_zero_iff.1 h
  subst this; cases m <;> rfl

theorem NIs.mk {w : World} {q : Bool} {ao : Option Addr} {k cap : Nat} {l : List Nat} {z : Int} (h : Sl w (.slice ao k cap) l) (ht : D.Tr l) (hz : int q l = z) : NIs w (q && decide (0 < k)) (.slice ao k cap) z := by
  have hk := h.len
  refine ⟨l, h, ⟨h.bd, ht, fun e => by rw [hk, e]; simp⟩, ?_⟩
  by_cases h0 : 0 < k
  · simpa [h0] using hz
  · rw [int_zero (by omega), ← hz, int_zero (by omega)]

theorem Times_any (m n : Bool) (aoa aob : Option Addr) (ka kb capa capb : Nat) (x y : Int) (w : World) (ha : NIs w m (.slice aoa ka capa) x) (hb : NIs w n (.slice aob kb capb) y) (hla : ka ≤ 5000) (hlb : kb ≤ 5000) :
    Calls Tryd.prog 31 #[.agg #[.bool m, .slice aoa ka capa], .agg #[.bool n, .slice aob kb capb]] w fun e w' => Kept w w' ∧ ∃ s ao k cap, e = .returned (.agg #[.bool s, .slice ao k cap]) ∧ NIs w' s (.slice ao k cap) (x * y) ∧ k ≤ ka + kb := by
  obtain ⟨a, hsa, ra, rfl⟩ := ha
  obtain ⟨b, hsb, rb, rfl⟩ := hb
  have e1 := hsa.len
  have e2 := hsb.len
  subst e1 e2
  refine (Times_raw m n aoa aob capa capb a b w hsa hsb hla hlb).mono ?_
  rintro e w' ⟨hk, ao, k, cap, l, rfl, hs, ht, hv, hl⟩
  exact ⟨hk, _, _, _, _, rfl, NIs.mk hs ht (int_mul hv), by rw [hs.len]; exact hl⟩

theorem int_same {m : Bool} {a b l : List Nat} (h : D.val l = D.val a + D.val b) : int m l = int m a + int m b := by
  unfold int; cases m <;> simp [h]; omega

theorem int_lt {m n : Bool} {a b l : List Nat} (hmn : m ≠ n) (hc : D.val a ≤ D.val b) (h : D.val l = D.val b - D.val a) : int n l = int m a + int n b := by
  unfold int; cases m <;> cases n <;> simp at hmn ⊢ <;> omega

theorem int_ge {m n : Bool} {a b l : List Nat} (hmn : m ≠ n) (hc : D.val b ≤ D.val a) (h : D.val l = D.val a - D.val b) : int m l = int m a + int n b := by
  unfold int; cases m <;> cases n <;> simp at hmn ⊢ <;> omega

set_option maxRecDepth 100000 in
set_option maxHeartbeats 1000000 in
theorem Plus_same (m : Bool) (aoa aob : Option Addr) (capa capb : Nat) (a b : List Nat) (w : World) (ha : Sl w (.slice aoa a.length capa) a) (hb : Sl w (.slice aob b.length capb) b) (hla : a.length ≤ 5000) (hlb : b.length ≤ 5000) :
    Calls Tryd.prog 29 #[.agg #[.bool m, .slice aoa a.length capa], .agg #[.bool m, .slice aob b.length capb]] w fun e w' => Kept w w' ∧ ∃ s ao k cap, e = .returned (.agg #[.bool s, .slice ao k cap]) ∧ NIs w' s (.slice ao k cap) (int m a + int m b) ∧ k ≤ max a.length b.length + 1 := by
  have HA : Hid (Sl w (.slice aoa a.length capa) a) := ha
  have HB : Hid (Sl w (.slice aob b.length capb) b) := hb
  have K3 : ∀ x y z, Kept w (((w.alloc x).alloc y).alloc z) := fun x y z => (((Kept.refl w).alloc x).alloc y).alloc z
  clear ha hb
  go_enter Tryd.func29, Tryd.ntmps29
  go_wp2_with fail
  refine (plus_any _ _ a b _ (HA.out.kept (K3 _ _ _)) (HB.out.kept (K3 _ _ _)) hla hlb).mono ?_
  rintro e w1 ⟨hk, v', l', rfl, hs, ht, hv, hl⟩
  obtain ⟨hbd', ao', cap', rfl, hx'⟩ := hs
  have HR : Hid (Sl w1 (.slice ao' l'.length cap') l' ∧ D.Tr l' ∧ D.val l' = D.val a + D.val b ∧ l'.length ≤ max a.length b.length + 1) := ⟨⟨hbd', ao', cap', rfl, hx'⟩, ht, hv, hl⟩
  obtain ⟨hA0, hA1, hB0, hB1, hR0, hR1⟩ := box_kept3 hk
  have hf := hk.frozens
  have HK : Hid (Kept w w1) := (K3 _ _ _).trans hk
  have hll : l'.length ≤ 10000 := by omega
  clear hk hx' ht hv hl hbd' K3
  rcases m with _ | _
  all_goals
    go_wp2
    first
      | exact bodyPost_ret (v := .agg #[.bool false, .slice ao' l'.length cap']) (by simp [results, Tryd.results29, go_sem, hR0, hR1]) rfl ⟨(HK.out.setCell (by simp; omega) _).setCell (by simp; omega) _, false && decide (0 < l'.length), ao', _, cap', rfl, NIs.mk (HR.out.1.box hR0 hR1 _ _) HR.out.2.1 (int_same HR.out.2.2.1), HR.out.2.2.2⟩
      | exact bodyPost_ret (v := .agg #[.bool (decide (0 < l'.length)), .slice ao' l'.length cap']) (by simp [results, Tryd.results29, go_sem, hR0, hR1]) rfl ⟨(HK.out.setCell (by simp; omega) _).setCell (by simp; omega) _, true && decide (0 < l'.length), ao', _, cap', by simp, NIs.mk (HR.out.1.box hR0 hR1 _ _) HR.out.2.1 (int_same HR.out.2.2.1), HR.out.2.2.2⟩

set_option maxRecDepth 100000 in
set_option maxHeartbeats 2000000 in
theorem Plus_ge (m n : Bool) (aoa aob : Option Addr) (capa capb : Nat) (a b : List Nat) (w : World) (ha : Sl w (.slice aoa a.length capa) a) (hb : Sl w (.slice aob b.length capb) b) (hla : a.length ≤ 5000) (hlb : b.length ≤ 5000) (ta : D.Tr a) (tb : D.Tr b) (hmn : m ≠ n) (hle : D.val b ≤ D.val a) :
    Calls Tryd.prog 29 #[.agg #[.bool m, .slice aoa a.length capa], .agg #[.bool n, .slice aob b.length capb]] w fun e w' => Kept w w' ∧ ∃ s ao k cap, e = .returned (.agg #[.bool s, .slice ao k cap]) ∧ NIs w' s (.slice ao k cap) (int m a + int n b) ∧ k ≤ max a.length b.length + 1 := by
  have HA : Hid (Sl w (.slice aoa a.length capa) a) := ha
  have HB : Hid (Sl w (.slice aob b.length capb) b) := hb
  have HT : Hid (D.Tr a ∧ D.Tr b ∧ D.val b ≤ D.val a ∧ m ≠ n) := ⟨ta, tb, hle, hmn⟩
  have hmn' : (m == n) = false := by simpa using hmn
  have K3 : ∀ x y z, Kept w (((w.alloc x).alloc y).alloc z) := fun x y z => (((Kept.refl w).alloc x).alloc y).alloc z
  clear ha hb ta tb hle hmn
  go_enter Tryd.func29, Tryd.ntmps29
  go_wp2_with fail
  refine (mags_any _ _ a b _ (HA.out.kept (K3 _ _ _)) (HB.out.kept (K3 _ _ _)) hla hlb HT.out.1 HT.out.2.1).mono ?_
  rintro e w0 ⟨rfl, nq, rfl⟩
  have hs : 0 ≤ sgn (D.val a) (D.val b) := by unfold sgn; have := HT.out.2.2.1; split; omega; split <;> omega
  generalize sgn (D.val a) (D.val b) = r at *
  go_wp2_with fail
  refine (minus_any _ _ a b _ (HA.out.kept ((K3 _ _ _).drewN nq)) (HB.out.kept ((K3 _ _ _).drewN nq)) hla HT.out.2.2.1 (D.len_le_of_val_le HT.out.2.1 HA.out.bd HT.out.2.2.1)).mono ?_
  rintro e w1 ⟨hk, v', l', rfl, hs', ht, hv, hl⟩
  obtain ⟨hbd', ao', cap', rfl, hx'⟩ := hs'
  have HR : Hid (Sl w1 (.slice ao' l'.length cap') l' ∧ D.Tr l' ∧ D.val l' = D.val a - D.val b ∧ l'.length ≤ max a.length b.length + 1) := ⟨⟨hbd', ao', cap', rfl, hx'⟩, ht, hv, by omega⟩
  obtain ⟨hA0, hA1, hB0, hB1, hR0, hR1⟩ := box_kept3 (((Kept.refl _).drewN nq).trans hk)
  have hf := hk.frozens
  have HK : Hid (Kept w w1) := ((K3 _ _ _).drewN nq).trans hk
  have hll : l'.length ≤ 10000 := by omega
  clear hk hx' ht hv hl hbd' K3
  rcases m with _ | _
  all_goals
    go_wp2
    first
      | exact bodyPost_ret (v := .agg #[.bool false, .slice ao' l'.length cap']) (by simp [results, Tryd.results29, go_sem, hR0, hR1]) rfl ⟨(HK.out.setCell (by simp; omega) _).setCell (by simp; omega) _, false && decide (0 < l'.length), ao', _, cap', rfl, NIs.mk (HR.out.1.box hR0 hR1 _ _) HR.out.2.1 (int_ge HT.out.2.2.2 HT.out.2.2.1 HR.out.2.2.1), HR.out.2.2.2⟩
      | exact bodyPost_ret (v := .agg #[.bool (decide (0 < l'.length)), .slice ao' l'.length cap']) (by simp [results, Tryd.results29, go_sem, hR0, hR1]) rfl ⟨(HK.out.setCell (by simp; omega) _).setCell (by simp; omega) _, true && decide (0 < l'.length), ao', _, cap', by simp, NIs.mk (HR.out.1.box hR0 hR1 _ _) HR.out.2.1 (int_ge HT.out.2.2.2 HT.out.2.2.1 HR.out.2.2.1), HR.out.2.2.2⟩

set_option maxRecDepth 100000 in
set_option maxHeartbeats 2000000 in
theorem Plus_lt (m n : Bool) (aoa aob : Option Addr) (capa capb : Nat) (a b : List Nat) (w : World) (ha : Sl w (.slice aoa a.length capa) a) (hb : Sl w (.slice aob b.length capb) b) (hla : a.length ≤ 5000) (hlb : b.length ≤ 5000) (ta : D.Tr a) (tb : D.Tr b) (hmn : m ≠ n) (hlt : D.val a < D.val b) :
    Calls Tryd.prog 29 #[.agg #[.bool m, .slice aoa a.length capa], .agg #[.bool n, .slice aob b.length capb]] w fun e w' => Kept w w' ∧ ∃ s ao k cap, e = .returned (.agg #[.bool s, .slice ao k cap]) ∧ NIs w' s (.slice ao k cap) (int m a + int n b) ∧ k ≤ max a.length b.length + 1 := by
  have HA : Hid (Sl w (.slice aoa a.length capa) a) := ha
  have HB : Hid (Sl w (.slice aob b.length capb) b) := hb
  have HT : Hid (D.Tr a ∧ D.Tr b ∧ D.val a < D.val b ∧ m ≠ n) := ⟨ta, tb, hlt, hmn⟩
  have hmn' : (m == n) = false := by simpa using hmn
  have K3 : ∀ x y z, Kept w (((w.alloc x).alloc y).alloc z) := fun x y z => (((Kept.refl w).alloc x).alloc y).alloc z
  clear ha hb ta tb hlt hmn
  go_enter Tryd.func29, Tryd.ntmps29
  go_wp2_with fail
  refine (mags_any _ _ a b _ (HA.out.kept (K3 _ _ _)) (HB.out.kept (K3 _ _ _)) hla hlb HT.out.1 HT.out.2.1).mono ?_
  rintro e w0 ⟨rfl, nq, rfl⟩
  rw [sgn, if_pos HT.out.2.2.1]
  have hne1 : w.heap.size + 1 + 1 ≠ w.heap.size := by omega
  go_wp2_with fail
  go_region_held3 (fun w' => w'.cell? ⟨w.heap.size, 1, none⟩ = some (.slice aoa a.length capa) ∧ w'.cell? ⟨w.heap.size + 1, 0, none⟩ = some (.bool n) ∧ w'.cell? ⟨w.heap.size + 1, 1, none⟩ = some (.slice aob b.length capb)) (go_keep) (first
    | (go_at_call 50; refine (minus_any _ _ b a _ ?_ ?_ hlb (Nat.le_of_lt HT.out.2.2.1) (D.len_le_of_val_le HT.out.1 HB.out.bd (Nat.le_of_lt HT.out.2.2.1))).mono ?_; exact HB.out.kept (((K3 _ _ _).drewN nq).drew); exact HA.out.kept (((K3 _ _ _).drewN nq).drew); rintro e w1 ⟨hk, v', l', rfl, hs', ht, hv, hl⟩; obtain ⟨hbd', ao', cap', rfl, hx'⟩ := hs'; obtain ⟨hA0, hA1, hB0, hB1, hR0, hR1⟩ := box_kept3 ((((Kept.refl _).drewN nq).drew).trans hk); have hf := hk.frozens))
  have HR : Hid (Sl w1 (.slice ao' l'.length cap') l' ∧ D.Tr l' ∧ D.val l' = D.val b - D.val a ∧ l'.length ≤ max a.length b.length + 1) := ⟨⟨hbd', ao', cap', rfl, hx'⟩, ht, hv, by omega⟩
  have HK : Hid (Kept w w1) := (((K3 _ _ _).drewN nq).drew).trans hk
  clear hk hx' ht hv hl hbd' K3
  go_wp2
  have hne : l' ≠ [] := fun e => by
    have h1 := HR.out.2.2.1
    have h2 := HT.out.2.2.1
    rw [e] at h1
    simp [D.val] at h1
    omega
  exact bodyPost_ret (v := .agg #[.bool n, .slice ao' l'.length cap']) (by simp [results, Tryd.results29, go_sem, hR0, hR1]) rfl ⟨(HK.out.setCell (by simp; omega) _).setCell (by simp; omega) _, n, ao', _, cap', rfl, ⟨l', HR.out.1.box hR0 hR1 _ _, ⟨HR.out.1.bd, HR.out.2.1, fun e => absurd e hne⟩, int_lt HT.out.2.2.2 (Nat.le_of_lt HT.out.2.2.1) HR.out.2.2.1⟩, HR.out.2.2.2⟩

theorem Plus_any (m n : Bool) (aoa aob : Option Addr) (ka kb capa capb : Nat) (x y : Int) (w : World) (ha : NIs w m (.slice aoa ka capa) x) (hb : NIs w n (.slice aob kb capb) y) (hla : ka ≤ 5000) (hlb : kb ≤ 5000) :
    Calls Tryd.prog 29 #[.agg #[.bool m, .slice aoa ka capa], .agg #[.bool n, .slice aob kb capb]] w fun e w' => Kept w w' ∧ ∃ s ao k cap, e = .returned (.agg #[.bool s, .slice ao k cap]) ∧ NIs w' s (.slice ao k cap) (x + y) ∧ k ≤ max ka kb + 1 := by
  obtain ⟨a, hsa, ra, rfl⟩ := ha
  obtain ⟨b, hsb, rb, rfl⟩ := hb
  have e1 := hsa.len
  have e2 := hsb.len
  subst e1 e2
  by_cases h : m = n
  · subst h
    exact Plus_same m aoa aob capa capb a b w hsa hsb hla hlb
  · by_cases h2 : D.val a < D.val b
    · exact Plus_lt m n aoa aob capa capb a b w hsa hsb hla hlb ra.tr rb.tr h h2
    · exact Plus_ge m n aoa aob capa capb a b w hsa hsb hla hlb ra.tr rb.tr h (by omega)

end D
end Go.Proofs.YthijnnififodjaaDoor
