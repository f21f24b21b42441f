/- Text of package shuntref01. -/
import Derived.Test.YtiadnlpbbibkgaaDoorRdig
namespace Go.Proofs.YtiadnlpbbibkgaaDoor
open Go.RowKit
namespace D

set_option maxHeartbeats 1000000 in
theorem Digits_nil (ao : Option Addr) (cap : Nat) (w : World) :
    Calls Tryd.prog 59 #[.agg #[.bool false, .slice ao 0 cap]] w fun e w' => Kept w w' ∧ e = .returned (.string ⟨#[48]⟩) := by
  have HN : Hid (NIs w false (.slice ao 0 cap) 0) := ⟨[], Sl.nil _ _ _, ⟨D.Bd_nil, .inl rfl, fun _ => rfl⟩, rfl⟩
  go_enter Tryd.func59, Tryd.ntmps59
  go_wp2_with fail
  refine (Sign_any false _ 0 cap _ _ (HN.out.kept ((Kept.refl w).alloc _)) (by omega)).mono ?_
  rintro e w1 ⟨rfl, hk1⟩
  rw [show isgn 0 0 = 0 from rfl]
  have HK1 : Hid (Kept w w1) := ((Kept.refl w).alloc _).trans hk1
  clear hk1
  go_wp2
  go_ret
  exact ⟨HK1.out, rfl⟩

theorem Digits_any (s : Bool) (ao : Option Addr) (k cap : Nat) (m : Bool) (l : List Nat) (w : World) (h : NIs w s (.slice ao k cap) (M.int m l)) (hr : M.Right m l) (hk : k ≤ 200) :
    Calls Tryd.prog 59 #[.agg #[.bool s, .slice ao k cap]] w fun e w' => Kept w w' ∧ ∃ S : List UInt8, Plain S ∧ dv S = M.val l ∧ e = .returned (.string ⟨(tx m S).toArray⟩) := by
  obtain ⟨d, hs, hrd, hz⟩ := h
  have e := hs.len
  subst e
  have hv : D.val d = M.val l := by rw [← D.natAbs_int s d, hz, M.natAbs_int]
  by_cases h0 : 0 < d.length
  · have hp := D.val_pos hrd.tr (fun e => by rw [e] at h0; simp at h0)
    have hsm : s = m := by
      unfold int M.int at hz
      cases s <;> cases m <;> simp at hz <;> first | rfl | omega
    subst hsm
    refine (Digits_some s ao cap d w hs hrd h0 hk).mono ?_
    rintro e w' ⟨hkk, S, h1, h2, rfl⟩
    exact ⟨hkk, S, .inr h1, by rw [h2, hv], rfl⟩
  · have hd : d = [] := List.length_eq_zero_iff.1 (by omega)
    subst hd
    have hl0 : l = [] := by
      apply Classical.byContradiction
      intro h
      have := M.val_pos hr.tr h
      rw [← hv] at this
      simp [D.val] at this
    have hm := hr.zero hl0
    have hs0 := hrd.zero rfl
    subst hm hs0
    refine (Digits_nil ao cap w).mono ?_
    rintro e w' ⟨hkk, rfl⟩
    exact ⟨hkk, [48], .inl rfl, by rw [hl0]; rfl, rfl⟩

set_option maxHeartbeats 1000000 in
theorem rtext_yes (m : Bool) (ao : Option Addr) (n cap : Nat) (l : List Nat) (w : World) (h : Go.Proofs.YtiadnlpbbibkgaaDoor.Sl w (.slice ao n cap) l) (hr : R m l) :
    Calls Tryd.prog 28 #[.agg #[.bool m, .slice ao n cap]] w fun e w' => Kept w w' ∧ ∃ S : List UInt8, Plain S ∧ dv S = M.val l ∧ e = .returned (.tuple #[.string ⟨(tx m S).toArray⟩, .int .i64 0]) := by
  have HS : Hid (Go.Proofs.YtiadnlpbbibkgaaDoor.Sl w (.slice ao n cap) l ∧ R m l) := ⟨h, hr⟩
  have h72 := hr.1
  clear h hr
  go_enter Tryd.func28, Tryd.ntmps28
  go_wp2_with fail
  refine (right_yes m _ l _ (HS.out.1.kept ((Kept.refl w).alloc _)) HS.out.2).mono ?_
  rintro e w1 ⟨rfl, hk1⟩
  obtain ⟨hA0, hA1⟩ := box_kept hk1
  have HK1 : Hid (Kept w w1) := ((Kept.refl w).alloc _).trans hk1
  clear hk1
  go_wp2_with fail
  refine (Take_any m ao n cap l _ (HS.out.1.kept HK1.out) (by omega)).mono ?_
  rintro e w2 ⟨hk2, s2, a2, k2, c2, rfl, hN2, hl2⟩
  have HN2 : Hid (NIs w2 s2 (.slice a2 k2 c2) (M.int m l) ∧ Kept w w2) := ⟨hN2, HK1.out.trans hk2⟩
  clear hk2 hN2 hA0 hA1
  go_wp2_with fail
  refine (Digits_any s2 a2 k2 c2 m l _ HN2.out.1 (HS.out.2.right HS.out.1.bd) (by omega)).mono ?_
  rintro e w3 ⟨hk3, S, hS1, hS2, rfl⟩
  obtain ⟨t, ht⟩ : ∃ t, t = (⟨(tx m S).toArray⟩ : ByteArray) := ⟨_, rfl⟩
  rw [← ht]
  have HE : Hid (Kept w w3 ∧ Plain S ∧ dv S = M.val l ∧ t = (⟨(tx m S).toArray⟩ : ByteArray)) := ⟨HN2.out.2.trans hk3, hS1, hS2, ht⟩
  clear hk3 hS1 hS2 ht
  go_wp2
  exact bodyPost_ret (v := .tuple #[.string t, .int .i64 0]) (by simp [results, Tryd.results28, go_sem]) rfl ⟨HE.out.1, S, HE.out.2.1, HE.out.2.2.1, by rw [HE.out.2.2.2]⟩

set_option maxHeartbeats 1000000 in
theorem rtext_no (m : Bool) (ao : Option Addr) (n cap : Nat) (l : List Nat) (w : World) (h : Go.Proofs.YtiadnlpbbibkgaaDoor.Sl w (.slice ao n cap) l) (hl : l.length ≤ 80) (hr : ¬ R m l) :
    Calls Tryd.prog 28 #[.agg #[.bool m, .slice ao n cap]] w fun e w' => e = .returned (.tuple #[.string ⟨#[]⟩, .int .i64 10]) ∧ Kept w w' := by
  have HS : Hid (Go.Proofs.YtiadnlpbbibkgaaDoor.Sl w (.slice ao n cap) l ∧ ¬ R m l) := ⟨h, hr⟩
  clear h hr
  go_enter Tryd.func28, Tryd.ntmps28
  go_wp2_with fail
  refine (right_no m _ l _ (HS.out.1.kept ((Kept.refl w).alloc _)) (by omega) HS.out.2).mono ?_
  rintro e w1 ⟨rfl, hk1⟩
  have HK1 : Hid (Kept w w1) := ((Kept.refl w).alloc _).trans hk1
  clear hk1
  go_wp2
  exact bodyPost_ret (v := .tuple #[.string ⟨#[]⟩, .int .i64 10]) (by simp [results, Tryd.results28, go_sem]) rfl ⟨rfl, HK1.out⟩

end D
end Go.Proofs.YtiadnlpbbibkgaaDoor
