/- LimbReads: the walk of the statement itself, out of its callees' contracts. -/
import Derived.Test.YtiadnlpbbibkgaaDoorRparse
namespace Go.Proofs.YtiadnlpbbibkgaaDoor
open Go.RowKit
open D (Tells FinX)

theorem fin_x {B : Nat} {w : World} {e : Ending} {z : Int} (h : AnsIs B w e z) : Tells w e (.ok z) := by
  obtain ⟨s, ao, n, cap, c, rfl, ⟨hc, l, hn, hr⟩ | h⟩ := h
  · exact ⟨s, ao, n, cap, c, rfl, .inl ⟨hc, l, hn.sl, hr⟩⟩
  · exact ⟨s, ao, n, cap, c, rfl, .inr h⟩

/-- Both readers tell the same. -/
theorem parse_both (s : ByteArray) (hm : s.size ≤ maxLen) : ∃ o, (∀ w, Calls Tryd.prog 34 #[.string s] w fun e w' => Kept w w' ∧ Tells w' e o) ∧ (∀ w, Calls Tryd.prog 35 #[.string s] w fun e w' => Kept w w' ∧ Tells w' e o) := by
  by_cases hs : s.size ≤ 1024
  · by_cases h0 : ∃ h : 0 < s.size, s[0].toNat = 45
    · obtain ⟨h0, h45⟩ := h0
      by_cases hp : NZ (s.data.toList.drop 1)
      · have hL : s.data.toList = 45 :: s.data.toList.drop 1 := by
          have hh := head_get s h0
          have hc : s[0] = 45 := UInt8.toNat_inj.1 (by rw [h45]; rfl)
          rw [hc] at hh
          cases hd : s.data.toList with
          | nil => rw [hd] at hh; simp at hh
          | cons x t => rw [hd] at hh; simp at hh; rw [hh]; rfl
        exact ⟨.ok (-(dv (s.data.toList.drop 1) : Int)), fun w => (parse_neg s _ w hs hL hp).mono (fun e w' h => ⟨h.1, fin_x h.2⟩), fun w => D.rparse_of s w hs _ _ _ (fun _ => rfl) (fun h => absurd hp h) (fun w => D.number_minus s w hs h0 h45)⟩
      · exact ⟨.error 3, fun w => parse_bad2 s w hs h0 h45 (by rw [ext_rest]; exact hp), fun w => D.rparse_of s w hs _ _ _ (fun h => absurd h hp) (fun _ => rfl) (fun w => D.number_minus s w hs h0 h45)⟩
    · have hne : ∀ h : 0 < s.size, ¬ s[0].toNat = 45 := fun h e => h0 ⟨h, e⟩
      by_cases hp : Plain s.data.toList
      · exact ⟨.ok (dv s.data.toList : Int), fun w => (parse_pos s w hs hp).mono (fun e w' h => ⟨h.1, fin_x h.2⟩), fun w => D.rparse_of s w hs _ _ _ (fun _ => rfl) (fun h => absurd hp h) (fun w => D.number_pos s w hs hne)⟩
      · exact ⟨.error 3, fun w => parse_bad1 s w hs hne hp, fun w => D.rparse_of s w hs _ _ _ (fun h => absurd h hp) (fun _ => rfl) (fun w => D.number_pos s w hs hne)⟩
  · exact ⟨.error 2, fun w => parse_long s w (by omega) hm, fun w => D.rparse_long s w (by omega) hm⟩

/-- Two answers that tell the same: the same limbs, the same error. -/
theorem tells_same {w w' : World} {e e' : Ending} {o : Except Int Int} (h : Tells w e o) (h' : Tells w' e' o) : ∃ s ao n cap c ao' n' cap' l, e = .returned (.tuple #[.agg #[.bool s, .slice ao n cap], .int .i64 c]) ∧ e' = .returned (.tuple #[.agg #[.bool s, .slice ao' n' cap'], .int .i64 c]) ∧ Sl w (.slice ao n cap) l ∧ Sl w' (.slice ao' n' cap') l ∧ l.length ≤ 72 := by
  cases o with
  | error c => exact ⟨false, none, 0, 0, c, none, 0, 0, [], h, h', Sl.nil _ _ _, Sl.nil _ _ _, by simp⟩
  | ok z =>
    obtain ⟨s, ao, n, cap, c, rfl, hF⟩ := h
    obtain ⟨s', ao', n', cap', c', rfl, hF'⟩ := h'
    rcases hF with ⟨rfl, l, h1, h2, h3⟩ | ⟨rfl, rfl, h2, h3⟩ <;> rcases hF' with ⟨rfl, l', h1', h2', h3'⟩ | ⟨rfl, rfl, h2', h3'⟩
    · obtain ⟨rfl, rfl⟩ := M.int_inj h2 h2' (h3.trans h3'.symm)
      exact ⟨s, ao, n, cap, 0, ao', n', cap', l, rfl, rfl, h1, h1', h2.len⟩
    · have := M.lt_W72 h2.bd h2.len
      rw [← h3, M.natAbs_int] at h3'
      omega
    · have := M.lt_W72 h2'.bd h2'.len
      rw [← h3', M.natAbs_int] at h3
      omega
    · rw [h2, h2']
      exact ⟨false, none, 0, 0, 13, none, 0, 0, [], by simp_all, by simp_all, Sl.nil _ _ _, Sl.nil _ _ _, by simp⟩

set_option maxRecDepth 100000 in
set_option maxHeartbeats 2000000 in
theorem lreads_any (s : ByteArray) (w : World) (hm : s.size ≤ maxLen) : Calls Tryd.prog 6 #[.string s] w fun e w' => e = .returned (.bool true) ∧ Kept w w' := by
  obtain ⟨o, h1, h2⟩ := parse_both s hm
  have H1 : Hid (∀ w, Calls Tryd.prog 34 #[.string s] w fun e w' => Kept w w' ∧ Tells w' e o) := h1
  have H2 : Hid (∀ w, Calls Tryd.prog 35 #[.string s] w fun e w' => Kept w w' ∧ Tells w' e o) := h2
  clear h1 h2 hm
  go_enter Tryd.func6, Tryd.ntmps6
  go_wp2_with fail
  refine (awake_yes _).mono ?_
  rintro e w1 ⟨rfl, hk1⟩
  have HK1 : Hid (Kept w w1) := hk1
  clear hk1
  go_wp2_with fail
  refine (H1.out _).mono ?_
  rintro e w2 ⟨hk2, ht2⟩
  obtain ⟨s2, a2, n2, c2, k2, rfl⟩ : ∃ s ao n cap c, e = .returned (.tuple #[.agg #[.bool s, .slice ao n cap], .int .i64 c]) := by
    obtain ⟨s, ao, n, cap, c, _, _, _, _, he, _⟩ := tells_same ht2 ht2
    exact ⟨s, ao, n, cap, c, he⟩
  have HT2 : Hid (Tells w2 (.returned (.tuple #[.agg #[.bool s2, .slice a2 n2 c2], .int .i64 k2])) o ∧ Kept w w2) := ⟨ht2, HK1.out.trans hk2⟩
  clear hk2 ht2
  go_wp2_with fail
  refine (H2.out _).mono ?_
  rintro e w3 ⟨hk3, ht3⟩
  obtain ⟨s3, a3, n3, c3, k3, a3', n3', c3', l, he, rfl, hs2, hs3, hl⟩ := tells_same HT2.out.1 ht3
  simp only [Ending.returned.injEq, Value.tuple.injEq, Array.mk.injEq, List.cons.injEq, Value.agg.injEq, Value.bool.injEq, Value.slice.injEq, Value.int.injEq, true_and, and_true] at he
  obtain ⟨⟨rfl, rfl, rfl, rfl⟩, rfl⟩ := he
  obtain ⟨hb0, hb1⟩ := box_kept hk3
  have HS : Hid (Sl w2 (.slice a2 n2 c2) l ∧ Sl w3 (.slice a3' n3' c3') l ∧ Kept w2 w3 ∧ Kept w w3) := ⟨hs2, hs3, ((Kept.refl w2).alloc _).trans hk3, HT2.out.2.trans (((Kept.refl w2).alloc _).trans hk3)⟩
  have gb0 := fun x => cell_kept ((Kept.refl w3).alloc x) hb0
  have gb1 := fun x => cell_kept ((Kept.refl w3).alloc x) hb1
  clear hk3 ht3 hs2 hs3 hb0 hb1
  go_wp2_with fail
  refine (lsame_any true s2 s2 _ _ l l _ (HS.out.1.kept (HS.out.2.2.1.alloc _)) (HS.out.2.1.kept ((Kept.refl w3).alloc _)) (by omega) (by omega) (by simp)).mono ?_
  rintro e w4 ⟨rfl, hk4⟩
  have HK4 : Hid (Kept w w4) := (HS.out.2.2.2.alloc _).trans hk4
  clear hk4 gb0 gb1
  go_wp2
  go_ret
  exact ⟨rfl, HK4.out⟩

end Go.Proofs.YtiadnlpbbibkgaaDoor
