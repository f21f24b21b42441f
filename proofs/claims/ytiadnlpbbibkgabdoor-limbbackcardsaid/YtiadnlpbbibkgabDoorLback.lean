/- LimbBack: the walk of the statement itself, out of its callees' contracts. -/
import Derived.Test.YtiadnlpbbibkgabDoorLcom
import Derived.Test.YtiadnlpbbibkgabDoorTxg
import Derived.Test.YtiadnlpbbibkgabDoorPrs
namespace Go.Proofs.YtiadnlpbbibkgabDoor
open Go.RowKit

theorem plain_len {D : List UInt8} (h : Plain D) (hv : dv D < M.W72) : D.length ≤ 800 := by
  rcases h with rfl | h
  · simp
  · have h1 := nz_len h
    obtain ⟨q, hq⟩ : ∃ q, q = 72 := ⟨_, rfl⟩
    have h2 : M.W72 ≤ 10 ^ (10 * q) := by
      unfold M.W72
      rw [Nat.pow_mul, hq]
      exact Nat.pow_le_pow_left (show 4294967296 ≤ 10 ^ 10 by decide) 72
    have h3 : 10 ^ (D.length - 1) < 10 ^ (10 * q) := by omega
    have := (Nat.pow_lt_pow_iff_right (a := 10) (by decide)).1 h3
    omega

/-- Parse of a text that Text told. -/
theorem parse_back (s : ByteArray) (m : Bool) (D : List UInt8) (l : List Nat) (w : World) (hL : s.data.toList = tx m D) (hp : Plain D) (hz : m = true → NZ D) (hv : dv D = M.val l) (hw : M.val l < M.W72) :
    Calls Tryd.prog 8 #[.string s] w fun e w' => Kept w w' ∧ AnsIs w.heap.size w' e (M.int m l) := by
  have h1 := plain_len hp (by rw [hv]; exact hw)
  have hs : s.size ≤ 1024 := by rw [size_of hL]; cases m <;> simp [tx] <;> omega
  cases m with
  | true =>
    have e : M.int true l = -(dv D : Int) := by simp [M.int, hv]
    rw [e]
    exact parse_neg s D w hs hL (hz rfl)
  | false =>
    have hL' : s.data.toList = D := hL
    have e : M.int false l = (dv s.data.toList : Int) := by simp [M.int, hL', hv]
    rw [e]
    exact parse_pos s w hs (by rw [hL']; exact hp)

/-- What Parse answers of any text: one of three errors; or a right number, whose text is this one. -/
def ParseIs (B : Nat) (w' : World) (e : Ending) (s : ByteArray) : Prop :=
  (∃ c : Int, (c = 2 ∨ c = 3 ∨ c = 13) ∧ e = .returned (.tuple #[.agg #[.bool false, .slice none 0 0], .int .i64 c])) ∨
  (∃ (sg : Bool) (ao : Option Addr) (n cap : Nat) (l : List Nat), e = .returned (.tuple #[.agg #[.bool sg, .slice ao n cap], .int .i64 0]) ∧ New B w' (.slice ao n cap) l ∧ M.Right sg l ∧ ∀ D, Plain D → dv D = M.val l → s.data.toList = tx sg D)

theorem parse_fin {B : Nat} {w : World} {e : Ending} {s : ByteArray} {m : Bool} {D : List UInt8} {z : Int} (h : AnsIs B w e z) (hz : z = if m then -(dv D : Int) else (dv D : Int)) (hL : s.data.toList = tx m D) (hp : Plain D) (hn : m = true → NZ D) : ParseIs B w e s := by
  obtain ⟨sg, ao, n, cap, c, rfl, ⟨rfl, l, hnew, hr, hi⟩ | ⟨rfl, rfl, hv, _⟩⟩ := h
  · refine .inr ⟨sg, ao, n, cap, l, rfl, hnew, hr, fun D' hp' hv' => ?_⟩
    have key : sg = m ∧ M.val l = dv D := by
      rw [hz] at hi
      cases m with
      | true =>
        have h1 := (hn rfl).pos
        simp at hi
        cases sg <;> simp [M.int] at hi
        · omega
        · exact ⟨rfl, by omega⟩
      | false =>
        simp at hi
        cases sg
        · simp [M.int] at hi; exact ⟨rfl, by omega⟩
        · have h0 : l ≠ [] := fun e => by have := hr.zero e; simp at this
          have h1 := M.val_pos hr.tr h0
          simp [M.int] at hi; omega
    rw [hL, key.1, plain_inj hp' hp (by rw [hv', key.2])]
  · simp only [Value.slice.injEq] at hv
    obtain ⟨rfl, rfl, rfl⟩ := hv
    exact .inl ⟨13, by simp, rfl⟩

theorem parse_any (s : ByteArray) (w : World) (hm : s.size ≤ maxLen) : Calls Tryd.prog 8 #[.string s] w fun e w' => Kept w w' ∧ ParseIs w.heap.size w' e s := by
  by_cases hs : s.size ≤ 1024
  · by_cases h0 : ∃ h : 0 < s.size, s[0].toNat = 45
    · obtain ⟨h0, h45⟩ := h0
      by_cases hp : NZ (s.extract 1 s.size).data.toList
      · have hL : s.data.toList = 45 :: (s.extract 1 s.size).data.toList := by
          rw [ext_rest]
          have hh := head_get s h0
          have hc : s[0] = 45 := UInt8.toNat_inj.1 (by rw [h45]; rfl)
          rw [hc] at hh
          cases hd : s.data.toList with
          | nil => rw [hd] at hh; simp at hh
          | cons x t => rw [hd] at hh; simp at hh; rw [hh]; rfl
        refine (parse_neg s _ w hs hL hp).mono ?_
        rintro e w' ⟨hk, ha⟩
        exact ⟨hk, parse_fin (m := true) ha (by simp) hL (.inr hp) (fun _ => hp)⟩
      · refine (parse_bad2 s w hs h0 h45 hp).mono ?_
        rintro e w' ⟨hk, rfl⟩
        exact ⟨hk, .inl ⟨3, by simp, rfl⟩⟩
    · have hne : ∀ h : 0 < s.size, ¬ s[0].toNat = 45 := fun h e => h0 ⟨h, e⟩
      by_cases hp : Plain s.data.toList
      · refine (parse_pos s w hs hp).mono ?_
        rintro e w' ⟨hk, ha⟩
        exact ⟨hk, parse_fin (m := false) (D := s.data.toList) ha (by simp) rfl hp (fun h => by cases h)⟩
      · refine (parse_bad1 s w hs hne hp).mono ?_
        rintro e w' ⟨hk, rfl⟩
        exact ⟨hk, .inl ⟨3, by simp, rfl⟩⟩
  · refine (parse_long s w (by omega) hm).mono ?_
    rintro e w' ⟨hk, rfl⟩
    exact ⟨hk, .inl ⟨2, by simp, rfl⟩⟩

theorem toList_same {t s : ByteArray} (h : t.data.toList = s.data.toList) : (t.toList == s.toList) = true := by
  rw [Go.ByteArray.toList_eq, Go.ByteArray.toList_eq, h]; simp

set_option maxRecDepth 100000 in
set_option maxHeartbeats 4000000 in
theorem lback_no (m : Bool) (ao : Option Addr) (n cap : Nat) (l : List Nat) (s : ByteArray) (w : World) (h : Sl w (.slice ao n cap) l) (hl : l.length ≤ 9223372036854775807) (hm : s.size ≤ maxLen) (ht : Tab w) (hr : ¬ R m l) :
    Calls Tryd.prog 3 #[.agg #[.bool m, .slice ao n cap], .string s] w fun e w' => e = .returned (.bool true) ∧ Kept w w' := by
  have HS : Hid (Sl w (.slice ao n cap) l) := h
  have HR : Hid (¬ R m l) := hr
  have HT : Hid (Tab w) := ht
  have HM : Hid (s.size ≤ maxLen) := hm
  have hsz : s.size ≤ 9223372036854775807 := by unfold maxLen at hm; omega
  clear h hr ht hm
  go_enter Tryd.func3, Tryd.ntmps3
  go_wp2_with fail
  refine (awake_yes _).mono ?_
  rintro e w1 ⟨rfl, hk⟩
  obtain ⟨hA0, hA1⟩ := box_kept hk
  have HK : Hid (Kept w w1) := ((Kept.refl w).alloc _).trans hk
  clear hk
  go_wp2_with fail
  refine (right_no m _ l _ (HS.out.kept HK.out) hl HR.out).mono ?_
  rintro e w2 ⟨rfl, hk⟩
  have HK : Hid (Kept w w2) := HK.out.trans hk
  clear hk hA0 hA1
  go_wp2_with fail
  refine (parse_any s _ HM.out).mono ?_
  rintro e w8 ⟨hk, hP⟩
  rcases hP with ⟨c, hc, rfl⟩ | ⟨sg, ao8, n8, cap8, l8, rfl, hn8, hr8, hback⟩
  · have HK : Hid (Kept w w8) := HK.out.trans hk
    clear hk
    rcases hc with rfl | rfl | rfl
    all_goals
      go_wp2
      go_ret
      exact ⟨rfl, HK.out.alloc _⟩
  · have HK : Hid (Kept w w8) := HK.out.trans hk
    have HN8 : Hid (New _ w8 (.slice ao8 n8 cap8) l8 ∧ M.Right sg l8 ∧ ∀ D, Plain D → dv D = M.val l8 → s.data.toList = tx sg D) := ⟨hn8, hr8, hback⟩
    clear hk hn8 hr8 hback
    go_wp2_with fail
    refine (text_any sg _ l8 _ (HN8.out.1.sl.kept ((Kept.refl w8).alloc _)) (R.of_right HN8.out.2.1) (HT.out.kept (HK.out.alloc _))).mono ?_
    rintro e w9 ⟨hk9, D9, hp9, hz9, hv9, rfl⟩
    obtain ⟨t9, ht9⟩ : ∃ t, t = (⟨(tx sg D9).toArray⟩ : ByteArray) := ⟨_, rfl⟩
    rw [← ht9]
    have heq : (t9.toList == s.toList) = true := toList_same (by rw [ht9, HN8.out.2.2 D9 hp9 hv9])
    have HK : Hid (Kept w w9) := HK.out.trans (((Kept.refl w8).alloc _).trans hk9)
    clear hk9 hp9 hz9 hv9 ht9
    go_wp2
    go_ret
    exact ⟨rfl, HK.out⟩
set_option maxRecDepth 100000 in
set_option maxHeartbeats 4000000 in
theorem lback_yes (m : Bool) (ao : Option Addr) (n cap : Nat) (l : List Nat) (s : ByteArray) (w : World) (h : Sl w (.slice ao n cap) l) (hl : l.length ≤ 9223372036854775807) (hm : s.size ≤ maxLen) (ht : Tab w) (hr : R m l) :
    Calls Tryd.prog 3 #[.agg #[.bool m, .slice ao n cap], .string s] w fun e w' => e = .returned (.bool true) ∧ Kept w w' := by
  have HS : Hid (Sl w (.slice ao n cap) l) := h
  have HR : Hid (R m l) := hr
  have HT : Hid (Tab w) := ht
  have HM : Hid (s.size ≤ maxLen) := hm
  have hsz : s.size ≤ 9223372036854775807 := by unfold maxLen at hm; omega
  clear h hr ht hm
  go_enter Tryd.func3, Tryd.ntmps3
  go_wp2_with fail
  refine (awake_yes _).mono ?_
  rintro e w1 ⟨rfl, hk⟩
  obtain ⟨hA0, hA1⟩ := box_kept hk
  have HK : Hid (Kept w w1) := ((Kept.refl w).alloc _).trans hk
  clear hk
  go_wp2_with fail
  refine (right_yes m _ l _ (HS.out.kept HK.out) HR.out).mono ?_
  rintro e w2 ⟨rfl, hk⟩
  have hA0 := cell_kept hk hA0
  have hA1 := cell_kept hk hA1
  have HK : Hid (Kept w w2) := HK.out.trans hk
  clear hk
  go_wp2_with fail
  refine (text_any m _ l _ (HS.out.kept HK.out) HR.out (HT.out.kept HK.out)).mono ?_
  rintro e w3 ⟨hk, D, hp, hz, hv, rfl⟩
  obtain ⟨t, ht⟩ : ∃ t, t = (⟨(tx m D).toArray⟩ : ByteArray) := ⟨_, rfl⟩
  rw [← ht]
  have HTX : Hid (t.data.toList = tx m D ∧ Plain D ∧ (m = true → NZ D) ∧ dv D = M.val l) := ⟨by rw [ht], hp, hz, hv⟩
  have hA0 := cell_kept hk hA0
  have hA1 := cell_kept hk hA1
  have HK : Hid (Kept w w3) := HK.out.trans hk
  have hw72 : M.val l < M.W72 := M.lt_W72 HS.out.bd HR.out.1
  have HW : Hid (M.val l < M.W72) := hw72
  clear hk hp hz hv ht hw72
  go_wp2_with fail
  refine (parse_back t m D l _ HTX.out.1 HTX.out.2.1 HTX.out.2.2.1 HTX.out.2.2.2 HW.out).mono ?_
  rintro e w4 ⟨hk, s4, a4, n4, c4, k4, rfl, hF⟩
  obtain ⟨rfl, l4, hn, hr, hi⟩ := fin_fits hF (by rw [M.natAbs_int]; exact HW.out)
  have HN4 : Hid (Sl w4 (.slice a4 n4 c4) l4 ∧ M.Right s4 l4 ∧ M.int s4 l4 = M.int m l) := ⟨hn.sl, hr, hi⟩
  have hA0 := cell_kept hk hA0
  have hA1 := cell_kept hk hA1
  have gA0 := fun x => cell_kept ((Kept.refl w4).alloc x) hA0
  have gA1 := fun x => cell_kept ((Kept.refl w4).alloc x) hA1
  have HK : Hid (Kept w w4) := HK.out.trans hk
  clear hk hF hn hr hi hA0 hA1
  go_wp2_with fail
  refine (lsame_any true m s4 _ _ l l4 _ (HS.out.kept (HK.out.alloc _)) (HN4.out.1.kept ((Kept.refl w4).alloc _)) hl (by have := HN4.out.2.1.len; omega) (decide_eq_true (M.int_inj (HR.out.right HS.out.bd) HN4.out.2.1 HN4.out.2.2.symm)).symm).mono ?_
  rintro e w5 ⟨rfl, hk⟩
  have HK : Hid (Kept w w5) := HK.out.trans (((Kept.refl w4).alloc _).trans hk)
  clear hk gA0 gA1
  go_wp2_with fail
  refine (parse_any s _ HM.out).mono ?_
  rintro e w8 ⟨hk, hP⟩
  rcases hP with ⟨c, hc, rfl⟩ | ⟨sg, ao8, n8, cap8, l8, rfl, hn8, hr8, hback⟩
  · have HK : Hid (Kept w w8) := HK.out.trans hk
    clear hk
    rcases hc with rfl | rfl | rfl
    all_goals
      go_wp2
      go_ret
      exact ⟨rfl, HK.out.alloc _⟩
  · have HK : Hid (Kept w w8) := HK.out.trans hk
    have HN8 : Hid (New _ w8 (.slice ao8 n8 cap8) l8 ∧ M.Right sg l8 ∧ ∀ D, Plain D → dv D = M.val l8 → s.data.toList = tx sg D) := ⟨hn8, hr8, hback⟩
    clear hk hn8 hr8 hback
    go_wp2_with fail
    refine (text_any sg _ l8 _ (HN8.out.1.sl.kept ((Kept.refl w8).alloc _)) (R.of_right HN8.out.2.1) (HT.out.kept (HK.out.alloc _))).mono ?_
    rintro e w9 ⟨hk9, D9, hp9, hz9, hv9, rfl⟩
    obtain ⟨t9, ht9⟩ : ∃ t, t = (⟨(tx sg D9).toArray⟩ : ByteArray) := ⟨_, rfl⟩
    rw [← ht9]
    have heq : (t9.toList == s.toList) = true := toList_same (by rw [ht9, HN8.out.2.2 D9 hp9 hv9])
    have HK : Hid (Kept w w9) := HK.out.trans (((Kept.refl w8).alloc _).trans hk9)
    clear hk9 hp9 hz9 hv9 ht9
    go_wp2
    go_ret
    exact ⟨rfl, HK.out⟩

end Go.Proofs.YtiadnlpbbibkgabDoor
