/- fromWord, Of; Same: whether two whole numbers are the same. -/
import Derived.Test.YthijnnififodjaaDoorChk
import Derived.Test.YthijnnififodjaaDoorTrim
namespace Go.Proofs.YthijnnififodjaaDoor
open Go.RowKit

theorem row_two (w : World) (x y : Nat) : (w.alloc (.cells #[.int .u32 (x : Int), .int .u32 (y : Int)] 43)).rowIs w.heap.size 43 2 (fun j => .int .u32 ((([x, y] : List Nat).getD j 0 : Nat) : Int)) := by
  refine World.rowIs_alloc w _ 43 _ (fun i hi => ?_)
  simp at hi
  match i, hi with
  | 0, _ => rfl
  | 1, _ => rfl

set_option maxHeartbeats 1000000 in
theorem fromWord_any (x : Nat) (w : World) (hx : x < 18446744073709551616) :
    Calls Tryd.prog 40 #[.int .u64 (x : Int)] w fun e w' => Kept w w' ∧ ∃ v' l', e = .returned v' ∧ New w.heap.size w' v' l' ∧ M.Tr l' ∧ M.val l' = x ∧ l'.length ≤ 2 := by
  have hnew : New w.heap.size (w.alloc (.cells #[.int .u32 ((x : Int) % 4294967296), .int .u32 ((x : Int) / 4294967296)] 43)) (.slice (some ⟨w.heap.size, 0, none⟩) 2 2) [x % 4294967296, x / 4294967296] := by
    have e1 : (x : Int) % 4294967296 = ((x % 4294967296 : Nat) : Int) := by omega
    have e2 : (x : Int) / 4294967296 = ((x / 4294967296 : Nat) : Int) := by omega
    rw [e1, e2]
    refine New.of_row (row_two w _ _) (fun y hy => ?_) rfl (by omega) (Nat.le_refl _)
    simp at hy; omega
  have HN : Hid (New w.heap.size (w.alloc (.cells #[.int .u32 ((x : Int) % 4294967296), .int .u32 ((x : Int) / 4294967296)] 43)) (.slice (some ⟨w.heap.size, 0, none⟩) 2 2) [x % 4294967296, x / 4294967296]) := hnew
  clear hnew
  go_enter Tryd.func40, Tryd.ntmps40
  go_wp2_with fail
  refine (trim_new _ HN.out (by simp)).mono ?_
  rintro e w1 ⟨rfl, v', l', rfl, hn', ht', hv', hl'⟩
  have HR : Hid (New w.heap.size (w.alloc (.cells #[.int .u32 ((x : Int) % 4294967296), .int .u32 ((x : Int) / 4294967296)] 43)) v' l' ∧ M.Tr l' ∧ M.val l' = x ∧ l'.length ≤ 2) := ⟨hn', ht', by rw [hv']; simp [M.val]; omega, hl'⟩
  clear hn' ht' hv' hl' HN
  go_wp2
  go_ret
  exact ⟨(Kept.refl w).alloc _, v', l', rfl, HR.out⟩

set_option maxHeartbeats 1000000 in
theorem of_any (x : Int) (w : World) (h1 : -9223372036854775808 ≤ x) (h2 : x ≤ 9223372036854775807) :
    Calls Tryd.prog 19 #[.int .i64 x] w fun e w' => Kept w w' ∧ ∃ s ao n cap l, e = .returned (.agg #[.bool s, .slice ao n cap]) ∧ New w.heap.size w' (.slice ao n cap) l ∧ M.Right s l ∧ M.int s l = x := by
  have hn : ∀ (W : World) (u : Nat) (x : Int), u < 18446744073709551616 → x = u → Calls Tryd.prog 40 #[.int .u64 x] W fun e w' => Kept W w' ∧ ∃ v' l', e = .returned v' ∧ New W.heap.size w' v' l' ∧ M.Tr l' ∧ M.val l' = u ∧ l'.length ≤ 2 := fun W u x hu e => by rw [e]; exact fromWord_any u W hu
  have HN : Hid (_) := hn
  clear hn
  by_cases h : x < 0
  · go_enter Tryd.func19, Tryd.ntmps19
    go_wp2_with fail
    refine (HN.out _ (-x).toNat _ (by omega) (by rw [u64_wrap, u64_wrap]; omega)).mono ?_
    rintro e w1 ⟨hk, v', l', rfl, hn, ht, hv, hl⟩
    obtain ⟨ao, cap, rfl⟩ := hn.shape
    have hc := hk.cells
    have hf := hk.frozens
    have HK : Hid (Kept w w1) := ((Kept.refl w).alloc _).trans hk
    have HR : Hid (New (w.heap.size + 1) w1 (.slice ao l'.length cap) l' ∧ M.Right true l' ∧ M.int true l' = x) :=
      ⟨by simpa using hn, ⟨hn.1, ht, by omega, fun e => by rw [e] at hv; simp [M.val] at hv; omega⟩, by simp [M.int, hv]; omega⟩
    clear hk hn ht hv hl HN
    go_wp2
    exact bodyPost_ret (v := .agg #[.bool true, .slice ao l'.length cap]) (by simp [results, Tryd.results19, go_sem, hc]) rfl ⟨(HK.out.setCell (by simp) _).setCell (by simp) _, _, _, _, _, l', rfl, ((HR.out.1.other (by simp) _).other (by simp) _).mono (by omega), HR.out.2⟩
  · go_enter Tryd.func19, Tryd.ntmps19
    go_wp2_with fail
    refine (HN.out _ x.toNat _ (by omega) (by omega)).mono ?_
    rintro e w1 ⟨hk, v', l', rfl, hn, ht, hv, hl⟩
    obtain ⟨ao, cap, rfl⟩ := hn.shape
    have hc := hk.cells
    have hf := hk.frozens
    have HK : Hid (Kept w w1) := ((Kept.refl w).alloc _).trans hk
    have HR : Hid (New (w.heap.size + 1) w1 (.slice ao l'.length cap) l' ∧ M.Right false l' ∧ M.int false l' = x) :=
      ⟨by simpa using hn, ⟨hn.1, ht, by omega, fun _ => rfl⟩, by simp [M.int, hv]; omega⟩
    clear hk hn ht hv hl HN
    go_wp2
    exact bodyPost_ret (v := .agg #[.bool false, .slice ao l'.length cap]) (by simp [results, Tryd.results19, go_sem, hc]) rfl ⟨(HK.out.setCell (by simp) _).setCell (by simp) _, _, _, _, _, l', rfl, ((HR.out.1.other (by simp) _).other (by simp) _).mono (by omega), HR.out.2⟩

set_option maxHeartbeats 1000000 in
theorem same_yes (m n : Bool) (va vb : Value) (a b : List Nat) (w : World) (ha : Sl w va a) (hb : Sl w vb b) (hl : a.length ≤ 9223372036854775807) (hmn : m = n) (hab : a = b) :
    Calls Tryd.prog 35 #[.agg #[.bool m, va], .agg #[.bool n, vb]] w fun e w' => e = .returned (.bool true) ∧ Kept w w' := by
  subst hmn hab
  obtain ⟨bda, aoa, capa, rfl, hxa⟩ := ha
  obtain ⟨_, aob, capb, rfl, hxb⟩ := hb
  obtain ⟨N, hN⟩ : ∃ N, N = a.length := ⟨_, rfl⟩
  rw [← hN] at hxa hxb hl ⊢
  have HA : Hid (_) := hxa
  have HB : Hid (_) := hxb
  clear hxa hxb hN
  have hmm : (m != m) = false := by simp
  go_enter Tryd.func35, Tryd.ntmps35
  go_wp2
  go_loopw [5] (fun vi wr => ∃ k q : Nat, k ≤ N ∧ vi = .int .i64 k ∧ wr = ((w.alloc (.cells #[.bool m, .slice aoa N capa] 24)).alloc (.cells #[.bool m, .slice aob N capb] 24)).drewN q) (fun vi _ => N - (intOf vi).toNat)
  case atStart => exact ⟨0, 0, Nat.zero_le _, rfl, rfl⟩
  case round =>
    obtain ⟨k, q, hk, rfl, rfl⟩ := hrel
    by_cases hlt : k < N
    · obtain ⟨_, ba, oa, rfl, hba, hca⟩ := HA.out (by omega)
      obtain ⟨_, bb, ob, rfl, hbb, hcb⟩ := HB.out (by omega)
      have hca := fun x y => cell_alloc_old (w := w.alloc x) (by simp; omega) (cell_alloc_old hba (hca k hlt) x) y
      have hcb := fun x y => cell_alloc_old (w := w.alloc x) (by simp; omega) (cell_alloc_old hbb (hcb k hlt) x) y
      have hbd := bda.getD k
      generalize a.getD k 0 = x at *
      clear HA HB
      go_wp2
      go_quiet (fail)
      go_wp2
      go_roundw
      case rel => exact ⟨k + 1, _, by omega, by go_num, rfl⟩
      case measure => simp [intOf]; omega
    · go_wp2
      go_ret
      exact ⟨rfl, (((Kept.refl w).alloc _).alloc _).drewN q⟩

theorem eq_of_getD {a b : List Nat} (hl : a.length = b.length) (h : ∀ j, j < a.length → a.getD j 0 = b.getD j 0) : a = b := by
  apply List.ext_getElem? 
  intro j
  by_cases hj : j < a.length
  · have := h j hj
    rw [List.getD_eq_getElem?_getD, List.getD_eq_getElem?_getD, List.getElem?_eq_getElem hj, List.getElem?_eq_getElem (by omega)] at this
    rw [List.getElem?_eq_getElem hj, List.getElem?_eq_getElem (by omega)]
    simpa using this
  · rw [List.getElem?_eq_none (by omega), List.getElem?_eq_none (by omega)]

set_option maxHeartbeats 1000000 in
theorem same_no (m n : Bool) (va vb : Value) (a b : List Nat) (w : World) (ha : Sl w va a) (hb : Sl w vb b) (_hl : a.length ≤ 9223372036854775807) (hl2 : b.length ≤ 9223372036854775807) (h : ¬ (m = n ∧ a = b)) :
    Calls Tryd.prog 35 #[.agg #[.bool m, va], .agg #[.bool n, vb]] w fun e w' => e = .returned (.bool false) ∧ Kept w w' := by
  obtain ⟨bda, aoa, capa, rfl, hxa⟩ := ha
  obtain ⟨bdb, aob, capb, rfl, hxb⟩ := hb
  by_cases hmn : m = n
  · subst hmn
    have hab : ¬ a = b := fun e => h ⟨rfl, e⟩
    clear h
    have hmm : (m != m) = false := by simp
    by_cases hlen : a.length = b.length
    · have HAB : Hid (∀ j, j = a.length → ¬ ∀ i, i < j → a.getD i 0 = b.getD i 0) := fun j hj hi => hab (eq_of_getD hlen (by rw [← hj]; exact hi))
      obtain ⟨N, hN⟩ : ∃ N, N = a.length := ⟨_, rfl⟩
      rw [← hlen] at hxb hl2 ⊢
      rw [← hN] at hxa hxb _hl hl2 HAB ⊢
      have HA : Hid (_) := hxa
      have HB : Hid (_) := hxb
      clear hxa hxb hN hab hlen
      go_enter Tryd.func35, Tryd.ntmps35
      go_wp2
      go_loopw [5] (fun vi wr => ∃ k q : Nat, k ≤ N ∧ vi = .int .i64 k ∧ Hid (∀ i, i < k → a.getD i 0 = b.getD i 0) ∧ wr = ((w.alloc (.cells #[.bool m, .slice aoa N capa] 24)).alloc (.cells #[.bool m, .slice aob N capb] 24)).drewN q) (fun vi _ => N - (intOf vi).toNat)
      case atStart => exact ⟨0, 0, Nat.zero_le _, rfl, fun _ h => by omega, rfl⟩
      case round =>
        obtain ⟨k, q, hk, rfl, hpre, rfl⟩ := hrel
        by_cases hlt : k < N
        · obtain ⟨_, ba, oa, rfl, hba, hca⟩ := HA.out (by omega)
          obtain ⟨_, bb, ob, rfl, hbb, hcb⟩ := HB.out (by omega)
          have hca := fun x y => cell_alloc_old (w := w.alloc x) (by simp; omega) (cell_alloc_old hba (hca k hlt) x) y
          have hcb := fun x y => cell_alloc_old (w := w.alloc x) (by simp; omega) (cell_alloc_old hbb (hcb k hlt) x) y
          have hbd := bda.getD k
          have hbd2 := bdb.getD k
          obtain ⟨x, hx⟩ : ∃ x, x = a.getD k 0 := ⟨_, rfl⟩
          obtain ⟨y, hy⟩ : ∃ y, y = b.getD k 0 := ⟨_, rfl⟩
          rw [← hx] at hca hbd
          rw [← hy] at hcb hbd2
          have HX : Hid (x = a.getD k 0 ∧ y = b.getD k 0) := ⟨hx, hy⟩
          clear HA HB hx hy
          by_cases hxy : x = y
          · subst hxy
            go_wp2
            go_quiet (fail)
            go_wp2
            go_roundw
            case rel => exact ⟨k + 1, _, by omega, by go_num, fun i hi => by
              by_cases e : i = k
              · rw [e, ← HX.out.1, ← HX.out.2]
              · exact hpre.out i (by omega), rfl⟩
            case measure => simp [intOf]; omega
          · have hne : ((x : Int) != (y : Int)) = true := by rw [bne_iff_ne]; omega
            go_wp2
            go_quiet (fail)
            go_wp2
            go_ret
            exact ⟨rfl, ((((Kept.refl w).alloc _).alloc _).drewN q).drewN nq⟩
        · exact absurd hpre.out (HAB.out k (by omega))
    · have hne : ((a.length : Int) != (b.length : Int)) = true := by rw [bne_iff_ne]; omega
      clear hxa hxb hab
      go_enter Tryd.func35, Tryd.ntmps35
      go_wp2
      go_ret
      exact ⟨rfl, ((Kept.refl w).alloc _).alloc _⟩
  · have hne : (m != n) = true := by simpa using hmn
    clear hxa hxb
    go_enter Tryd.func35, Tryd.ntmps35
    go_wp2
    go_ret
    exact ⟨rfl, ((Kept.refl w).alloc _).alloc _⟩

set_option maxHeartbeats 1000000 in
/-- The statements' own 'same'. -/
theorem lsame_any (r m n : Bool) (va vb : Value) (a b : List Nat) (w : World) (ha : Sl w va a) (hb : Sl w vb b) (hl : a.length ≤ 9223372036854775807) (hl2 : b.length ≤ 9223372036854775807) (h : r = decide (m = n ∧ a = b)) :
    Calls Tryd.prog 13 #[.agg #[.bool m, va], .agg #[.bool n, vb]] w fun e w' => e = .returned (.bool r) ∧ Kept w w' := by
  have H : Hid (∀ W, Kept w W → Calls Tryd.prog 35 #[.agg #[.bool m, va], .agg #[.bool n, vb]] W fun e w' => e = .returned (.bool r) ∧ Kept W w') := by
    intro W hW
    by_cases h2 : m = n ∧ a = b
    · rw [h, decide_eq_true h2]; exact same_yes m n va vb a b W (ha.kept hW) (hb.kept hW) hl h2.1 h2.2
    · rw [h, decide_eq_false h2]; exact same_no m n va vb a b W (ha.kept hW) (hb.kept hW) hl hl2 h2
  clear h ha hb
  go_enter Tryd.func13, Tryd.ntmps13
  go_wp2_with fail
  refine (H.out _ (((Kept.refl w).alloc _).alloc _)).mono ?_
  rintro e w1 ⟨rfl, hk⟩
  have HK : Hid (Kept w w1) := (((Kept.refl w).alloc _).alloc _).trans hk
  clear hk H
  go_wp2
  go_ret
  exact ⟨rfl, HK.out⟩

end Go.Proofs.YthijnnififodjaaDoor
