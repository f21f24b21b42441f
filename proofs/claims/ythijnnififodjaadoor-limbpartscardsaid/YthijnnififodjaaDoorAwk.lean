/- awake: the statements' own wakening says true. -/
import Derived.Test.YthijnnififodjaaDoorTawk
import Derived.Test.YthijnnififodjaaDoorQuo
namespace Go.Proofs.YthijnnififodjaaDoor
open Go.RowKit

theorem cell_alloc2 {w : World} {b o : Nat} {v : Value} (h : w.cell? ⟨b, o, none⟩ = some v) (x y : Obj) : ((w.alloc x).alloc y).cell? ⟨b, o, none⟩ = some v :=
  cell_kept (((Kept.refl w).alloc x).alloc y) h

theorem right_one (s : Bool) (x : Nat) (h0 : 0 < x) (h : x < 4294967296) : M.Right s [x] :=
  ⟨fun y hy => by simp at hy; omega, .inr (by simp; omega), by simp, fun e => by simp at e⟩

theorem right_two : M.Right false [0, 1] := ⟨fun y hy => by simp at hy; omega, .inr (by simp), by simp, fun e => by simp at e⟩

theorem is_one {s : Bool} {l : List Nat} {z : Int} (h : M.Right s l) (hz : M.int s l = z) (t : Bool) (x : Nat) (h0 : 0 < x) (hx : x < 4294967296) (e : M.int t [x] = z) : s = t ∧ l = [x] :=
  M.int_inj h (right_one t x h0 hx) (hz.trans e.symm)

theorem fin_two {B : Nat} {w : World} {s : Bool} {v : Value} {c : Int} (h : Fin B w s v c 4294967296) : c = 0 ∧ s = false ∧ New B w v [0, 1] := by
  rcases h with ⟨h1, l, h2, h3, h4⟩ | ⟨_, _, _, h4⟩
  · obtain ⟨rfl, rfl⟩ := M.int_inj h3 right_two (h4.trans rfl)
    exact ⟨h1, rfl, h2⟩
  · have := M.lt_W72 right_two.bd (by simp)
    have e : M.val [0, 1] = 4294967296 := rfl
    rw [e] at this
    have e2 : (4294967296 : Int).natAbs = 4294967296 := rfl
    omega

theorem R_one (s : Bool) (x : Nat) (h0 : 0 < x) (h : x < 4294967296) : R s [x] := R.of_right (right_one s x h0 h)

set_option maxRecDepth 100000 in
set_option maxHeartbeats 4000000 in
theorem awake_yes (w : World) : Calls Tryd.prog 5 #[] w fun e w' => e = .returned (.bool true) ∧ Kept w w' := by
  go_enter Tryd.func5, Tryd.ntmps5
  go_wp2_with fail
  refine (of_any 4294967295 w (by omega) (by omega)).mono ?_
  rintro e w1 ⟨hk1, s1, a1, n1, c1, l1, rfl, hn1, hr1, hi1⟩
  obtain ⟨rfl, rfl⟩ := is_one hr1 hi1 false 4294967295 (by omega) (by omega) rfl
  have HN1 : Hid (New w.heap.size w1 (.slice a1 n1 c1) [4294967295] ∧ Kept w w1) := ⟨hn1, hk1⟩
  clear hk1 hn1 hr1 hi1
  go_wp2_with fail
  refine (of_any 1 w1 (by omega) (by omega)).mono ?_
  rintro e w2 ⟨hk2, s2, a2, n2, c2, l2, rfl, hn2, hr2, hi2⟩
  obtain ⟨rfl, rfl⟩ := is_one hr2 hi2 false 1 (by omega) (by omega) rfl
  have HN2 : Hid (New w1.heap.size w2 (.slice a2 n2 c2) [1] ∧ Kept w1 w2) := ⟨hn2, hk2⟩
  clear hk2 hn2 hr2 hi2
  go_wp2_with fail
  refine (add_any false false _ _ [4294967295] [1] w2 (HN1.out.1.sl.kept HN2.out.2) HN2.out.1.sl (R_one _ _ (by omega) (by omega)) (R_one _ _ (by omega) (by omega))).mono ?_
  rintro e w3 ⟨hk3, s3, a3, n3, c3, cc, rfl, hF⟩
  obtain ⟨rfl, rfl, hn3⟩ := fin_two hF
  have HK3 : Hid (Kept w w3) := (HN1.out.2.trans HN2.out.2).trans hk3
  have hlen3 := hn3.len
  simp at hlen3
  subst hlen3
  have HN3 : Hid (New w2.heap.size w3 (.slice a3 2 c3) [0, 1]) := hn3
  clear hk3 hF hn3 HN1 HN2
  go_wp2_with fail
  refine (of_any (-7) _ (by omega) (by omega)).mono ?_
  rintro e w4 ⟨hk4, s4, a4, n4, c4, l4, rfl, hn4, hr4, hi4⟩
  obtain ⟨rfl, rfl⟩ := is_one hr4 hi4 true 7 (by omega) (by omega) rfl
  have hA0 : w4.cell? ⟨w3.heap.size, 0, none⟩ = some (.bool false) := by rw [hk4.cells _ _ (by simp)]; simp
  have hA1 : w4.cell? ⟨w3.heap.size, 1, none⟩ = some (.slice a3 2 c3) := by rw [hk4.cells _ _ (by simp)]; simp
  have HK4 : Hid (Kept w3 w4) := ((Kept.refl w3).alloc _).trans hk4
  have HN4 : Hid (New w3.heap.size w4 (.slice a4 n4 c4) [7]) := hn4.mono (by simp)
  clear hk4 hn4 hr4 hi4
  go_wp2_with fail
  refine (of_any 2 w4 (by omega) (by omega)).mono ?_
  rintro e w5 ⟨hk5, s5, a5, n5, c5, l5, rfl, hn5, hr5, hi5⟩
  obtain ⟨rfl, rfl⟩ := is_one hr5 hi5 false 2 (by omega) (by omega) rfl
  have HN5 : Hid (New w4.heap.size w5 (.slice a5 n5 c5) [2] ∧ Kept w4 w5) := ⟨hn5, hk5⟩
  clear hk5 hn5 hr5 hi5
  go_wp2_with fail
  have h7 := HN4.out.sl.kept HN5.out.2
  have h2 := HN5.out.1.sl
  refine (quoRem_of true false _ _ [7] [2] w5 h7 h2 (R_one _ _ (by omega) (by omega)) (R_one _ _ (by omega) (by omega)) (by simp) (fun W hW => divide_small _ _ [7] [2] W (h7.kept hW) (h2.kept hW) (by simp) (R_one true 7 (by omega) (by omega)).tr (R_one true 2 (by omega) (by omega)).tr rfl (by decide))).mono ?_
  rintro e w6 ⟨hk6, s6, aq, nq, cq, q, t6, ar, nr, cr, r, rfl, hnq, hnr, hrq, hrr, hv, hlt, hiq, hir⟩
  have hvq : M.val q = 3 ∧ M.val r = 1 := by simp [M.val] at hv hlt; omega
  obtain ⟨rfl, rfl⟩ := is_one hrq (z := -3) (by rw [hiq]; simp [M.int, hvq.1]) true 3 (by omega) (by omega) rfl
  obtain ⟨rfl, rfl⟩ := is_one hrr (z := -1) (by rw [hir]; simp [M.int, hvq.2]) true 1 (by omega) (by omega) rfl
  have HK6 : Hid (Kept w4 w6) := HN5.out.2.trans hk6
  have HNQ : Hid (New w5.heap.size w6 (.slice aq nq cq) [3] ∧ New w5.heap.size w6 (.slice ar nr cr) [1]) := ⟨hnq, hnr⟩
  have hA0' := cell_alloc2 (cell_kept HK6.out hA0)
  have hA1' := cell_alloc2 (cell_kept HK6.out hA1)
  clear hk6 hnq hnr hrq hrr hv hlt hiq hir hvq h7 h2 HN4 HN5 hA0 hA1
  go_wp2_with fail
  have HK6' : Kept w3 ((w6.alloc (.cells #[.bool true, .slice aq nq cq] 24)).alloc (.cells #[.bool true, .slice ar nr cr] 24)) := (((HK4.out.trans HK6.out)).alloc _).alloc _
  refine (text_awake _ _ (HN3.out.sl.kept HK6')).mono ?_
  rintro e w7 ⟨rfl, hk7⟩
  have hb0 := cell_kept hk7 (hA0' _ _)
  have hb1 := cell_kept hk7 (hA1' _ _)
  obtain ⟨hb2, hb3, hb4, hb5⟩ := box_kept2 hk7
  have HK7 : Hid (Kept w3 w7 ∧ Kept w w7 ∧ Kept w6 w7) := ⟨HK6'.trans hk7, HK3.out.trans (HK6'.trans hk7), (((Kept.refl w6).alloc _).alloc _).trans hk7⟩
  obtain ⟨b3, o3, rfl, hlimb⟩ : ∃ b o, a3 = some ⟨b, o, none⟩ ∧ w7.cell? ⟨b, o + 1, none⟩ = some (.int .u32 1) := by
    obtain ⟨_, ao, cp, he, hx⟩ := HN3.out.sl.kept HK7.out.1
    obtain ⟨_, b, o, ho, _, hcell⟩ := hx (by simp)
    simp only [Value.slice.injEq] at he
    exact ⟨b, o, he.1.trans ho, hcell 1 (by simp)⟩
  have HNQ7 : Hid (New w5.heap.size w7 (.slice aq nq cq) [3] ∧ New w5.heap.size w7 (.slice ar nr cr) [1]) := ⟨HNQ.out.1.kept HK7.out.2.2, HNQ.out.2.kept HK7.out.2.2⟩
  clear hk7 hA0' hA1' HK6' HN3 HNQ HK3 HK4 HK6
  go_wp2_with fail
  have hkc : Kept w7 w7.drew := (Kept.refl w7).drew
  go_region_held3 (fun w' => w'.cell? ⟨w3.heap.size, 0, none⟩ = some (.bool false) ∧ w'.cell? ⟨w3.heap.size, 1, none⟩ = some (.slice (some ⟨b3, o3, none⟩) 2 c3) ∧ w'.cell? ⟨w6.heap.size, 0, none⟩ = some (.bool true) ∧ w'.cell? ⟨w6.heap.size, 1, none⟩ = some (.slice aq nq cq) ∧ w'.cell? ⟨w6.heap.size + 1, 0, none⟩ = some (.bool true) ∧ w'.cell? ⟨w6.heap.size + 1, 1, none⟩ = some (.slice ar nr cr) ∧ w'.cell? ⟨b3, o3 + 1, none⟩ = some (.int .u32 1)) (go_keep) (first
    | (go_at_call 19; refine (of_any _ _ (by omega) (by omega)).mono ?_; rintro e w8 ⟨hk8, s8, a8, n8, c8, l8, rfl, hn8, hr8, hi8⟩; have hb0 := cell_kept hk8 hb0; have hb1 := cell_kept hk8 hb1; have hb2 := cell_kept hk8 hb2; have hb3 := cell_kept hk8 hb3; have hb4 := cell_kept hk8 hb4; have hb5 := cell_kept hk8 hb5; have hlimb := cell_kept hk8 hlimb; have hkc := hkc.trans hk8)
    | (go_at_call_of 13 (Value.slice aq nq cq); obtain ⟨rfl, rfl⟩ := is_one hr8 hi8 true 3 (by omega) (by omega) rfl; refine (lsame_any true true true _ _ [3] [3] _ (HNQ7.out.1.sl.kept hkc) hn8.sl (by simp) (by simp) (by simp)).mono ?_; rintro e w9 ⟨rfl, hk9⟩; have hb0 := cell_kept hk9 hb0; have hb1 := cell_kept hk9 hb1; have hb2 := cell_kept hk9 hb2; have hb3 := cell_kept hk9 hb3; have hb4 := cell_kept hk9 hb4; have hb5 := cell_kept hk9 hb5; have hlimb := cell_kept hk9 hlimb; have hkc := hkc.trans hk9)
    | (go_at_call_of 13 (Value.slice ar nr cr); obtain ⟨rfl, rfl⟩ := is_one hr8 hi8 true 1 (by omega) (by omega) rfl; refine (lsame_any true true true _ _ [1] [1] _ (HNQ7.out.2.sl.kept hkc) hn8.sl (by simp) (by simp) (by simp)).mono ?_; rintro e w9 ⟨rfl, hk9⟩; have hb0 := cell_kept hk9 hb0; have hb1 := cell_kept hk9 hb1; have hb2 := cell_kept hk9 hb2; have hb3 := cell_kept hk9 hb3; have hb4 := cell_kept hk9 hb4; have hb5 := cell_kept hk9 hb5; have hlimb := cell_kept hk9 hlimb; have hkc := hkc.trans hk9)
    | (go_at_call 21; refine (check_no true _ [] _ (Sl.nil _ none 0) (by simp) (fun h => by have := h.2.1 rfl; simp at this)).mono ?_; rintro e wc ⟨rfl, hkd⟩; have hb0 := cell_kept hkd hb0; have hb1 := cell_kept hkd hb1; have hb2 := cell_kept hkd hb2; have hb3 := cell_kept hkd hb3; have hb4 := cell_kept hkd hb4; have hb5 := cell_kept hkd hb5; have hlimb := cell_kept hkd hlimb; have hkc := hkc.trans hkd))
  have HE : Hid (Kept w7 wc) := hkc
  clear hb0 hb1 hb2 hb3 hb4 hb5 hlimb
  go_wp2
  go_ret
  exact ⟨rfl, HK7.out.2.1.trans HE.out⟩

end Go.Proofs.YthijnnififodjaaDoor
