/- PROVED: for all whole numbers a, b (right or not, of any size) the function LimbParts of package shuntlaw01 answers true, and its arguments read behind the call as before it. Conditions: those of the given row alone (the three tables of the library that it lists hold what the program's text lays; the card ties them). -/
import Derived.Test.YthijnnififodjaaDoorOpen
import Derived.Test.YthijnnififodjaaDoorLparts
namespace Go.Proofs.YthijnnififodjaaDoor
open Go.ChangeShapes Go.WideShapes Go.ChangeAt Go.RowKit Go.Joins

set_option maxRecDepth 100000 in
set_option maxHeartbeats 1000000 in
theorem lparts_long (ma mb : Bool) (aa ab : Option Addr) (na nb ca cb : Nat) (w : World) (hla : na ≤ 9223372036854775807) (hlb : nb ≤ 9223372036854775807) (h : 80 < na ∨ 80 < nb) :
    Calls Tryd.prog 3 #[.agg #[.bool ma, .slice aa na ca], .agg #[.bool mb, .slice ab nb cb]] w fun e w' => e = .returned (.bool true) ∧ Kept w w' := by
  by_cases h1 : 80 < na
  · clear h
    go_enter Tryd.func3, Tryd.ntmps3
    go_wp2_with fail
    refine (awake_yes _).mono ?_
    rintro e w1 ⟨rfl, hk1⟩
    obtain ⟨hA0, hA1, hB0, hB1⟩ := box_kept2 hk1
    have HK1 : Hid (Kept w w1) := (((Kept.refl w).alloc _).alloc _).trans hk1
    clear hk1
    go_wp2_with fail
    refine (long_any ma aa na ca _ hla).mono ?_
    rintro e w2 ⟨rfl, hk2⟩
    rw [decide_eq_true h1]
    have HK2 : Hid (Kept w w2) := HK1.out.trans hk2
    clear hk2 hA0 hA1 hB0 hB1
    go_wp2
    go_ret
    exact ⟨rfl, HK2.out⟩
  · have h2 : 80 < nb := by omega
    clear h
    go_enter Tryd.func3, Tryd.ntmps3
    go_wp2_with fail
    refine (awake_yes _).mono ?_
    rintro e w1 ⟨rfl, hk1⟩
    obtain ⟨hA0, hA1, hB0, hB1⟩ := box_kept2 hk1
    have HK1 : Hid (Kept w w1) := (((Kept.refl w).alloc _).alloc _).trans hk1
    clear hk1
    go_wp2_with fail
    refine (long_any ma aa na ca _ hla).mono ?_
    rintro e w2 ⟨rfl, hk2⟩
    rw [decide_eq_false h1]
    replace hB0 := cell_kept hk2 hB0
    replace hB1 := cell_kept hk2 hB1
    have HK2 : Hid (Kept w w2) := HK1.out.trans hk2
    clear hk2 hA0 hA1
    go_wp2_with fail
    refine (long_any mb ab nb cb _ hlb).mono ?_
    rintro e w3 ⟨rfl, hk3⟩
    rw [decide_eq_true h2]
    have HK3 : Hid (Kept w w3) := HK2.out.trans hk3
    clear hk3 hB0 hB1
    go_wp2
    go_ret
    exact ⟨rfl, HK3.out⟩

theorem lparts_any (ma mb : Bool) (aa ab : Option Addr) (la lb ca cb : Nat) (a b : List Nat) (w : World) (ha : Sl w (.slice aa la ca) a) (hb : Sl w (.slice ab lb cb) b)
    (hla : a.length ≤ 9223372036854775807) (hlb : b.length ≤ 9223372036854775807) :
    Calls Tryd.prog 3 #[.agg #[.bool ma, .slice aa la ca], .agg #[.bool mb, .slice ab lb cb]] w fun e w' => e = .returned (.bool true) ∧ Kept w w' := by
  have e1 := ha.len
  have e2 := hb.len
  subst e1 e2
  by_cases h : a.length ≤ 80 ∧ b.length ≤ 80
  · exact lparts_main ma mb aa ab ca cb a b w ha hb h.1 h.2
  · exact lparts_long ma mb aa ab _ _ ca cb w hla hlb (by omega)

theorem parts_met (os : Os) (args : Array Value) : laidMetH Tryd.prog Rows.limbPartsRow.laid ((World.doorLaid Tryd.prog 24 os).forCall (fun _ _ => 0) ⟨#[], args, []⟩).memory :=
  laidMetH_of_parts3 (fuel := 8) (laidMet_of_run' 8 (by kernel_rfl) (by kernel_rfl)) (by kernel_rfl) (by kernel_rfl)

set_option maxRecDepth 100000 in
theorem parts_lifted (os : Os) (started : os.Started) (H : Type) (enc : TypeId × Value → H) :
    ReturnsInHanded {} Tryd.checked os 3 .any (fun w args => (Rows.limbPartsSpec.pre enc Tryd.prog Tryd.f3 [] false w args ∧ laidMetH Tryd.prog Rows.limbPartsRow.laid w) ∧ sizedMet enc Tryd.prog Tryd.f3 (OpenSpec.ofChange Rows.limbPartsSpec) false w args)
      (Rows.limbPartsSpec.post enc Tryd.prog Tryd.f3 false true false false) := by
  refine returnsInHanded_of_change_and (C := Tryd.checked) (X := fun w _ => laidMetH Tryd.prog Rows.limbPartsRow.laid w) (fun _ _ _ hh h => h.of_heap hh) own started (by kernel_rfl) Tryd.func3
    (ChangeSpec.witness_shaped (enc := enc) (C := Tryd.checked) (os := os) (X := fun w _ => laidMetH Tryd.prog Rows.limbPartsRow.laid w) false (World.doorLaid Tryd.prog 24 os) #[.agg #[.bool false, .slice none 0 0], .agg #[.bool false, .slice none 0 0]] 8 rfl (World.shaped_of_RefB (by kernel_rfl) (by kernel_rfl)) (by kernel_rfl) (by kernel_rfl) (by kernel_rfl) (parts_met os _)) ?_
  intro W base args ds gs before hval0 hW _ _ _ _
  have hval : ∀ (j : Nat) t v, Tryd.f3.params[j]? = some t → args[j]? = some v → Value.okWide Tryd.prog W .any base t v := hval0
  have hW' := hW
  obtain ⟨p, q, hA0, hV, rfl, hfz, hnd⟩ := hW
  have hA : DataW.TrodAll enc Tryd.prog W 0 (fun _ => true) true Tryd.f3.params.toList args.toList ds p := hA0
  rw [Tryd.params3] at hA hval
  obtain ⟨v0, v1, d0, d1, p0, p1, rfl, rfl, rfl, h0, h1⟩ := trodAll_two hA
  obtain ⟨rfl, rfl⟩ := trodVars_none hV
  have lt0 : ∀ x ∈ p0, x.block < W.heap.size := by obtain ⟨m, hm⟩ := h0; exact DataW.trod_lt m _ _ _ hm
  have lt1 : ∀ x ∈ p1, x.block < W.heap.size := by obtain ⟨m, hm⟩ := h1; exact DataW.trod_lt m _ _ _ hm
  obtain ⟨ma, aa, la, ca, a, rfl, ha, hla⟩ := open_Int (hval 0 24 v0 rfl rfl) h0
  obtain ⟨mb, ab, lb, cb, b, rfl, hb, hlb⟩ := open_Int (hval 1 24 v1 rfl rfl) h1
  clear hA0 hval0
  refine (lparts_any ma mb aa ab la lb ca cb a b W ha hb hla hlb).mono fun e W' ⟨he, bel⟩ => ?_
  subst he
  exact ⟨_, rfl, _, _, _, [], _, [], hW', trodAll_mk1 (shut_bool Tryd.underlying4 _), (trodAll_mk2 (Below.trod laidOut (by kernel_rfl) (of_decide_eq_true (by kernel_rfl)) h0 bel lt0) (Below.trod laidOut (by kernel_rfl) (of_decide_eq_true (by kernel_rfl)) h1 bel lt1)), rfl, bel.frame _, fun h => by cases h⟩

theorem parts_holds : Rows.LimbPartsSaid :=
  OpenClaim.holds_of_wide 3 Tryd.f3 rfl rfl rfl rfl rfl rfl rfl ⟨rfl, rfl, rfl, rfl, rfl⟩ rfl rfl rfl rfl rfl (by kernel_rfl) Tryd.func3 (by kernel_rfl)
    (of_decide_eq_true (by kernel_rfl)) (by unfold Func.isWrapper; first | (rw [if_pos (by decide +kernel)]; kernel_rfl) | (rw [if_neg (by decide +kernel)]; exact ⟨rfl, rfl⟩))
    (fun os started H enc _ => parts_lifted os started H enc)

/-- THE STATEMENT. -/
theorem limbParts_card : Rows.LimbPartsCardSaid :=
  Claim7.holds_tied_plain_at .later [] [.data, .data, .data] true Rows.limbPartsCard.stood.harness false
    parts_holds (fun _ h => by cases h) (by kernel_rfl) (fun _ h => by cases h) limbParts_row_tie rfl ⟨rfl, rfl⟩ (by kernel_rfl) rfl
    (fun f fn hf hfn => by
      obtain rfl : f = 3 := Option.some.inj ((show Tryd.prog.funcNamed Rows.limbPartsRow.func = some 3 by kernel_rfl).symm.trans hf) |>.symm
      obtain rfl : fn = Tryd.f3 := (Option.some.inj (Tryd.func3.symm.trans hfn)).symm
      exact ⟨by kernel_rfl, fun j t ht => by
        rw [Tryd.params3] at ht
        have hm : t ∈ [24, 24] := by simpa using Array.mem_of_getElem? ht
        have hall : ([24, 24].all fun u => !Tryd.prog.wantsStandIn u) = true := by kernel_rfl
        exact (show Tryd.prog.wantsStandIn t = false by simpa using List.all_eq_true.1 hall t hm)⟩)
    (by kernel_rfl)
#print axioms limbParts_card
end Go.Proofs.YthijnnififodjaaDoor
