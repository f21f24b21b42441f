/- PROVED: for every int64 v, every whole number a (right or not, of any size) and every int limbs the function LimbOnes of package shuntlaw01 answers true, and its arguments read behind the call as before it. Conditions: those of the given row alone (the three tables of the library that it lists hold what the program's text lays; the card ties them). -/
import Derived.Test.YtiadnlpbbibkgaaDoorOpen
import Derived.Test.YtiadnlpbbibkgaaDoorLones
import Derived.ShutString
import Derived.Stop.LaidErr
import Derived.Lib.LaidTab
namespace Go.Proofs.YtiadnlpbbibkgaaDoor
open Go.ChangeShapes Go.WideShapes Go.ChangeAt Go.RowKit Go.Joins
open Go.ChangeMaps (open_string shut_string)

set_option maxRecDepth 100000 in
set_option maxHeartbeats 1000000 in
theorem lones_long (v : Int) (ma : Bool) (aa : Option Addr) (na ca : Nat) (k : Int) (w : World) (hla : na ≤ 9223372036854775807) (h1 : 80 < na) :
    Calls Tryd.prog 5 #[.int .i64 v, .agg #[.bool ma, .slice aa na ca], .int .i64 k] w fun e w' => e = .returned (.bool true) ∧ Kept w w' := by
  go_enter Tryd.func5, Tryd.ntmps5
  go_wp2_with fail
  refine (awake_yes _).mono ?_
  rintro e w1 ⟨rfl, hk1⟩
  obtain ⟨hA0, hA1⟩ := box_kept hk1
  have HK1 : Hid (Kept w w1) := ((Kept.refl w).alloc _).trans hk1
  clear hk1
  go_wp2_with fail
  refine (long_any ma aa na ca _ hla).mono ?_
  rintro e w2 ⟨rfl, hk2⟩
  rw [decide_eq_true h1]
  have HK2 : Hid (Kept w w2) := HK1.out.trans hk2
  clear hk2 hA0 hA1
  go_wp2
  go_ret
  exact ⟨rfl, HK2.out⟩

theorem lones_any (v : Int) (ma : Bool) (aa : Option Addr) (la ca : Nat) (a : List Nat) (k : Int) (w : World) (ha : Sl w (.slice aa la ca) a) (hla : a.length ≤ 9223372036854775807) (ht : Tab w) (hv1 : -9223372036854775808 ≤ v) (hv2 : v ≤ 9223372036854775807) :
    Calls Tryd.prog 5 #[.int .i64 v, .agg #[.bool ma, .slice aa la ca], .int .i64 k] w fun e w' => e = .returned (.bool true) ∧ Kept w w' := by
  have e1 := ha.len
  subst e1
  by_cases h : a.length ≤ 80
  · by_cases hr : R ma a
    · exact lones_right v ma aa ca a k w ha h ht hr hv1 hv2
    · exact lones_wrong v ma aa ca a k w ha h ht hr hv1 hv2
  · exact lones_long v ma aa _ ca k w hla (by omega)

theorem ones_met (os : Os) (args : Array Value) : laidMetH Tryd.prog Rows.limbOnesRow.laid ((World.doorLaid Tryd.prog 24 os).forCall (fun _ _ => 0) ⟨#[], args, []⟩).memory :=
  laidMetH_of_parts3 (fuel := 8) (laidMet_of_run' 8 (by kernel_rfl) (by kernel_rfl)) (by kernel_rfl) (by kernel_rfl)

theorem gPow : Tryd.prog.globalNamed "internal/strconv.uint64pow10" = some 0 := by kernel_rfl
theorem gPowType : (Tryd.prog.globals[0]?).map (·.type) = some 125 := by kernel_rfl

theorem tab_of {W : World} (h : laidMetH Tryd.prog Rows.limbOnesRow.laid W) : Tab W := by
  rw [MakeChecks.laidMetH_plain _ _ _ (by kernel_rfl)] at h
  have h2 : laidMet Tryd.prog [("internal/strconv.uint64pow10", Lib.tabData .u64 Lib.pow10Tab)] W := laidMet.tail (laidMet.tail h)
  exact Lib.tabIs_of_head gPow gPowType Tryd.underlying125 Tryd.underlying78 (by kernel_rfl) (by kernel_rfl) h2

set_option maxRecDepth 100000 in
theorem ones_lifted (os : Os) (started : os.Started) (H : Type) (enc : TypeId × Value → H) :
    ReturnsInHanded {} Tryd.checked os 5 .any (fun w args => (Rows.limbOnesSpec.pre enc Tryd.prog Tryd.f5 [] false w args ∧ laidMetH Tryd.prog Rows.limbOnesRow.laid w) ∧ sizedMet enc Tryd.prog Tryd.f5 (OpenSpec.ofChange Rows.limbOnesSpec) false w args)
      (Rows.limbOnesSpec.post enc Tryd.prog Tryd.f5 false true false false) := by
  refine returnsInHanded_of_change_and (C := Tryd.checked) (X := fun w _ => laidMetH Tryd.prog Rows.limbOnesRow.laid w) (fun _ _ _ hh h => h.of_heap hh) own started (by kernel_rfl) Tryd.func5
    (ChangeSpec.witness_shaped (enc := enc) (C := Tryd.checked) (os := os) (X := fun w _ => laidMetH Tryd.prog Rows.limbOnesRow.laid w) false (World.doorLaid Tryd.prog 24 os) #[.int .i64 0, .agg #[.bool false, .slice none 0 0], .int .i64 0] 8 rfl (World.shaped_of_RefB (by kernel_rfl) (by kernel_rfl)) (by kernel_rfl) (by kernel_rfl) (by kernel_rfl) (ones_met os _)) ?_
  intro W base args ds gs before hval0 hW _ _ hLaid _
  have hval : ∀ (j : Nat) t v, Tryd.f5.params[j]? = some t → args[j]? = some v → Value.okWide Tryd.prog W .any base t v := hval0
  have hW' := hW
  obtain ⟨p, q, hA0, hV, rfl, hfz, hnd⟩ := hW
  have hA : DataW.TrodAll enc Tryd.prog W 0 (fun _ => true) true Tryd.f5.params.toList args.toList ds p := hA0
  rw [Tryd.params5] at hA hval
  obtain ⟨v0, v1, v2, d0, d1, d2, p0, p1, p2, rfl, rfl, rfl, h0, h1, h2⟩ := trodAll_three hA
  obtain ⟨rfl, rfl⟩ := trodVars_none hV
  have lt1 : ∀ x ∈ p1, x.block < W.heap.size := by obtain ⟨m, hm⟩ := h1; exact DataW.trod_lt m _ _ _ hm
  obtain ⟨z0, rfl, rfl, rfl, hw0⟩ := open_int Tryd.underlying2 (hval 0 2 v0 rfl rfl) h0
  obtain ⟨ma, aa, la, ca, a, rfl, ha, hla⟩ := open_Int (hval 1 24 v1 rfl rfl) h1
  obtain ⟨z2, rfl, rfl, rfl, hw2⟩ := open_int Tryd.underlying3 (hval 2 3 v2 rfl rfl) h2
  clear hA0 hval0
  have hb0 := bounds_i64 hw0
  refine (lones_any z0 ma aa la ca a z2 W ha hla (tab_of hLaid) (by omega) (by omega)).mono fun e W' ⟨he, bel⟩ => ?_
  subst he
  exact ⟨_, rfl, _, _, _, [], _, [], hW', trodAll_mk1 (shut_bool Tryd.underlying4 _), (trodAll_mk3 (shut_int Tryd.underlying2 hw0) (Below.trod laidOut (by kernel_rfl) (of_decide_eq_true (by kernel_rfl)) h1 bel lt1) (shut_int Tryd.underlying3 hw2)), rfl, bel.frame _, fun h => by cases h⟩

theorem ones_holds : Rows.LimbOnesSaid :=
  OpenClaim.holds_of_wide 5 Tryd.f5 rfl rfl rfl rfl rfl rfl rfl ⟨rfl, rfl, rfl, rfl, rfl⟩ rfl rfl rfl rfl rfl (by kernel_rfl) Tryd.func5 (by kernel_rfl)
    (of_decide_eq_true (by kernel_rfl)) (by unfold Func.isWrapper; first | (rw [if_pos (by decide +kernel)]; kernel_rfl) | (rw [if_neg (by decide +kernel)]; exact ⟨rfl, rfl⟩))
    (fun os started H enc _ => ones_lifted os started H enc)

/-- THE STATEMENT. -/
theorem limbOnes_card : Rows.LimbOnesCardSaid :=
  Claim7.holds_tied_plain_at .later [] [.data, .data, .data] true Rows.limbOnesCard.stood.harness false
    ones_holds (fun _ h => by cases h) (by kernel_rfl) (fun _ h => by cases h) limbOnes_row_tie rfl ⟨rfl, rfl⟩ (by kernel_rfl) rfl
    (fun f fn hf hfn => by
      obtain rfl : f = 5 := Option.some.inj ((show Tryd.prog.funcNamed Rows.limbOnesRow.func = some 5 by kernel_rfl).symm.trans hf) |>.symm
      obtain rfl : fn = Tryd.f5 := (Option.some.inj (Tryd.func5.symm.trans hfn)).symm
      exact ⟨by kernel_rfl, fun j t ht => by
        rw [Tryd.params5] at ht
        have hm : t ∈ [2, 24, 3] := by simpa using Array.mem_of_getElem? ht
        have hall : ([2, 24, 3].all fun u => !Tryd.prog.wantsStandIn u) = true := by kernel_rfl
        exact (show Tryd.prog.wantsStandIn t = false by simpa using List.all_eq_true.1 hall t hm)⟩)
    (by kernel_rfl)
#print axioms limbOnes_card
end Go.Proofs.YtiadnlpbbibkgaaDoor
