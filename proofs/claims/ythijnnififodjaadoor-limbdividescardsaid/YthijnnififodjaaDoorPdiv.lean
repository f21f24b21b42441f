/- PROVED: for all whole numbers a, b (right or not, of any size) the function LimbDivides of package shuntlaw01 answers true, and its arguments read behind the call as before it. Conditions: those of the given row alone (the three tables of the library that it lists hold what the program's text lays; the card ties them). -/
import Derived.Test.YthijnnififodjaaDoorOpen
import Derived.Test.YthijnnififodjaaDoorLdiv
namespace Go.Proofs.YthijnnififodjaaDoor
open Go.ChangeShapes Go.WideShapes Go.ChangeAt Go.RowKit Go.Joins

theorem ldiv_any (ma mb : Bool) (aa ab : Option Addr) (la lb ca cb : Nat) (a b : List Nat) (w : World) (ha : Sl w (.slice aa la ca) a) (hb : Sl w (.slice ab lb cb) b)
    (hla : a.length ≤ 9223372036854775807) (hlb : b.length ≤ 9223372036854775807) :
    Calls Tryd.prog 4 #[.agg #[.bool ma, .slice aa la ca], .agg #[.bool mb, .slice ab lb cb]] w fun e w' => e = .returned (.bool true) ∧ Kept w w' := by
  by_cases hra : R ma a
  · by_cases hrb : R mb b
    · by_cases h0 : b.length = 0
      · exact ldiv_zero ma mb aa ab la lb ca cb a b w ha hb hla hlb hra hrb h0
      · by_cases hs : a.length + b.length ≤ 60
        · exact ldiv_main ma mb aa ab la lb ca cb a b w ha hb hla hlb hra hrb (by omega) hs
        · exact ldiv_long ma mb aa ab la lb ca cb a b w ha hb hla hlb hra hrb (by omega) (by omega)
    · exact ldiv_b ma mb aa ab la lb ca cb a b w ha hb hla hlb hra hrb
  · exact ldiv_a ma mb aa ab la lb ca cb a b w ha hb hla hlb hra

theorem divides_met (os : Os) (args : Array Value) : laidMetH Tryd.prog Rows.limbDividesRow.laid ((World.doorLaid Tryd.prog 24 os).forCall (fun _ _ => 0) ⟨#[], args, []⟩).memory :=
  laidMetH_of_parts3 (fuel := 8) (laidMet_of_run' 8 (by kernel_rfl) (by kernel_rfl)) (by kernel_rfl) (by kernel_rfl)

set_option maxRecDepth 100000 in
theorem divides_lifted (os : Os) (started : os.Started) (H : Type) (enc : TypeId × Value → H) :
    ReturnsInHanded {} Tryd.checked os 4 .any (fun w args => (Rows.limbDividesSpec.pre enc Tryd.prog Tryd.f4 [] false w args ∧ laidMetH Tryd.prog Rows.limbDividesRow.laid w) ∧ sizedMet enc Tryd.prog Tryd.f4 (OpenSpec.ofChange Rows.limbDividesSpec) false w args)
      (Rows.limbDividesSpec.post enc Tryd.prog Tryd.f4 false true false false) := by
  refine returnsInHanded_of_change_and (C := Tryd.checked) (X := fun w _ => laidMetH Tryd.prog Rows.limbDividesRow.laid w) (fun _ _ _ hh h => h.of_heap hh) own started (by kernel_rfl) Tryd.func4
    (ChangeSpec.witness_shaped (enc := enc) (C := Tryd.checked) (os := os) (X := fun w _ => laidMetH Tryd.prog Rows.limbDividesRow.laid w) false (World.doorLaid Tryd.prog 24 os) #[.agg #[.bool false, .slice none 0 0], .agg #[.bool false, .slice none 0 0]] 8 rfl (World.shaped_of_RefB (by kernel_rfl) (by kernel_rfl)) (by kernel_rfl) (by kernel_rfl) (by kernel_rfl) (divides_met os _)) ?_
  intro W base args ds gs before hval0 hW _ _ _ _
  have hval : ∀ (j : Nat) t v, Tryd.f4.params[j]? = some t → args[j]? = some v → Value.okWide Tryd.prog W .any base t v := hval0
  have hW' := hW
  obtain ⟨p, q, hA0, hV, rfl, hfz, hnd⟩ := hW
  have hA : DataW.TrodAll enc Tryd.prog W 0 (fun _ => true) true Tryd.f4.params.toList args.toList ds p := hA0
  rw [Tryd.params4] at hA hval
  obtain ⟨v0, v1, d0, d1, p0, p1, rfl, rfl, rfl, h0, h1⟩ := trodAll_two hA
  obtain ⟨rfl, rfl⟩ := trodVars_none hV
  have lt0 : ∀ x ∈ p0, x.block < W.heap.size := by obtain ⟨m, hm⟩ := h0; exact DataW.trod_lt m _ _ _ hm
  have lt1 : ∀ x ∈ p1, x.block < W.heap.size := by obtain ⟨m, hm⟩ := h1; exact DataW.trod_lt m _ _ _ hm
  obtain ⟨ma, aa, la, ca, a, rfl, ha, hla⟩ := open_Int (hval 0 24 v0 rfl rfl) h0
  obtain ⟨mb, ab, lb, cb, b, rfl, hb, hlb⟩ := open_Int (hval 1 24 v1 rfl rfl) h1
  clear hA0 hval0
  refine (ldiv_any ma mb aa ab la lb ca cb a b W ha hb hla hlb).mono fun e W' ⟨he, bel⟩ => ?_
  subst he
  exact ⟨_, rfl, _, _, _, [], _, [], hW', trodAll_mk1 (shut_bool Tryd.underlying4 _), (trodAll_mk2 (Below.trod laidOut (by kernel_rfl) (of_decide_eq_true (by kernel_rfl)) h0 bel lt0) (Below.trod laidOut (by kernel_rfl) (of_decide_eq_true (by kernel_rfl)) h1 bel lt1)), rfl, bel.frame _, fun h => by cases h⟩

theorem divides_holds : Rows.LimbDividesSaid :=
  OpenClaim.holds_of_wide 4 Tryd.f4 rfl rfl rfl rfl rfl rfl rfl ⟨rfl, rfl, rfl, rfl, rfl⟩ rfl rfl rfl rfl rfl (by kernel_rfl) Tryd.func4 (by kernel_rfl)
    (of_decide_eq_true (by kernel_rfl)) (by unfold Func.isWrapper; first | (rw [if_pos (by decide +kernel)]; kernel_rfl) | (rw [if_neg (by decide +kernel)]; exact ⟨rfl, rfl⟩))
    (fun os started H enc _ => divides_lifted os started H enc)

/-- THE STATEMENT. -/
theorem limbDivides_card : Rows.LimbDividesCardSaid :=
  Claim7.holds_tied_plain_at .later [] [.data, .data, .data] true Rows.limbDividesCard.stood.harness false
    divides_holds (fun _ h => by cases h) (by kernel_rfl) (fun _ h => by cases h) limbDivides_row_tie rfl ⟨rfl, rfl⟩ (by kernel_rfl) rfl
    (fun f fn hf hfn => by
      obtain rfl : f = 4 := Option.some.inj ((show Tryd.prog.funcNamed Rows.limbDividesRow.func = some 4 by kernel_rfl).symm.trans hf) |>.symm
      obtain rfl : fn = Tryd.f4 := (Option.some.inj (Tryd.func4.symm.trans hfn)).symm
      exact ⟨by kernel_rfl, fun j t ht => by
        rw [Tryd.params4] at ht
        have hm : t ∈ [24, 24] := by simpa using Array.mem_of_getElem? ht
        have hall : ([24, 24].all fun u => !Tryd.prog.wantsStandIn u) = true := by kernel_rfl
        exact (show Tryd.prog.wantsStandIn t = false by simpa using List.all_eq_true.1 hall t hm)⟩)
    (by kernel_rfl)
#print axioms limbDivides_card
end Go.Proofs.YthijnnififodjaaDoor
