/- PROVED: for all whole numbers a, b, c (right or not, of any size) the function LimbOrder of package shuntlaw01 answers true, and its arguments read behind the call as before it. Conditions: those of the given row alone (the three tables of the library that it lists hold what the program's text lays; the card ties them). -/
import Derived.Test.YtiadnlpbbibkgabDoorOpen
import Derived.Test.YtiadnlpbbibkgabDoorLorder
namespace Go.Proofs.YtiadnlpbbibkgabDoor
open Go.ChangeShapes Go.WideShapes Go.ChangeAt Go.RowKit Go.Joins

theorem lorder_any (ma mb mc : Bool) (aa ab ac : Option Addr) (la lb lc ca cb cc : Nat) (a b c : List Nat) (w : World) (ha : Sl w (.slice aa la ca) a) (hb : Sl w (.slice ab lb cb) b) (hc : Sl w (.slice ac lc cc) c)
    (hla : a.length ≤ 9223372036854775807) (hlb : b.length ≤ 9223372036854775807) (hlc : c.length ≤ 9223372036854775807) :
    Calls Tryd.prog 4 #[.agg #[.bool ma, .slice aa la ca], .agg #[.bool mb, .slice ab lb cb], .agg #[.bool mc, .slice ac lc cc]] w fun e w' => e = .returned (.bool true) ∧ Kept w w' := by
  by_cases hra : R ma a
  · by_cases hrb : R mb b
    · by_cases hrc : R mc c
      · by_cases hs : a.length + b.length + c.length ≤ 60
        · rcases Int.lt_trichotomy (M.int ma a) (M.int mb b) with h1 | h1 | h1
          · rcases Int.lt_trichotomy (M.int mb b) (M.int mc c) with h2 | h2 | h2
            · exact lorder_lt1 ma mb mc aa ab ac la lb lc ca cb cc a b c w ha hb hc hla hlb hlc hra hrb hrc hs h1 h2
            · exact lorder_lt2 ma mb mc aa ab ac la lb lc ca cb cc a b c w ha hb hc hla hlb hlc hra hrb hrc hs h1 h2
            · exact lorder_lt3 ma mb mc aa ab ac la lb lc ca cb cc a b c w ha hb hc hla hlb hlc hra hrb hrc hs h1 h2
          · rcases Int.lt_trichotomy (M.int mb b) (M.int mc c) with h2 | h2 | h2
            · exact lorder_eq1 ma mb mc aa ab ac la lb lc ca cb cc a b c w ha hb hc hla hlb hlc hra hrb hrc hs h1 h2
            · exact lorder_eq2 ma mb mc aa ab ac la lb lc ca cb cc a b c w ha hb hc hla hlb hlc hra hrb hrc hs h1 h2
            · exact lorder_eq3 ma mb mc aa ab ac la lb lc ca cb cc a b c w ha hb hc hla hlb hlc hra hrb hrc hs h1 h2
          · exact lorder_gt ma mb mc aa ab ac la lb lc ca cb cc a b c w ha hb hc hla hlb hlc hra hrb hrc hs h1
        · exact lorder_long ma mb mc aa ab ac la lb lc ca cb cc a b c w ha hb hc hla hlb hlc hra hrb hrc (by omega)
      · exact lorder_c ma mb mc aa ab ac la lb lc ca cb cc a b c w ha hb hc hla hlb hlc hra hrb hrc
    · exact lorder_b ma mb mc aa ab ac la lb lc ca cb cc a b c w ha hb hc hla hlb hlc hra hrb
  · exact lorder_a ma mb mc aa ab ac la lb lc ca cb cc a b c w ha hb hc hla hlb hlc hra

theorem order_met (os : Os) (args : Array Value) : laidMetH Tryd.prog Rows.limbOrderRow.laid ((World.doorLaid Tryd.prog 24 os).forCall (fun _ _ => 0) ⟨#[], args, []⟩).memory :=
  laidMetH_of_parts3 (fuel := 8) (laidMet_of_run' 8 (by kernel_rfl) (by kernel_rfl)) (by kernel_rfl) (by kernel_rfl)

set_option maxRecDepth 100000 in
theorem order_lifted (os : Os) (started : os.Started) (H : Type) (enc : TypeId × Value → H) :
    ReturnsInHanded {} Tryd.checked os 4 .any (fun w args => (Rows.limbOrderSpec.pre enc Tryd.prog Tryd.f4 [] false w args ∧ laidMetH Tryd.prog Rows.limbOrderRow.laid w) ∧ sizedMet enc Tryd.prog Tryd.f4 (OpenSpec.ofChange Rows.limbOrderSpec) false w args)
      (Rows.limbOrderSpec.post enc Tryd.prog Tryd.f4 false true false false) := by
  refine returnsInHanded_of_change_and (C := Tryd.checked) (X := fun w _ => laidMetH Tryd.prog Rows.limbOrderRow.laid w) (fun _ _ _ hh h => h.of_heap hh) own started (by kernel_rfl) Tryd.func4
    (ChangeSpec.witness_shaped (enc := enc) (C := Tryd.checked) (os := os) (X := fun w _ => laidMetH Tryd.prog Rows.limbOrderRow.laid w) false (World.doorLaid Tryd.prog 24 os) #[.agg #[.bool false, .slice none 0 0], .agg #[.bool false, .slice none 0 0], .agg #[.bool false, .slice none 0 0]] 8 rfl (World.shaped_of_RefB (by kernel_rfl) (by kernel_rfl)) (by kernel_rfl) (by kernel_rfl) (by kernel_rfl) (order_met os _)) ?_
  intro W base args ds gs before hval0 hW _ _ _ _
  have hval : ∀ (j : Nat) t v, Tryd.f4.params[j]? = some t → args[j]? = some v → Value.okWide Tryd.prog W .any base t v := hval0
  have hW' := hW
  obtain ⟨p, q, hA0, hV, rfl, hfz, hnd⟩ := hW
  have hA : DataW.TrodAll enc Tryd.prog W 0 (fun _ => true) true Tryd.f4.params.toList args.toList ds p := hA0
  rw [Tryd.params4] at hA hval
  obtain ⟨v0, v1, v2, d0, d1, d2, p0, p1, p2, rfl, rfl, rfl, h0, h1, h2⟩ := trodAll_three hA
  obtain ⟨rfl, rfl⟩ := trodVars_none hV
  have lt0 : ∀ x ∈ p0, x.block < W.heap.size := by obtain ⟨m, hm⟩ := h0; exact DataW.trod_lt m _ _ _ hm
  have lt1 : ∀ x ∈ p1, x.block < W.heap.size := by obtain ⟨m, hm⟩ := h1; exact DataW.trod_lt m _ _ _ hm
  have lt2 : ∀ x ∈ p2, x.block < W.heap.size := by obtain ⟨m, hm⟩ := h2; exact DataW.trod_lt m _ _ _ hm
  obtain ⟨ma, aa, la, ca, a, rfl, ha, hla⟩ := open_Int (hval 0 24 v0 rfl rfl) h0
  obtain ⟨mb, ab, lb, cb, b, rfl, hb, hlb⟩ := open_Int (hval 1 24 v1 rfl rfl) h1
  obtain ⟨mc, ac, lc, cc, c, rfl, hc, hlc⟩ := open_Int (hval 2 24 v2 rfl rfl) h2
  clear hA0 hval0
  refine (lorder_any ma mb mc aa ab ac la lb lc ca cb cc a b c W ha hb hc hla hlb hlc).mono fun e W' ⟨he, bel⟩ => ?_
  subst he
  exact ⟨_, rfl, _, _, _, [], _, [], hW', trodAll_mk1 (shut_bool Tryd.underlying4 _), (trodAll_mk3 (Below.trod laidOut (by kernel_rfl) (of_decide_eq_true (by kernel_rfl)) h0 bel lt0) (Below.trod laidOut (by kernel_rfl) (of_decide_eq_true (by kernel_rfl)) h1 bel lt1) (Below.trod laidOut (by kernel_rfl) (of_decide_eq_true (by kernel_rfl)) h2 bel lt2)), rfl, bel.frame _, fun h => by cases h⟩

theorem order_holds : Rows.LimbOrderSaid :=
  OpenClaim.holds_of_wide 4 Tryd.f4 rfl rfl rfl rfl rfl rfl rfl ⟨rfl, rfl, rfl, rfl, rfl⟩ rfl rfl rfl rfl rfl (by kernel_rfl) Tryd.func4 (by kernel_rfl)
    (of_decide_eq_true (by kernel_rfl)) (by unfold Func.isWrapper; first | (rw [if_pos (by decide +kernel)]; kernel_rfl) | (rw [if_neg (by decide +kernel)]; exact ⟨rfl, rfl⟩))
    (fun os started H enc _ => order_lifted os started H enc)

/-- THE STATEMENT. -/
theorem limbOrder_card : Rows.LimbOrderCardSaid :=
  Claim7.holds_tied_plain_at .later [] [.data, .data, .data] true Rows.limbOrderCard.stood.harness false
    order_holds (fun _ h => by cases h) (by kernel_rfl) (fun _ h => by cases h) limbOrder_row_tie rfl ⟨rfl, rfl⟩ (by kernel_rfl) rfl
    (fun f fn hf hfn => by
      obtain rfl : f = 4 := Option.some.inj ((show Tryd.prog.funcNamed Rows.limbOrderRow.func = some 4 by kernel_rfl).symm.trans hf) |>.symm
      obtain rfl : fn = Tryd.f4 := (Option.some.inj (Tryd.func4.symm.trans hfn)).symm
      exact ⟨by kernel_rfl, fun j t ht => by
        rw [Tryd.params4] at ht
        have hm : t ∈ [24, 24, 24] := by simpa using Array.mem_of_getElem? ht
        have hall : ([24, 24, 24].all fun u => !Tryd.prog.wantsStandIn u) = true := by kernel_rfl
        exact (show Tryd.prog.wantsStandIn t = false by simpa using List.all_eq_true.1 hall t hm)⟩)
    (by kernel_rfl)
#print axioms limbOrder_card
end Go.Proofs.YtiadnlpbbibkgabDoor
