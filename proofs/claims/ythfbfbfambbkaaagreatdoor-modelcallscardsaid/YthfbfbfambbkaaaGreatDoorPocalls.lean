/- PROVED: for every model m, every int k and every fraction u the function ModelCalls of package shuntlaw05 answers true, and its arguments read behind the call as before it. Conditions: those of the given row alone (the three tables of the library that it lists hold what the program's text lays; the card ties them). -/
import Derived.Test.YthfbfbfambbkaaaGreatDoorOop
import Derived.Test.YthfbfbfambbkaaaGreatDoorGav
import Derived.Test.YthfbfbfambbkaaaGreatDoorTie
import Derived.Test.YthfbfbfambbkaaaGreatDoorCards
import Derived.LaidMore
import Derived.SevenTiedAt
import Derived.Lay
import Derived.ShutString
import Derived.Stop.LaidErr
import Derived.Lib.LaidTab
namespace Go.Proofs.YthfbfbfambbkaaaGreatDoor
open Go.ChangeShapes Go.WideShapes Go.ChangeAt Go.RowKit Go.Joins
open Go.ChangeMaps (open_string shut_string)
namespace V
theorem met_laid (os:Os) (args:Array Value):laidMetH Tryz.prog Rows.modelCallsRow.laid ((World.doorLaid Tryz.prog 24 os).forCall (fun _ _ => 0) ⟨#[],args,[]⟩).memory :=
 laidMetH_of_parts3 (fuel:=8) (laidMet_of_run' 8 (by kernel_rfl) (by kernel_rfl)) (by kernel_rfl) (by kernel_rfl)
theorem gPow : Tryz.prog.globalNamed "internal/strconv.uint64pow10" = some 0 := by kernel_rfl
theorem gPowType:(Tryz.prog.globals[0]?).map (·.type) = some 174:=by kernel_rfl
theorem tab_of {W:World} (h:laidMetH Tryz.prog Rows.modelCallsRow.laid W):Tab W:=by
 rw [MakeChecks.laidMetH_plain _ _ _ (by kernel_rfl)] at h
 have h2 : laidMet Tryz.prog [("internal/strconv.uint64pow10", Lib.tabData .u64 Lib.pow10Tab)] W := laidMet.tail (laidMet.tail h)
 exact Lib.tabIs_of_head gPow gPowType Tryz.underlying174 Tryz.underlying102 (by kernel_rfl) (by kernel_rfl) h2
end V
set_option maxRecDepth 100000 in
theorem modelCalls_lifted (os:Os) (started:os.Started) (H:Type) (enc:TypeId × Value->H) :
  ReturnsInHanded {} Tryz.checked os 3 .any (fun w args => (Rows.modelCallsSpec.pre enc Tryz.prog Tryz.f3 [] false w args/\laidMetH Tryz.prog Rows.modelCallsRow.laid w)/\sizedMet enc Tryz.prog Tryz.f3 (OpenSpec.ofChange Rows.modelCallsSpec) false w args)
   (Rows.modelCallsSpec.post enc Tryz.prog Tryz.f3 false true false false):=by
 refine returnsInHanded_of_change_and (C:=Tryz.checked) (X:=fun w _ => laidMetH Tryz.prog Rows.modelCallsRow.laid w) (fun _ _ _ hh h => h.of_heap hh) own started (by kernel_rfl) Tryz.func3
  (ChangeSpec.witness_shaped (enc:=enc) (C:=Tryz.checked) (os:=os) (X:=fun w _ => laidMetH Tryz.prog Rows.modelCallsRow.laid w) false (World.doorLaid Tryz.prog 24 os) #[.agg #[.string ⟨#[]⟩,.int .u8 0,.slice none 0 0,.slice none 0 0],.int .i64 0,.agg #[.bool false,.slice none 0 0,.bool false,.slice none 0 0]] 8 rfl (World.shaped_of_RefB (by kernel_rfl) (by kernel_rfl)) (by kernel_rfl) (by kernel_rfl) (by kernel_rfl) (V.met_laid os _)) ?_
 intro W base args ds gs before hval0 hW _ hsz0 hLaid _
 have hval:∀ (j:Nat) t v,Tryz.f3.params[j]? = some t->args[j]? = some v->Value.okWide Tryz.prog W .any base t v:=hval0
 have hsz:(DataW.weightsEach Tryz.prog (Tryz.f3.params.toList ++ Rows.modelCallsSpec.plain.varTypes Tryz.prog) (ds ++ gs)).all (·<=reachBytes) = true:=hsz0
 have hW':=hW
 obtain ⟨p,q,hA0,hV,rfl,hfz,hnd⟩:=hW
 have hA:DataW.TrodAll enc Tryz.prog W 0 (fun _ => true) true Tryz.f3.params.toList args.toList ds p:=hA0
 rw [Tryz.params3] at hA hval hsz
 obtain ⟨v0,v1,v2,d0,d1,d2,p0,p1,p2,rfl,rfl,rfl,h0,h1,h2⟩:=trodAll_three hA
 obtain ⟨rfl,rfl⟩:=trodVars_none hV
 have lt0:∀ x ∈ p0,x.block < W.heap.size:=by obtain ⟨m,hm⟩:=h0; exact DataW.trod_lt m _ _ _ hm
 have lt2:∀ x ∈ p2,x.block < W.heap.size:=by obtain ⟨m,hm⟩:=h2; exact DataW.trod_lt m _ _ _ hm
 obtain ⟨s0,k0,a0,b0,n0,c0,m0,d0,gs0,vs0,rfl,hs0,hg0,hv0⟩:=V.open_Model (hval 0 24 v0 rfl rfl) h0
 obtain ⟨zn0,zm0⟩:=V.model_sized h0 (fun x hx => by
  have:=List.all_eq_true.1 hsz x (DataW.weights_mem_each (j:=0) (t:=24) rfl rfl x hx)
  simpa using this)
 obtain ⟨z1,rfl,rfl,rfl,wz1⟩:=open_int Tryz.underlying3 (hval 1 3 v1 rfl rfl) h1
 obtain ⟨g2,e2,i2,j2,x2,h2',f2,l2,o2,y2,rfl,sx2,lx2,sy2,ly2⟩:=open_Rat (hval 2 29 v2 rfl rfl) h2
 obtain ⟨zi2,zl2⟩:=V.rat_sized h2 (fun x hx => by
  have:=List.all_eq_true.1 hsz x (DataW.weights_mem_each (j:=2) (t:=29) rfl rfl x hx)
  simpa using this)
 clear hA0 hval0 hsz0 hsz
 refine (V.callsM_any s0 k0 a0 b0 n0 c0 m0 d0 gs0 vs0 z1 g2 h2' e2 f2 i2 j2 l2 o2 x2 y2 W (V.tab_of hLaid) hs0 hg0 hv0 (by omega) (by omega) sx2 sy2 lx2 ly2 (by omega) (by omega) zn0 zm0).mono fun e W' ⟨bel,he⟩ => ?_
 subst he
 exact ⟨_,rfl,_,_,_,[],_,[],hW',trodAll_mk1 (shut_bool Tryz.underlying4 _),trodAll_mk3 (Below.trod laidOut (by kernel_rfl) (of_decide_eq_true (by kernel_rfl)) h0 bel lt0) (shut_int Tryz.underlying3 wz1) (Below.trod laidOut (by kernel_rfl) (of_decide_eq_true (by kernel_rfl)) h2 bel lt2),rfl,bel.frame _,fun h => by cases h⟩
theorem modelCalls_holds:Rows.ModelCallsSaid :=
 OpenClaim.holds_of_wide 3 Tryz.f3 rfl rfl rfl rfl rfl rfl rfl ⟨rfl,rfl,rfl,rfl,rfl⟩ rfl rfl rfl rfl rfl (by kernel_rfl) Tryz.func3 (by kernel_rfl)
  (of_decide_eq_true (by kernel_rfl)) (by unfold Func.isWrapper; first | (rw [if_pos (by decide +kernel)]; kernel_rfl) | (rw [if_neg (by decide +kernel)]; exact ⟨rfl,rfl⟩))
  (fun os started H enc _ => modelCalls_lifted os started H enc)
theorem modelCalls_card:Rows.ModelCallsCardSaid :=
 Claim7.holds_tied_plain_at .later [] [.data,.data,.data] true Rows.modelCallsCard.stood.harness false
  modelCalls_holds (fun _ h => by cases h) (by kernel_rfl) (fun _ h => by cases h) modelCalls_row_tie rfl ⟨rfl,rfl⟩ (by kernel_rfl) rfl
  (fun f fn hf hfn => by
   obtain rfl:f = 3:=Option.some.inj ((show Tryz.prog.funcNamed Rows.modelCallsRow.func = some 3 by kernel_rfl).symm.trans hf) |>.symm
   obtain rfl:fn = Tryz.f3:=(Option.some.inj (Tryz.func3.symm.trans hfn)).symm
   exact ⟨by kernel_rfl,fun j t ht => by
    rw [Tryz.params3] at ht
    have hm:t ∈ [24,3,29]:=by simpa using Array.mem_of_getElem? ht
    have hall:([24,3,29].all fun u => !Tryz.prog.wantsStandIn u) = true:=by kernel_rfl
    exact (show Tryz.prog.wantsStandIn t = false by simpa using List.all_eq_true.1 hall t hm)⟩)
  (by kernel_rfl)
#print axioms modelCalls_card
end Go.Proofs.YthfbfbfambbkaaaGreatDoor
