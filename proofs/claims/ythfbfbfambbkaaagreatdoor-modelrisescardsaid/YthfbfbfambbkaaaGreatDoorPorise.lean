/- PROVED: for every model m and all fractions u and v the function ModelRises of package shuntlaw05 answers true, and its arguments read behind the call as before it. Conditions: those of the given row alone (the three tables of the library that it lists hold what the program's text lays; the card ties them). -/
import Derived.Test.YthfbfbfambbkaaaGreatDoorOop
import Derived.Test.YthfbfbfambbkaaaGreatDoorGau
import Derived.Test.YthfbfbfambbkaaaGreatDoorTie
import Derived.Test.YthfbfbfambbkaaaGreatDoorCards
import Derived.LaidMore
import Derived.SevenTiedAt
import Derived.Lay
import Derived.ShutString
import Derived.Stop.LaidErr
import Derived.Lib.LaidTab
namespace Go.Proofs.YthfbfbfambbkaaaGreatDoor
open Go.ChangeShapes Go.WideShapes Go.ChangeAt Go.RowKit Go.Joins
open Go.ChangeMaps (open_string shut_string)
namespace V
theorem met_laid (os:Os) (args:Array Value):laidMetH Tryz.prog Rows.modelRisesRow.laid ((World.doorLaid Tryz.prog 24 os).forCall (fun _ _ => 0) ⟨#[],args,[]⟩).memory :=
 laidMetH_of_parts3 (fuel:=8) (laidMet_of_run' 8 (by kernel_rfl) (by kernel_rfl)) (by kernel_rfl) (by kernel_rfl)
theorem gPow : Tryz.prog.globalNamed "internal/strconv.uint64pow10" = some 0 := by kernel_rfl
theorem gPowType:(Tryz.prog.globals[0]?).map (·.type) = some 174:=by kernel_rfl
theorem tab_of {W:World} (h:laidMetH Tryz.prog Rows.modelRisesRow.laid W):Tab W:=by
 rw [MakeChecks.laidMetH_plain _ _ _ (by kernel_rfl)] at h
 have h2 : laidMet Tryz.prog [("internal/strconv.uint64pow10", Lib.tabData .u64 Lib.pow10Tab)] W := laidMet.tail (laidMet.tail h)
 exact Lib.tabIs_of_head gPow gPowType Tryz.underlying174 Tryz.underlying102 (by kernel_rfl) (by kernel_rfl) h2
end V
set_option maxRecDepth 100000 in
theorem modelRises_lifted (os:Os) (started:os.Started) (H:Type) (enc:TypeId × Value→H) :
  ReturnsInHanded {} Tryz.checked os 6 .any (fun w args => (Rows.modelRisesSpec.pre enc Tryz.prog Tryz.f6 [] false w args∧laidMetH Tryz.prog Rows.modelRisesRow.laid w)∧sizedMet enc Tryz.prog Tryz.f6 (OpenSpec.ofChange Rows.modelRisesSpec) false w args)
   (Rows.modelRisesSpec.post enc Tryz.prog Tryz.f6 false true false false):=by
 refine returnsInHanded_of_change_and (C:=Tryz.checked) (X:=fun w _ => laidMetH Tryz.prog Rows.modelRisesRow.laid w) (fun _ _ _ hh h => h.of_heap hh) own started (by kernel_rfl) Tryz.func6
  (ChangeSpec.witness_shaped (enc:=enc) (C:=Tryz.checked) (os:=os) (X:=fun w _ => laidMetH Tryz.prog Rows.modelRisesRow.laid w) false (World.doorLaid Tryz.prog 24 os) #[.agg #[.string ⟨#[]⟩,.int .u8 0,.slice none 0 0,.slice none 0 0],.agg #[.bool false,.slice none 0 0,.bool false,.slice none 0 0],.agg #[.bool false,.slice none 0 0,.bool false,.slice none 0 0]] 8 rfl (World.shaped_of_RefB (by kernel_rfl) (by kernel_rfl)) (by kernel_rfl) (by kernel_rfl) (by kernel_rfl) (V.met_laid os _)) ?_
 intro W base args ds gs before hval0 hW _ hsz0 hLaid _
 have hval:∀ (j:Nat) t v,Tryz.f6.params[j]? = some t→args[j]? = some v→Value.okWide Tryz.prog W .any base t v:=hval0
 have hsz:(DataW.weightsEach Tryz.prog (Tryz.f6.params.toList ++ Rows.modelRisesSpec.plain.varTypes Tryz.prog) (ds ++ gs)).all (·≤reachBytes) = true:=hsz0
 have hW':=hW
 obtain ⟨p,q,hA0,hV,rfl,hfz,hnd⟩:=hW
 have hA:DataW.TrodAll enc Tryz.prog W 0 (fun _ => true) true Tryz.f6.params.toList args.toList ds p:=hA0
 rw [Tryz.params6] at hA hval hsz
 obtain ⟨v0,v1,v2,d0,d1,d2,p0,p1,p2,rfl,rfl,rfl,h0,h1,h2⟩:=trodAll_three hA
 obtain ⟨rfl,rfl⟩:=trodVars_none hV
 have lt0:∀ x ∈ p0,x.block < W.heap.size:=by obtain ⟨m,hm⟩:=h0; exact DataW.trod_lt m _ _ _ hm
 have lt1:∀ x ∈ p1,x.block < W.heap.size:=by obtain ⟨m,hm⟩:=h1; exact DataW.trod_lt m _ _ _ hm
 have lt2:∀ x ∈ p2,x.block < W.heap.size:=by obtain ⟨m,hm⟩:=h2; exact DataW.trod_lt m _ _ _ hm
 obtain ⟨s0,k0,a0,b0,n0,c0,m0,d0,gs0,vs0,rfl,hs0,hg0,hv0⟩:=V.open_Model (hval 0 24 v0 rfl rfl) h0
 obtain ⟨zn0,zm0⟩:=V.model_sized h0 (fun x hx => by
  have:=List.all_eq_true.1 hsz x (DataW.weights_mem_each (j:=0) (t:=24) rfl rfl x hx)
  simpa using this)
 obtain ⟨g1,e1,i1,j1,x1,h1',f1,l1,o1,y1,rfl,sx1,lx1,sy1,ly1⟩:=open_Rat (hval 1 29 v1 rfl rfl) h1
 obtain ⟨zi1,zl1⟩:=V.rat_sized h1 (fun x hx => by
  have:=List.all_eq_true.1 hsz x (DataW.weights_mem_each (j:=1) (t:=29) rfl rfl x hx)
  simpa using this)
 obtain ⟨g2,e2,i2,j2,x2,h2',f2,l2,o2,y2,rfl,sx2,lx2,sy2,ly2⟩:=open_Rat (hval 2 29 v2 rfl rfl) h2
 obtain ⟨zi2,zl2⟩:=V.rat_sized h2 (fun x hx => by
  have:=List.all_eq_true.1 hsz x (DataW.weights_mem_each (j:=2) (t:=29) rfl rfl x hx)
  simpa using this)
 clear hA0 hval0 hsz0 hsz
 refine (V.riseM_any s0 k0 a0 b0 n0 c0 m0 d0 gs0 vs0 g1 h1' e1 f1 i1 j1 l1 o1 x1 y1 g2 h2' e2 f2 i2 j2 l2 o2 x2 y2 W (V.tab_of hLaid) hs0 hg0 hv0 (by omega) (by omega) sx1 sy1 lx1 ly1 (by omega) (by omega) sx2 sy2 lx2 ly2 (by omega) (by omega)).mono fun e W' ⟨bel,he⟩ => ?_
 subst he
 exact ⟨_,rfl,_,_,_,[],_,[],hW',trodAll_mk1 (shut_bool Tryz.underlying4 _),trodAll_mk3 (Below.trod laidOut (by kernel_rfl) (of_decide_eq_true (by kernel_rfl)) h0 bel lt0) (Below.trod laidOut (by kernel_rfl) (of_decide_eq_true (by kernel_rfl)) h1 bel lt1) (Below.trod laidOut (by kernel_rfl) (of_decide_eq_true (by kernel_rfl)) h2 bel lt2),rfl,bel.frame _,fun h => by cases h⟩
theorem modelRises_holds:Rows.ModelRisesSaid :=
 OpenClaim.holds_of_wide 6 Tryz.f6 rfl rfl rfl rfl rfl rfl rfl ⟨rfl,rfl,rfl,rfl,rfl⟩ rfl rfl rfl rfl rfl (by kernel_rfl) Tryz.func6 (by kernel_rfl)
  (of_decide_eq_true (by kernel_rfl)) (by unfold Func.isWrapper; first | (rw [if_pos (by decide +kernel)]; kernel_rfl) | (rw [if_neg (by decide +kernel)]; exact ⟨rfl,rfl⟩))
  (fun os started H enc _ => modelRises_lifted os started H enc)
theorem modelRises_card:Rows.ModelRisesCardSaid :=
 Claim7.holds_tied_plain_at .later [] [.data,.data,.data] true Rows.modelRisesCard.stood.harness false
  modelRises_holds (fun _ h => by cases h) (by kernel_rfl) (fun _ h => by cases h) modelRises_row_tie rfl ⟨rfl,rfl⟩ (by kernel_rfl) rfl
  (fun f fn hf hfn => by
   obtain rfl:f = 6:=Option.some.inj ((show Tryz.prog.funcNamed Rows.modelRisesRow.func = some 6 by kernel_rfl).symm.trans hf) |>.symm
   obtain rfl:fn = Tryz.f6:=(Option.some.inj (Tryz.func6.symm.trans hfn)).symm
   exact ⟨by kernel_rfl,fun j t ht => by
    rw [Tryz.params6] at ht
    have hm:t ∈ [24,29,29]:=by simpa using Array.mem_of_getElem? ht
    have hall:([24,29,29].all fun u => !Tryz.prog.wantsStandIn u) = true:=by kernel_rfl
    exact (show Tryz.prog.wantsStandIn t = false by simpa using List.all_eq_true.1 hall t hm)⟩)
  (by kernel_rfl)
#print axioms modelRises_card
end Go.Proofs.YthfbfbfambbkaaaGreatDoor
