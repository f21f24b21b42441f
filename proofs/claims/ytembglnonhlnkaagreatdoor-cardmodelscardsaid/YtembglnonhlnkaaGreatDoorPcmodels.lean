/- PROVED: for every list of texts words and every model m the function CardModels of package shuntlaw07 answers true, and its arguments read behind the call as before it. Conditions: those of the given row alone (the variables that it lists hold what the program's text lays; the card ties them). -/
import Derived.Test.YtembglnonhlnkaaGreatDoorNlaid
import Derived.Test.YtembglnonhlnkaaGreatDoorGbd
import Derived.Test.YtembglnonhlnkaaGreatDoorGbf
namespace Go.Proofs.YtembglnonhlnkaaGreatDoor
open Go.ChangeShapes Go.WideShapes Go.ChangeAt Go.RowKit Go.Joins
open Go.ChangeMaps (open_string shut_string)
namespace Q
set_option maxRecDepth 100000 in
theorem cardModels_lifted (os:Os) (started:os.Started) (H:Type) (enc:TypeId × Value→H) :
  ReturnsInHanded {} Tryz.checked os 4 .any (fun w args => (Rows.cardModelsSpec.pre enc Tryz.prog Tryz.f4 [] false w args∧laidMetH Tryz.prog Rows.cardModelsRow.laid w)∧sizedMet enc Tryz.prog Tryz.f4 (OpenSpec.ofChange Rows.cardModelsSpec) false w args)
   (Rows.cardModelsSpec.post enc Tryz.prog Tryz.f4 false true false false):=by
 refine returnsInHanded_of_change_and (C:=Tryz.checked) (X:=fun w _ => laidMetH Tryz.prog Rows.cardModelsRow.laid w) (fun _ _ _ hh h => h.of_heap hh) own started (by kernel_rfl) Tryz.func4
  (ChangeSpec.witness_shaped (enc:=enc) (C:=Tryz.checked) (os:=os) (X:=fun w _ => laidMetH Tryz.prog Rows.cardModelsRow.laid w) false (World.laidAll Tryz.prog os laidL) #[.slice none 0 0,.agg #[.string ⟨#[]⟩,.int .u8 0,.slice none 0 0,.slice none 0 0]] 8 (World.laidAll_os _ _ _) (World.shaped_of_ZipB (by kernel_rfl) (by kernel_rfl)) (by kernel_rfl) (by kernel_rfl) (by kernel_rfl) (met_laid os _)) ?_
 intro W base args ds gs before hval0 hW _ hsz0 hLaid _
 have hval:∀ (j:Nat) t v,Tryz.f4.params[j]? = some t→args[j]? = some v→Value.okWide Tryz.prog W .any base t v:=hval0
 have hsz:(DataW.weightsEach Tryz.prog (Tryz.f4.params.toList ++ Rows.cardModelsSpec.plain.varTypes Tryz.prog) (ds ++ gs)).all (·≤reachBytes) = true:=hsz0
 have hW':=hW
 obtain ⟨p,q,hA0,hV,rfl,hfz,hnd⟩:=hW
 have hA:DataW.TrodAll enc Tryz.prog W 0 (fun _ => true) true Tryz.f4.params.toList args.toList ds p:=hA0
 rw [Tryz.params4] at hA hval hsz
 obtain ⟨v0,v1,d0,d1,p0,p1,rfl,rfl,rfl,h0,h1⟩:=trodAll_two hA
 obtain ⟨rfl,rfl⟩:=trodVars_none hV
 have lt0:∀ x ∈ p0,x.block < W.heap.size:=by obtain ⟨m,hm⟩:=h0; exact DataW.trod_lt m _ _ _ hm
 have lt1:∀ x ∈ p1,x.block < W.heap.size:=by obtain ⟨m,hm⟩:=h1; exact DataW.trod_lt m _ _ _ hm
 obtain ⟨a0,n0,c0,ws0,rfl,hr0,hc0,hcm0,hw0,hz0⟩:=V.open_Words2 (hval 0 22 v0 rfl rfl) h0 (fun x hx => by
  have:=List.all_eq_true.1 hsz x (DataW.weights_mem_each (j:=0) (t:=22) rfl rfl x hx)
  simpa using this)
 obtain ⟨s1,k1,a1,b1,n1,c1,m1,d1,gs1,vs1,rfl,hs1,hg1,hv1⟩:=V.open_Model (hval 1 43 v1 rfl rfl) h1
 obtain ⟨zn1,zm1⟩:=V.model_sized h1 (fun x hx => by
  have:=List.all_eq_true.1 hsz x (DataW.weights_mem_each (j:=1) (t:=43) rfl rfl x hx)
  simpa using this)
 clear hA0 hval0 hsz0 hsz
 refine (V.models7_any a0 n0 c0 ws0 s1 k1 a1 b1 n1 c1 m1 d1 gs1 vs1 W (lay_of hLaid).lett (lay_of hLaid).err (lay_of hLaid).tab hs1 hg1 hv1 (by omega) (by omega) hr0 hz0 hw0).mono fun e W' ⟨bel,he⟩ => ?_
 subst he
 exact ⟨_,rfl,_,_,_,[],_,[],hW',trodAll_mk1 (shut_bool Tryz.underlying4 _),trodAll_mk2 (Below.trod laidOut (by kernel_rfl) (of_decide_eq_true (by kernel_rfl)) h0 bel lt0) (Below.trod laidOut (by kernel_rfl) (of_decide_eq_true (by kernel_rfl)) h1 bel lt1),rfl,bel.frame _,fun h => by cases h⟩
theorem cardModels_holds:Rows.CardModelsSaid :=
 OpenClaim.holds_of_wide 4 Tryz.f4 rfl rfl rfl rfl rfl rfl rfl ⟨rfl,rfl,rfl,rfl,rfl⟩ rfl rfl rfl rfl rfl (by kernel_rfl) Tryz.func4 (by kernel_rfl)
  (of_decide_eq_true (by kernel_rfl)) (by unfold Func.isWrapper; first | (rw [if_pos (by decide +kernel)]; kernel_rfl) | (rw [if_neg (by decide +kernel)]; exact ⟨rfl,rfl⟩))
  (fun os started H enc _ => cardModels_lifted os started H enc)
end Q
theorem cardModels_card:Rows.CardModelsCardSaid :=
 Claim7.holds_tied_plain_at .later [] [.data,.data,.data,.data,.sentinel,.sentinel,.data,.pinned] true Rows.cardModelsCard.stood.harness true
  Q.cardModels_holds (fun _ h => by cases h) (by kernel_rfl) (fun _ h => by cases h) cardModels_row_tie rfl ⟨rfl,rfl⟩ (by kernel_rfl) rfl
  (fun f fn hf hfn => by
   obtain rfl:f = 4:=Option.some.inj ((show Tryz.prog.funcNamed Rows.cardModelsRow.func = some 4 by kernel_rfl).symm.trans hf) |>.symm
   obtain rfl:fn = Tryz.f4:=(Option.some.inj (Tryz.func4.symm.trans hfn)).symm
   exact ⟨by kernel_rfl,fun j t ht => by
    rw [Tryz.params4] at ht
    have hm:t ∈ [22,43]:=by simpa using Array.mem_of_getElem? ht
    have hall:([22,43].all fun u => !Tryz.prog.wantsStandIn u) = true:=by kernel_rfl
    exact (show Tryz.prog.wantsStandIn t = false by simpa using List.all_eq_true.1 hall t hm)⟩)
  (by kernel_rfl)
#print axioms cardModels_card
end Go.Proofs.YtembglnonhlnkaaGreatDoor
