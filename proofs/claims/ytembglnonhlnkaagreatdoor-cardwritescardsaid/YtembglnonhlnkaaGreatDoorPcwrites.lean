/- PROVED: for every card c and every text s the function CardWrites of package shuntlaw07 answers true, and its arguments read behind the call as before it. Conditions: those of the given row alone (the variables that it lists hold what the program's text lays; the card ties them). -/
import Derived.Test.YtembglnonhlnkaaGreatDoorGba
import Derived.Test.YtembglnonhlnkaaGreatDoorGbg
import Derived.Test.YtembglnonhlnkaaGreatDoorGbi
namespace Go.Proofs.YtembglnonhlnkaaGreatDoor
open Go.ChangeShapes Go.WideShapes Go.ChangeAt Go.RowKit Go.Joins
open Go.ChangeMaps (open_string shut_string)
namespace Q
set_option maxRecDepth 100000 in
theorem cardWrites_lifted (os:Os) (started:os.Started) (H:Type) (enc:TypeId × Value→H) :
  ReturnsInHanded {} Tryz.checked os 5 .any (fun w args => (Rows.cardWritesSpec.pre enc Tryz.prog Tryz.f5 [] false w args∧laidMetH Tryz.prog Rows.cardWritesRow.laid w)∧sizedMet enc Tryz.prog Tryz.f5 (OpenSpec.ofChange Rows.cardWritesSpec) false w args)
   (Rows.cardWritesSpec.post enc Tryz.prog Tryz.f5 false true false false):=by
 refine returnsInHanded_of_change_and (C:=Tryz.checked) (X:=fun w _ => laidMetH Tryz.prog Rows.cardWritesRow.laid w) (fun _ _ _ hh h => h.of_heap hh) own started (by kernel_rfl) Tryz.func5
  (ChangeSpec.witness_shaped (enc:=enc) (C:=Tryz.checked) (os:=os) (X:=fun w _ => laidMetH Tryz.prog Rows.cardWritesRow.laid w) false (World.laidAll Tryz.prog os laidL) #[.agg #[.string ⟨#[]⟩,.slice none 0 0,.string ⟨#[]⟩,.int .i64 0,.int .i64 0,.int .i64 0,.slice none 0 0,.slice none 0 0],.string ⟨#[]⟩] 8 (World.laidAll_os _ _ _) (World.shaped_of_ZipB (by kernel_rfl) (by kernel_rfl)) (by kernel_rfl) (by kernel_rfl) (by kernel_rfl) (met_laid os _)) ?_
 intro W base args ds gs before hval0 hW _ hsz0 hLaid _
 have hval:∀ (j:Nat) t v,Tryz.f5.params[j]? = some t→args[j]? = some v→Value.okWide Tryz.prog W .any base t v:=hval0
 have hsz:(DataW.weightsEach Tryz.prog (Tryz.f5.params.toList ++ Rows.cardWritesSpec.plain.varTypes Tryz.prog) (ds ++ gs)).all (·≤reachBytes) = true:=hsz0
 have hW':=hW
 obtain ⟨p,q,hA0,hV,rfl,hfz,hnd⟩:=hW
 have hA:DataW.TrodAll enc Tryz.prog W 0 (fun _ => true) true Tryz.f5.params.toList args.toList ds p:=hA0
 rw [Tryz.params5] at hA hval hsz
 obtain ⟨v0,v1,d0,d1,p0,p1,rfl,rfl,rfl,h0,h1⟩:=trodAll_two hA
 obtain ⟨rfl,rfl⟩:=trodVars_none hV
 have lt0:∀ x ∈ p0,x.block < W.heap.size:=by obtain ⟨m,hm⟩:=h0; exact DataW.trod_lt m _ _ _ hm
 obtain ⟨a0,b0,c0,n0,k0,m0,l0,o0,q0,cd0,rfl,hc0,hk0,hkm0,hs0,hr0,hd0,hz0,hy0,hx0⟩:=V.open_Card (hval 0 32 v0 rfl rfl) h0 (fun x hx => by
  have:=List.all_eq_true.1 hsz x (DataW.weights_mem_each (j:=0) (t:=32) rfl rfl x hx)
  simpa using this)
 obtain ⟨s1,rfl,rfl,rfl,hs1⟩:=open_string Tryz.underlying9 (hval 1 9 v1 rfl rfl) h1
 clear hA0 hval0 hsz0 hsz
 refine (V.writes7_any a0 b0 c0 n0 k0 m0 l0 o0 q0 cd0 s1 W (lay_of hLaid).lett (lay_of hLaid).err (lay_of hLaid).tab hc0 hs0 hr0 hd0 hz0 (by omega) (by omega) hs1).mono fun e W' ⟨bel,he⟩ => ?_
 subst he
 exact ⟨_,rfl,_,_,_,[],_,[],hW',trodAll_mk1 (shut_bool Tryz.underlying4 _),trodAll_mk2 (Below.trod laidOut (by kernel_rfl) (of_decide_eq_true (by kernel_rfl)) h0 bel lt0) (shut_string Tryz.underlying9 hs1),rfl,bel.frame _,fun h => by cases h⟩
theorem cardWrites_holds:Rows.CardWritesSaid :=
 OpenClaim.holds_of_wide 5 Tryz.f5 rfl rfl rfl rfl rfl rfl rfl ⟨rfl,rfl,rfl,rfl,rfl⟩ rfl rfl rfl rfl rfl (by kernel_rfl) Tryz.func5 (by kernel_rfl)
  (of_decide_eq_true (by kernel_rfl)) (by unfold Func.isWrapper; first | (rw [if_pos (by decide +kernel)]; kernel_rfl) | (rw [if_neg (by decide +kernel)]; exact ⟨rfl,rfl⟩))
  (fun os started H enc _ => cardWrites_lifted os started H enc)
end Q
theorem cardWrites_card:Rows.CardWritesCardSaid :=
 Claim7.holds_tied_plain_at .later [] [.data,.data,.data,.data,.sentinel,.sentinel,.data,.pinned] true Rows.cardWritesCard.stood.harness true
  Q.cardWrites_holds (fun _ h => by cases h) (by kernel_rfl) (fun _ h => by cases h) cardWrites_row_tie rfl ⟨rfl,rfl⟩ (by kernel_rfl) rfl
  (fun f fn hf hfn => by
   obtain rfl:f = 5:=Option.some.inj ((show Tryz.prog.funcNamed Rows.cardWritesRow.func = some 5 by kernel_rfl).symm.trans hf) |>.symm
   obtain rfl:fn = Tryz.f5:=(Option.some.inj (Tryz.func5.symm.trans hfn)).symm
   exact ⟨by kernel_rfl,fun j t ht => by
    rw [Tryz.params5] at ht
    have hm:t ∈ [32,9]:=by simpa using Array.mem_of_getElem? ht
    have hall:([32,9].all fun u => !Tryz.prog.wantsStandIn u) = true:=by kernel_rfl
    exact (show Tryz.prog.wantsStandIn t = false by simpa using List.all_eq_true.1 hall t hm)⟩)
  (by kernel_rfl)
#print axioms cardWrites_card
end Go.Proofs.YtembglnonhlnkaaGreatDoor
