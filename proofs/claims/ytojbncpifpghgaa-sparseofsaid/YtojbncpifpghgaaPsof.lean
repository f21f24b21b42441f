/- PROVED: for every system s (right or not) the function SparseOf of package shuntlaw13 answers true, and its argument reads behind the call as before it. Conditions: those of the given row alone. -/
import Derived.Test.YtojbncpifpghgaaSz7
import Derived.Test.YtojbncpifpghgaaSz8
namespace Go.Proofs.Ytojbncpifpghgaa
open Go.ChangeShapes Go.WideShapes Go.ChangeAt Go.RowKit Go.Joins
set_option maxRecDepth 100000 in
theorem sparseOf_lifted (os:Os) (started:os.Started) (H:Type) (enc:TypeId × Value→H) :
  ReturnsInHanded {} Try.checked os 3 .any (Rows.sparseOfSpec.pre6 enc Try.prog Try.f3 Rows.sparseOfRow.domain false) (Rows.sparseOfSpec.post enc Try.prog Try.f3 false true false false):=by
 refine returnsInHanded_of_change_sized (C:=Try.checked) own started (by kernel_rfl) Try.func3
  (ChangeSpec.witness6 (enc:=enc) (C:=Try.checked) false ⟨#[],#[.agg #[.slice none 0 0]],[]⟩ 8 (by kernel_rfl) (by kernel_rfl) (by kernel_rfl) (by kernel_rfl)) ?_
 intro W base args ds gs before hval0 hW _ hsz0 _
 have hval:∀ (j:Nat) t v,Try.f3.params[j]? = some t→args[j]? = some v→Value.okWide Try.prog W .any base t v:=hval0
 have hsz:(DataW.weightsEach Try.prog (Try.f3.params.toList ++ Rows.sparseOfSpec.plain.varTypes Try.prog) (ds ++ gs)).all (·≤reachBytes) = true:=hsz0
 have hW':=hW
 obtain ⟨p,q,hA0,hV,rfl,hfz,hnd⟩:=hW
 have hA:DataW.TrodAll enc Try.prog W 0 (fun _ => true) true Try.f3.params.toList args.toList ds p:=hA0
 rw [Try.params3] at hA hval hsz
 obtain ⟨v0,d0,rfl,rfl,h0⟩:=trodAll_one hA
 obtain ⟨rfl,rfl⟩:=trodVars_none hV
 have lt0:∀ x ∈ p,x.block < W.heap.size:=by obtain ⟨m,hm⟩:=h0; exact DataW.trod_lt m _ _ _ hm
 obtain ⟨ao,n,c,rs,rfl,hl,hr,hq⟩:=Sy.open_System (hval 0 24 v0 rfl rfl) h0 (fun x hx => by
  have:=List.all_eq_true.1 hsz x (DataW.weights_mem_each (j:=0) (t:=24) rfl rfl x hx)
  simpa using this)
 clear hA0 hval0 hsz0 hsz
 refine (Sy.of13_any ao n c rs W hr hl hq).mono fun e W' ⟨bel,he⟩ => ?_
 subst he
 exact ⟨_,rfl,_,_,_,[],_,[],hW',trodAll_mk1 (shut_bool Try.underlying4 _),(trodAll_mk1 (Below.trod laidOut (by kernel_rfl) (of_decide_eq_true (by kernel_rfl)) h0 bel lt0)),rfl,bel.frame _,fun h => by cases h⟩
theorem sparseOf_said:Rows.SparseOfSaid :=
 OpenClaim.holds_of_wide 3 Try.f3 rfl rfl rfl rfl rfl rfl rfl ⟨rfl,rfl,rfl,rfl,rfl⟩ rfl rfl rfl rfl rfl (by kernel_rfl) Try.func3 (by kernel_rfl)
  (of_decide_eq_true (by kernel_rfl)) (by unfold Func.isWrapper; first | (rw [if_pos (by decide +kernel)]; kernel_rfl) | (rw [if_neg (by decide +kernel)]; exact ⟨rfl,rfl⟩))
  (fun os started H enc _ => sparseOf_lifted os started H enc)
#print axioms sparseOf_said
end Go.Proofs.Ytojbncpifpghgaa
