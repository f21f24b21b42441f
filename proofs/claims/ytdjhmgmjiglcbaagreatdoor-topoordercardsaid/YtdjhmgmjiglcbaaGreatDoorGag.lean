/- Lemmas. -/
import Derived.Test.YtdjhmgmjiglcbaaGreatDoorGaa
import Derived.Deep.AppendLies
import Derived.Deep.RegionHeld3
import Derived.Deep.MidRow
namespace Go.Proofs.YtdjhmgmjiglcbaaGreatDoor
section
variable {P:Program} {md:Region.Mode} {ops:Array Oper} {Q:Exit->Act->World->Prop} {S:World->Prop} {oi:Oper} {v:Value} {fuel d:Nat} {listed:Array Bool} {l l':List Value} {w:World}
theorem wk (i:Nat){a:Act}(hS:S w)(h:wpAnyH P md ops Q S fuel (listed.setIfInBounds i true) (a.put oi.dst v) w)(hi:ops[i]?=some oi:=by rfl)(hs:Region.noSelect ops=true:=by kernel_rfl)(hf:Region.free md ops listed i=true:=by kernel_rfl)(hr:(Region.ready md ops listed).contains i=true:=by kernel_rfl)
  (hQ:∀c a w,Q (.panic c) (a.put oi.dst v) w->Q (.panic c) a w:=by exact fun _ _ _ h=>h) (hw:Region.wanted oi (yielded ops a.tmps)=true:=by rfl) (hy:∀w,S w->(execOp a.eval oi).run P w=.ok (.value v) w:=by intro _ h;go_split_ands;go_simp;with_reducible rfl):wpAnyH P md ops Q S (fuel+1) listed a w :=
 wpAnyH_take hi hs hf hr hQ (Or.inl ⟨hw,hy⟩) hS h
theorem tk (i:Nat){df}(hS:S w)(h:wpAnyH P md ops Q S fuel (listed.setIfInBounds i true) ⟨l'.toArray,df⟩ w)(hi:ops[i]?=some oi:=by rfl)(hd:oi.dst=some d:=by rfl)(hs:Region.noSelect ops=true:=by kernel_rfl)(hf:Region.free md ops listed i=true:=by kernel_rfl)(hr:(Region.ready md ops listed).contains i=true:=by kernel_rfl)
  (hQ:∀c a w,Q (.panic c) (a.put oi.dst v) w->Q (.panic c) a w:=by exact fun _ _ _ h=>h) (hw:Region.wanted oi (yielded ops l.toArray)=true:=by kernel_rfl) (hy:∀w,S w->(execOp (Act.mk l.toArray df).eval oi).run P w=.ok (.value v) w:=by intro _ h;go_split_ands;go_simp;with_reducible rfl) (hl:l.set d v=l':=by simp only[List.set_cons_zero,List.set_cons_succ];rfl):wpAnyH P md ops Q S (fuel+1) listed ⟨l.toArray,df⟩ w:=by
 subst hl
 refine wpAnyH_take hi hs hf hr hQ (Or.inl ⟨hw,hy⟩) hS ?_
 rw[hd]
 simpa[Act.put]using h
theorem sk (i:Nat){df}(hS:S w)(h:wpAnyH P md ops Q S fuel (listed.setIfInBounds i true) ⟨l'.toArray,df⟩ w)(hi:ops[i]?=some oi:=by rfl)(hd:oi.dst=some d:=by rfl)(hs:Region.noSelect ops=true:=by kernel_rfl)(hf:Region.free md ops listed i=true:=by kernel_rfl)(hr:(Region.ready md ops listed).contains i=true:=by kernel_rfl)
  (hQ:∀c a w,Q (.panic c) (a.put oi.dst undef) w->Q (.panic c) a w:=by exact fun _ _ _ h=>h) (hw:Region.wanted oi (yielded ops l.toArray)=false:=by kernel_rfl) (hl:l.set d undef=l':=by simp only[List.set_cons_zero,List.set_cons_succ];rfl):wpAnyH P md ops Q S (fuel+1) listed ⟨l.toArray,df⟩ w:=by
 subst hl
 refine wpAnyH_take hi hs hf hr hQ (Or.inr ⟨hw,rfl⟩) hS ?_
 rw[hd]
 simpa[Act.put]using h
theorem rdy (i:Nat){o:Oper}{a:Act}(h:∀K':Act->World->Prop,Shut (∀a w,S w->(S w->wpAnyH P md ops Q S fuel (listed.setIfInBounds i true) a w)->K' a w)->Oper.wp P o a w K' Q)(hr:Region.ready md ops listed=[i]:=by kernel_rfl)(ho:ops[i]?=some o:=by rfl)(hw:Region.wanted o (yielded ops a.tmps)=true:=by kernel_rfl):wpAnyH P md ops Q S (fuel+1) listed a w :=
 wpAnyH_ready hr (by simp) (AllReadyH.cons ho (fun K hK=>by rw[if_pos hw];exact h K hK) AllReadyH.nil)
theorem dn {a:Act}(h:Q .normal a w)(hr:Region.ready md ops listed=[]:=by kernel_rfl):wpAnyH P md ops Q S fuel listed a w:=wpAnyH_done hr h fuel
end
end Go.Proofs.YtdjhmgmjiglcbaaGreatDoor
namespace Go.Proofs.YtdjhmgmjiglcbaaGreatDoor
open Go.RowKit
namespace X
section
variable {P:Program} {ops:Array Oper} {Q:Exit->Act->World->Prop} {md:Region.Mode} {S:World->Prop} {z:Nat}
def anyZ (P:Program)(md:Region.Mode)(ops:Array Oper)(Q:Exit->Act->World->Prop)(S:World->Prop)(z:Nat):Nat->Array Bool->Act->World->Prop
 |0,ls,a,w=>Region.ready md ops ls=[]/\Q .normal a w
 |f+1,ls,a,w=>(Region.ready md ops ls=[]->Q .normal a w)/\∀i∈Region.ready md ops ls,wpOp P ops Q i (fun a' w'=>(i≠z->S w')/\anyZ P md ops Q S z f (ls.setIfInBounds i true) a' w') a w
theorem any_of_z:∀(f:Nat) (ls:Array Bool)(a:Act)(w:World),anyZ P md ops Q S z f ls a w->wpAny P md ops Q f ls a w
 |0,_,_,_,h=>h
 |f+1,_,_,_,h=>⟨h.1,fun i hi=>wpOp_mono (fun a' w' h'=>any_of_z f _ a' w' h'.2) (h.2 i hi)⟩
def zwait (md:Region.Mode)(ops:Array Oper)(z i:Nat):Bool :=
 match ops[z]? with
 |some o=>o.after.any (fun e=>Region.binds md e&&e.on == i)
 |none=>false
theorem not_listed {i:Nat}{ls:Array Bool}(h:ls.getD i true=false):ls.getD i false=false:=by
 rcases Nat.lt_or_ge i ls.size with h'|h'
 ·simp[h']at h ⊢;exact h
 ·simp[Array.getElem?_eq_none h']at h
theorem zwait_not {i:Nat}{ls:Array Bool}(h:zwait md ops z i=true)(hun:ls.getD i true=false):¬z∈Region.ready md ops ls:=by
 intro hz
 obtain⟨_,o,ho,hall⟩:=mem_ready.1 hz
 simp only[zwait,ho]at h
 obtain⟨e,he,hb⟩:=Array.any_eq_true'.1 h
 simp only[Bool.and_eq_true,beq_iff_eq]at hb
 have:=hall e he hb.1
 rw[hb.2,not_listed hun]at this
 cases this
theorem anyZ_first {i:Nat}{oi:Oper}{v:Value}(hi:ops[i]?=some oi)(hs:Region.noSelect ops=true)(hw:zwait md ops z i=true)
  (hQ:∀c a w,Q (.panic c) (a.put oi.dst v) w->Q (.panic c) a w):∀(f:Nat) (ls:Array Bool) (a:Act) (w:World),
   (∀j oj,ops[j]?=some oj->j≠i->ls.getD j true=false->(∀e∈oj.after,Region.binds md e=true->e.on≠i)->oi.apart ops oj=true) ->
   i∈Region.ready md ops ls->YieldsIf P ops S oi v a->S w ->
   anyZ P md ops Q S z f (ls.setIfInBounds i true) (a.put oi.dst v) w->anyZ P md ops Q S z (f+1) ls a w:=by
 intro f
 induction f with
 |zero=>
  intro ls a w _ hr hy hS H
  refine⟨fun h=>absurd hr (by rw[h];simp),fun j hj=>?_⟩
  by_cases hji:j=i
  ·subst hji
   exact hy.wpOp hi hS ⟨fun _=>hS,H⟩
  ·exact absurd (ready_mono hj hji) (by rw[H.1];simp)
 |succ f ih=>
  intro ls a w hfree hr hy hS H
  have hun:=(mem_ready.1 hr).1
  refine⟨fun h=>absurd hr (by rw[h];simp),fun j hj=>?_⟩
  by_cases hji:j=i
  ·subst hji
   exact hy.wpOp hi hS ⟨fun _=>hS,H⟩
  have hjz:j≠z:=fun e=>zwait_not hw hun (e ▸ hj)
  obtain⟨hjun,oj,hoj,hall⟩:=mem_ready.1 hj
  have hap:=hfree j oj hoj hji hjun (fun e he hb heq=>by
   have h1:=hall e he hb
   rw[heq,not_listed hun]at h1
   cases h1)
  refine wpOp_mono (fun a' w' h3=>⟨fun _=>h3.2.1 hjz,ih _ a' w' (fun k ok hk hki hku hno=>hfree k ok hk hki ?_ hno) (ready_mono hr (Ne.symm hji)) h3.1 (h3.2.1 hjz) ?_⟩) (wpOp_putIf hoj hap (fun cs b=>Region.noSelect_spec hs i oi cs b hi) (fun cs b=>Region.noSelect_spec hs j oj cs b hoj) hQ hy (H.2 j (ready_mono hj hji)))
  ·by_cases hjk:j=k
   ·subst hjk;exact hjun
   ·rw[getD_set_ne true hjk]at hku;exact hku
  ·rw[Array.setIfInBounds_comm _ _ hji]
   exact h3.2.2
theorem anyZ_take {i:Nat}{oi:Oper}{v:Value}{f:Nat}{ls:Array Bool}{a:Act}{w:World}(hi:ops[i]?=some oi)
  (hs:Region.noSelect ops=true) (hf:Region.free md ops ls i=true) (hr:(Region.ready md ops ls).contains i=true) (hw:zwait md ops z i=true)
  (hQ:∀c a w,Q (.panic c) (a.put oi.dst v) w->Q (.panic c) a w) (hy:YieldsIf P ops S oi v a) (hS:S w)
  (h:anyZ P md ops Q S z f (ls.setIfInBounds i true) (a.put oi.dst v) w):anyZ P md ops Q S z (f+1) ls a w :=
 anyZ_first hi hs hw hQ f ls a w (Region.free_spec hi hf) (by simpa using hr) hy hS h
def AllZ (P:Program)(md:Region.Mode)(ops:Array Oper)(Q:Exit->Act->World->Prop)(S:World->Prop)(z f:Nat)(ls:Array Bool)(a:Act)(w:World)(rs:List Nat):Prop :=
 ∀i∈rs,wpOp P ops Q i (fun a' w'=>(i≠z->S w')/\anyZ P md ops Q S z f (ls.setIfInBounds i true) a' w') a w
theorem AllZ.nil {f:Nat}{ls:Array Bool}{a:Act}{w:World}:AllZ P md ops Q S z f ls a w []:=fun _ h=>by cases h
theorem AllZ.cons {f:Nat}{ls:Array Bool}{a:Act}{w:World}{i:Nat}{o:Oper}{rs:List Nat}(ho:ops[i]?=some o)
  (h:∀K':Act->World->Prop,Shut (∀a w,S w->(S w->anyZ P md ops Q S z f (ls.setIfInBounds i true) a w)->K' a w)->if Region.wanted o (yielded ops a.tmps)=true then Oper.wp P o a w K' Q else K' (a.put o.dst undef) w)
  (hs:AllZ P md ops Q S z f ls a w rs):AllZ P md ops Q S z f ls a w (i::rs):=fun j hj=>by
 rcases List.mem_cons.1 hj with rfl|hj
 ·exact wpOp_step ho (fun K' hK=>h K' (fun a w hS hW=>hK a w ⟨fun _=>hS,hW hS⟩))
 ·exact hs j hj
theorem AllZ.last {f:Nat}{ls:Array Bool}{a:Act}{w:World}{o:Oper}(ho:ops[z]?=some o)
  (h:∀K':Act->World->Prop,Shut (∀a w,anyZ P md ops Q S z f (ls.setIfInBounds z true) a w->K' a w)->if Region.wanted o (yielded ops a.tmps)=true then Oper.wp P o a w K' Q else K' (a.put o.dst undef) w) :
  AllZ P md ops Q S z f ls a w [z]:=fun j hj=>by
 rw[List.mem_singleton]at hj
 subst hj
 exact wpOp_step ho (fun K' hK=>h K' (fun a w hW=>hK a w ⟨fun e=>absurd rfl e,hW⟩))
theorem anyZ_ready {rs:List Nat}{f:Nat}{ls:Array Bool}{a:Act}{w:World}(hr:Region.ready md ops ls=rs)(hne:rs≠[])(h:AllZ P md ops Q S z f ls a w rs):anyZ P md ops Q S z (f+1) ls a w :=
 ⟨fun h0=>absurd (hr ▸ h0) hne,hr ▸ h⟩
theorem anyZ_done {ls:Array Bool}{a:Act}{w:World}(hr:Region.ready md ops ls=[])(h:Q .normal a w):∀f,anyZ P md ops Q S z f ls a w
 |0=>⟨hr,h⟩
 |_+1=>⟨fun _=>h,by rw[hr];simp⟩
theorem region_z (z:Nat){id:Nat}{a:Act}{w:World}(hm:P.follows .mixedOrders=true)(hS:S w.drew)
  (h:S w.drew->anyZ P .any ops Q S z ops.size (Array.replicate ops.size false) a w.drew):(Code.region id ops true).wp P Q a w :=
 wp_region_any hm (any_of_z _ _ _ _ (h hS))
theorem wp_app {w:World}{o:Oper}{a:Act}{K:Act->World->Prop}(s x:Operand)(t:TypeId)
  (ho:o.op=.call { callee:=.builtin .append,args:=#[s,x],argTypes:=#[t,t] })
  (base:Nat) (e:TypeId) (i:TypeInfo) (zv:Value) (size bytes:Nat) (ht:P.underlying t=some (.slice e)) (hi:P.info? e=some i) (hz:i.zero=some zv)
  (hsize:i.size=size) (hby:i.bytes=bytes) (hzs:zv.cells.size=size) (hsz:0<size)
  (g0 n c0:Nat) (xs:List Value) (hs:a.eval s=.slice (some ⟨g0,0,none⟩) n c0) (hown:w.ownsRow base e size (.slice (some ⟨g0,0,none⟩) n c0) n xs) (hc:n<=c0)
  (ao:Option Addr) (m c:Nat) (news:List Value) (hx:a.eval x=.slice ao m c) (hl:news.length=m*size) (hnews:0<m->∃ad,ao=some ad/\∀j u,news[j]?=some u->w.cell? (ad.add j)=some u) (h1:∀u∈news,u.oneCell'=true)
  (h63:n+m<=maxLen) (hbytes:(n+m)*bytes<=140737488355328) (hbase:base<=w.heap.size)
  (h:∀g cap w',w'.ownsRow base e size (.slice (some ⟨g,0,none⟩) (n+m) cap) (n+m) (xs++news)->w.grownBy w' (some g0)->(g0=g∨g=w.heap.size)->K (a.put o.dst (.slice (some ⟨g,0,none⟩) (n+m) cap)) w') :
  Oper.wp P o a w K Q:=by
 by_cases hm:0<m
 ·obtain⟨ad,rfl,hn⟩:=hnews hm
  exact wp_append_lies w s x t ho base e i zv size bytes ht hi hz hsize hby hzs hsz _ n xs hs hown ad m c news hx hl hn h1 hm h63 hbytes hbase _ rfl (fun g cap w' h2 h3 h4 _=>h g cap w' h2 h3 (by simpa[Value.ownBlock]using h4))
 ·obtain rfl:m=0:=by omega
  have hn0:news=[]:=List.eq_nil_of_length_eq_zero (by simpa using hl)
  subst hn0
  have hr:(Builtin.append_ #[t,t] o.type #[.slice (some ⟨g0,0,none⟩) n c0,.slice ao 0 c]).run P w=.ok (.slice (some ⟨g0,0,none⟩) n c0) w:=by
   cases ao <;> simp[Builtin.append_,run_underlying ht,sizeOf,typeInfo,hi,Builtin.lenOf,Builtin.firstCells,loadCells,loadCellsFrom,storeCells,hc]
  unfold Oper.wp execOp
  simp only[ho,resolve,invoke,builtin,Sem.run_bind,Sem.run_pure,Result.andThen_ok,List.map_toArray,List.map_cons,List.map_nil,hs,hx,hr]
  exact h g0 c0 w (by simpa using hown) ⟨rfl,rfl,rfl,Nat.le_refl _,fun _ _ _=>rfl⟩ (.inl rfl)
theorem list_app {w:World}{rest:List Oper}{o:Oper}{a:Act}(hgd:o.guard=none)(s x:Operand)(t:TypeId)
  (ho:o.op=.call { callee:=.builtin .append,args:=#[s,x],argTypes:=#[t,t] })
  (base:Nat) (e:TypeId) (i:TypeInfo) (zv:Value) (size bytes:Nat) (ht:P.underlying t=some (.slice e)) (hi:P.info? e=some i) (hz:i.zero=some zv)
  (hsize:i.size=size) (hby:i.bytes=bytes) (hzs:zv.cells.size=size) (hsz:0<size)
  (g0 n c0:Nat) (xs:List Value) (hs:a.eval s=.slice (some ⟨g0,0,none⟩) n c0) (hown:w.ownsRow base e size (.slice (some ⟨g0,0,none⟩) n c0) n xs) (hc:n<=c0)
  (ao:Option Addr) (m c:Nat) (news:List Value) (hx:a.eval x=.slice ao m c) (hl:news.length=m*size) (hnews:0<m->∃ad,ao=some ad/\∀j u,news[j]?=some u->w.cell? (ad.add j)=some u) (h1:∀u∈news,u.oneCell'=true)
  (h63:n+m<=maxLen) (hbytes:(n+m)*bytes<=140737488355328) (hbase:base<=w.heap.size)
  (h:∀g cap w',w'.ownsRow base e size (.slice (some ⟨g,0,none⟩) (n+m) cap) (n+m) (xs++news)->w.grownBy w' (some g0)->(g0=g∨g=w.heap.size)->wpList P ops Q rest (a.put o.dst (.slice (some ⟨g,0,none⟩) (n+m) cap)) w') :
  wpList P ops Q (o::rest) a w :=
 wpList_plain hgd fun _ hK=>wp_app s x t ho base e i zv size bytes ht hi hz hsize hby hzs hsz g0 n c0 xs hs hown hc ao m c news hx hl hnews h1 h63 hbytes hbase fun g cap w' h2 h3 h4=>hK _ _ (h g cap w' h2 h3 h4)
end
end X
end Go.Proofs.YtdjhmgmjiglcbaaGreatDoor
namespace Go.Proofs.YtdjhmgmjiglcbaaGreatDoor
open Go.RowKit
namespace X
section
variable {P:Program} {md:Region.Mode} {ops:Array Oper} {Q:Exit->Act->World->Prop} {S:World->Prop} {z:Nat} {oi:Oper} {v:Value} {fuel d:Nat} {listed:Array Bool} {l l':List Value} {w:World}
theorem zk (i:Nat){df}(hS:S w)(h:anyZ P md ops Q S z fuel (listed.setIfInBounds i true) ⟨l'.toArray,df⟩ w)(hi:ops[i]?=some oi:=by rfl)(hd:oi.dst=some d:=by rfl)(hs:Region.noSelect ops=true:=by kernel_rfl)(hf:Region.free md ops listed i=true:=by kernel_rfl)(hr:(Region.ready md ops listed).contains i=true:=by kernel_rfl)(hz:zwait md ops z i=true:=by kernel_rfl)
  (hQ:∀c a w,Q (.panic c) (a.put oi.dst v) w->Q (.panic c) a w:=by exact fun _ _ _ h=>h) (hw:Region.wanted oi (yielded ops l.toArray)=true:=by kernel_rfl) (hy:∀w,S w->(execOp (Act.mk l.toArray df).eval oi).run P w=.ok (.value v) w:=by intro _ h;go_split_ands;go_simp;with_reducible rfl) (hl:l.set d v=l':=by simp only[List.set_cons_zero,List.set_cons_succ];rfl):anyZ P md ops Q S z (fuel+1) listed ⟨l.toArray,df⟩ w:=by
 subst hl
 refine anyZ_take hi hs hf hr hz hQ (Or.inl ⟨hw,hy⟩) hS ?_
 rw[hd]
 simpa[Act.put]using h
theorem zr (i:Nat){o:Oper}{a:Act}(h:∀K':Act->World->Prop,Shut (∀a w,S w->(S w->anyZ P md ops Q S z fuel (listed.setIfInBounds i true) a w)->K' a w)->Oper.wp P o a w K' Q)(hr:Region.ready md ops listed=[i]:=by kernel_rfl)(ho:ops[i]?=some o:=by rfl)(hw:Region.wanted o (yielded ops a.tmps)=true:=by kernel_rfl):anyZ P md ops Q S z (fuel+1) listed a w :=
 anyZ_ready hr (by simp) (AllZ.cons ho (fun K hK=>by rw[if_pos hw];exact h K hK) AllZ.nil)
theorem zl {o:Oper}{a:Act}(h:∀K':Act->World->Prop,Shut (∀a w,anyZ P md ops Q S z fuel (listed.setIfInBounds z true) a w->K' a w)->Oper.wp P o a w K' Q)(hr:Region.ready md ops listed=[z]:=by kernel_rfl)(ho:ops[z]?=some o:=by rfl)(hw:Region.wanted o (yielded ops a.tmps)=true:=by kernel_rfl):anyZ P md ops Q S z (fuel+1) listed a w :=
 anyZ_ready hr (by simp) (AllZ.last ho (fun K hK=>by rw[if_pos hw];exact h K hK))
theorem zd {a:Act}(h:Q .normal a w)(hr:Region.ready md ops listed=[]:=by kernel_rfl):anyZ P md ops Q S z fuel listed a w:=anyZ_done hr h fuel
end
end X
end Go.Proofs.YtdjhmgmjiglcbaaGreatDoor
