/- Lemmas. -/
import Derived.Test.YtdjhmgmjiglcbaaGreatDoorGbc
import Derived.Test.YtdjhmgmjiglcbaaGreatDoorVok2
import Derived.Test.YtdjhmgmjiglcbaaGreatDoorGbb
set_option maxRecDepth 100000
set_option maxHeartbeats 40000000
namespace Go.Proofs.YtdjhmgmjiglcbaaGreatDoor
open Go.RowKit
namespace V
open Q (hid' parseOf Lett ErrV)
open X (bs OwnS RS strs bs_list bs_size)
def cdV (c:Cd)(nv xv sv:Value):Value:=.agg #[.string (bs c.name),nv,.string (bs c.ref),.int .i64 c.val.1,.int .i64 c.val.2,.int .i64 c.kind,xv,sv]
def CdNew (B:Nat)(w:World)(v:Value)(c:Cd):Prop:=∃nv xv sv,v=cdV c nv xv sv/\OwnS B w nv c.nodes/\OwnN B w xv c.vals/\OwnI B w sv c.steps
def zeroCd:Value:=.agg #[.string ⟨#[]⟩,.slice none 0 0,.string ⟨#[]⟩,.int .i64 0,.int .i64 0,.int .i64 0,.slice none 0 0,.slice none 0 0]
def readB (ws:List (List UInt8)):Except Int Pt->Except Int Cd
 | .error e=>.error e
 | .ok p=>endC (cardS ws p)
theorem readC_dev {ws:List (List UInt8)}(hh:0<(ws.getD 0 []).length)(hdv:devB (ws.getD 0 [])=true):readC ws=readB ws (partsOf ws (cshape (headC ws) ws)):=by
 unfold readC
 rw[if_neg (by
  rintro (e|e)
  ·rw[e]at hh;exact absurd hh (by decide)
  ·rw[hdv]at e;cases e)]
 cases partsOf ws (cshape (headC ws) ws) <;> rfl
theorem cshape_wave {c:UInt8}(ws:List (List UInt8))(h:waveC c=true):4<=(cshape c ws).length:=by
 have h1:=of_decide_eq_true h
 have:=(wshape_len (ws.drop 3)).1
 unfold cshape
 rw[if_pos (by simpa using h1),List.length_append]
 simp only[List.length_cons,List.length_nil]
 omega
theorem cshape_value {c:UInt8}(ws:List (List UInt8))(h:valueC c=true):0<(cshape c ws).count 120:=by
 have h1:=of_decide_eq_true h
 simp only[List.mem_cons,List.not_mem_nil,or_false]at h1
 rcases h1 with rfl|rfl|rfl|rfl|rfl|rfl|rfl|rfl <;> simp[cshape]
theorem card_form {ws:List (List UInt8)}{p:Pt}{B:Nat}{w:World}{nv:Value}{a2 a3:Option Addr}{k2 k3:Nat}(h2:OwnN B w (.slice a2 p.nums.length k2) p.nums)(h3:OwnI B w (.slice a3 p.steps.length k3) p.steps) :
  ∃a2' k2' a3' k3',cardV ws p nv (.slice a2 p.nums.length k2) (.slice a3 p.steps.length k3)=.agg #[.string (bs (cardS ws p).name),nv,.string (bs (cardS ws p).ref),.int .i64 (cardS ws p).val.1,.int .i64 (cardS ws p).val.2,.int .i64 (cardS ws p).kind,.slice a2' (cardS ws p).vals.length k2',.slice a3' (cardS ws p).steps.length k3'] /\
   True/\OwnN B w (.slice a2' (cardS ws p).vals.length k2') (cardS ws p).vals/\OwnI B w (.slice a3' (cardS ws p).steps.length k3') (cardS ws p).steps/\(cardS ws p).nodes=p.nodes/\(cardS ws p).name=ws.getD 0 []:=by
 by_cases hw:waveC (headC ws)=true
 ·have e:cardS ws p=⟨ws.getD 0 [],p.nodes,p.name,(0,0),wkindL (ws.getD 3 []),p.nums,p.steps⟩:=if_pos hw
  rw[e]
  exact⟨a2,k2,a3,k3,by unfold cardV;rw[if_pos hw],trivial,h2,h3,rfl,rfl⟩
 ·by_cases hv:valueC (headC ws)=true
  ·have e:cardS ws p=⟨ws.getD 0 [],p.nodes,p.name,p.nums.getD 0 (0,0),0,[],[]⟩:=(if_neg hw).trans (if_pos hv)
   rw[e]
   exact⟨none,0,none,0,by unfold cardV;rw[if_neg hw,if_pos hv];rfl,trivial,World.ownsRow_nil _ _ _ _,World.ownsRow_nil _ _ _ _,rfl,rfl⟩
  ·have e:cardS ws p=⟨ws.getD 0 [],p.nodes,p.name,(0,0),0,[],[]⟩:=(if_neg hw).trans (if_neg hv)
   rw[e]
   exact⟨none,0,none,0,by unfold cardV;rw[if_neg hw,if_neg hv];rfl,trivial,World.ownsRow_nil _ _ _ _,World.ownsRow_nil _ _ _ _,rfl,rfl⟩
theorem wave_not_zero (c:UInt8)(h:zeroC c=true):waveC c=false:=by
 have h1:=of_decide_eq_true h
 simp only[List.mem_cons,List.not_mem_nil,or_false]at h1
 rcases h1 with rfl|rfl|rfl <;> decide
theorem fin_own {B B':Nat}{w:World}{rb:Nat}{ys:List Value}{nv xv sv x0 x1 x2 x3 x4 x5 x6 x7:Value}{ns:List (List UInt8)}{vs:List (Int×Int)}{ss:List Int}(hz:RowL 110 w rb ys)(h:OwnS B w nv ns/\OwnN B w xv vs/\OwnI B w sv ss)(hB:B'<=B) :
  OwnS B' ((((((((w.setCell ⟨rb,0,none⟩ x0).setCell ⟨rb,1,none⟩ x1).setCell ⟨rb,2,none⟩ x2).setCell ⟨rb,3,none⟩ x3).setCell ⟨rb,4,none⟩ x4).setCell ⟨rb,5,none⟩ x5).setCell ⟨rb,6,none⟩ x6).setCell ⟨rb,7,none⟩ x7) nv ns /\
  OwnN B' ((((((((w.setCell ⟨rb,0,none⟩ x0).setCell ⟨rb,1,none⟩ x1).setCell ⟨rb,2,none⟩ x2).setCell ⟨rb,3,none⟩ x3).setCell ⟨rb,4,none⟩ x4).setCell ⟨rb,5,none⟩ x5).setCell ⟨rb,6,none⟩ x6).setCell ⟨rb,7,none⟩ x7) xv vs /\
  OwnI B' ((((((((w.setCell ⟨rb,0,none⟩ x0).setCell ⟨rb,1,none⟩ x1).setCell ⟨rb,2,none⟩ x2).setCell ⟨rb,3,none⟩ x3).setCell ⟨rb,4,none⟩ x4).setCell ⟨rb,5,none⟩ x5).setCell ⟨rb,6,none⟩ x6).setCell ⟨rb,7,none⟩ x7) sv ss:=by
 have o:∀b,b≠rb->((((((((w.setCell ⟨rb,0,none⟩ x0).setCell ⟨rb,1,none⟩ x1).setCell ⟨rb,2,none⟩ x2).setCell ⟨rb,3,none⟩ x3).setCell ⟨rb,4,none⟩ x4).setCell ⟨rb,5,none⟩ x5).setCell ⟨rb,6,none⟩ x6).setCell ⟨rb,7,none⟩ x7).heap[b]?=w.heap[b]?:=fun b hb=>by
  have k:=fun (V:World) (i:Nat) (u:Value)=>Deep.blk_setCell_other V ⟨rb,i,none⟩ u b hb
  rw[k,k,k,k,k,k,k,k]
 refine⟨own_mono (own_kept h.1 fun b hb=>o b ?_) hB,own_mono (own_kept h.2.1 fun b hb=>o b ?_) hB,own_mono (own_kept h.2.2 fun b hb=>o b ?_) hB⟩
 ·intro e;subst e;exact own_row h.1 hz (by decide) hb
 ·intro e;subst e;exact own_row h.2.1 hz (by decide) hb
 ·intro e;subst e;exact own_row h.2.2 hz (by decide) hb
def RdIs (B:Nat)(w:World)(e:Ending):Except Int Cd->Prop
 | .error x=>e=.returned (.tuple #[zeroCd,.int .i64 x])/\x≠0
 | .ok c=>∃v,e=.returned (.tuple #[v,.int .i64 0])/\CdNew B w v c
theorem readC_any (ao:Option Addr)(n c:Nat)(ws:List (List UInt8))(w:World)(hL:Lett w)(hE:ErrV w)(h:RS w (.slice ao n c) ws)(hc2:n<=c)(hn2:c<=9223372036854775807)(hs:∀x∈ws,x.length<=9223372036854775807) :
  Calls Tryz.prog 138 #[.slice ao n c] w fun e w'=>Kept w w'/\RdIs w.heap.size w' e (readC ws):=by
 have hn:n=ws.length:=by obtain⟨_,_,e,_⟩:=h;simp at e;exact e.2.1
 have HS:=hid' (And.intro h (And.intro hn (And.intro hs (And.intro hL hE))))
 obtain⟨r,hr⟩:∃r,r=readC ws:=⟨_,rfl⟩
 rw[<-hr]
 have HR:=hid' hr
 clear h hs hL hE hr
 by_cases h0:n=0
 ·subst h0
  have HE:=hid' (show r=.error 70 by rw[HR.out];unfold readC;rw[if_pos (.inl (List.eq_nil_of_length_eq_zero hn.symm))])
  clear hn
  go_enter Tryz.func138,Tryz.ntmps138
  go_wp2_with fail
  refine bodyPost_ret (v:=.tuple #[.agg #[.string ⟨#[]⟩,.slice none 0 0,.string ⟨#[]⟩,.int .i64 0,.int .i64 0,.int .i64 0,.slice none 0 0,.slice none 0 0],.int .i64 70]) (by simp[results,Tryz.results138,go_sem]) rfl ⟨?_,?_⟩
  ·exact(Kept.refl w).alloc _
  ·rw[HE.out]
   exact⟨rfl,by decide⟩
 have hn0:0<n:=by omega
 have hnp:(0:Int)<(n:Int):=by omega
 have hnz:¬(n:Int)=0:=by omega
 have hnz':((n:Int) == 0)=false:=by simpa using hnz
 obtain⟨b,off,rfl,ck⟩:∃b off,ao=some ⟨b,off,none⟩/\Hid (b<w.heap.size/\∀j,j<n->w.cell? ⟨b,off+j,none⟩=some (.string (bs (ws.getD j [])))):=by
  obtain⟨ao',c',hv,hx⟩:=HS.out.1
  simp only[Value.slice.injEq]at hv
  obtain⟨rfl,hn,rfl⟩:=hv
  obtain⟨b,off,e,h1,h2⟩:=hx (by omega)
  exact⟨b,off,e,h1,fun j hj=>h2 j (by omega)⟩
 have hs0:(bs (ws.getD 0 [])).size<=9223372036854775807:=by
  rw[bs_size]
  refine HS.out.2.2.1 _ ?_
  rw[List.getD_eq_getElem?_getD,List.getElem?_eq_getElem (by omega)]
  exact List.getElem_mem _
 have hdev:=fun V=>cdev_any (bs (ws.getD 0 [])) V hs0
 rw[bs_list]at hdev
 have c0:=ck.out.2 0 (by omega)
 rw[Nat.add_zero]at c0
 obtain⟨s0,hs0e⟩:∃s,s=bs (ws.getD 0 []):=⟨_,rfl⟩
 rw[<-hs0e]at c0 hdev
 have HS0:=hid' hs0e
 have HBL:=hid' ck.out.1
 have KZ:=(Kept.refl w).alloc (.cells #[.string ⟨#[]⟩,.slice none 0 0,.string ⟨#[]⟩,.int .i64 0,.int .i64 0,.int .i64 0,.slice none 0 0,.slice none 0 0] 110)
 have c0':=(Below.cell KZ (p:=⟨b,off,none⟩) HBL.out).trans c0
 have HLN:=hid' hn
 clear hs0 hs0e hn
 cases hdv:devB (ws.getD 0 [])
 ·have HE:=hid' (show r=.error 70 by rw[HR.out];unfold readC;rw[if_pos (.inr hdv)])
  rw[hdv]at hdev
  go_enter Tryz.func138,Tryz.ntmps138
  go_wp2_with fail
  refine(hdev _).mono ?_
  rintro e w1 ⟨rfl,rfl⟩
  go_wp2_with fail
  refine bodyPost_ret (v:=.tuple #[.agg #[.string ⟨#[]⟩,.slice none 0 0,.string ⟨#[]⟩,.int .i64 0,.int .i64 0,.int .i64 0,.slice none 0 0,.slice none 0 0],.int .i64 70]) (by simp[results,Tryz.results138,go_sem]) rfl ⟨?_,?_⟩
  ·exact(Kept.refl w).alloc _
  ·rw[HE.out]
   exact⟨rfl,by decide⟩
 ·rw[hdv]at hdev
  have hh:0<(ws.getD 0 []).length:=by
   have h1:=dev_pos (s:=bs (ws.getD 0 [])) (by rw[bs_list];exact hdv)
   rwa [bs_size]at h1
  go_enter Tryz.func138,Tryz.ntmps138
  go_wp2_with fail
  refine(hdev _).mono ?_
  rintro e w1 ⟨rfl,rfl⟩
  go_wp2_with fail
  have hZr:=RowL.alloc 110 w [.string ⟨#[]⟩,.slice none 0 0,.string ⟨#[]⟩,.int .i64 0,.int .i64 0,.int .i64 0,.slice none 0 0,.slice none 0 0]
  generalize w.alloc (.cells #[.string ⟨#[]⟩,.slice none 0 0,.string ⟨#[]⟩,.int .i64 0,.int .i64 0,.int .i64 0,.slice none 0 0,.slice none 0 0] 110)=W0 at KZ hZr c0' ⊢
  refine(cardShape_any _ _ _ ws _ (HS.out.1.kept KZ) hn0 hc2 hn2 hh).mono ?_
  rintro e w2 ⟨hk2,rfl⟩
  obtain⟨rb,hrb⟩:∃q,q=w.heap.size:=⟨_,rfl⟩
  rw[<-hrb]at hZr ⊢
  have HRB:=hid' hrb
  have HZ:=hid' (hZr.kept hk2)
  have HK:=hid' (KZ.trans hk2)
  have hcl:=cshape_len (headC ws) ws
  rw[<-bs_size]at hcl
  have hrp:=readParts_any (some ⟨b,off,none⟩) n c ws (bs (cshape (headC ws) ws)) w2 (HS.out.2.2.2.1.kept HK.out) (HS.out.2.2.2.2.kept HK.out) (HS.out.1.kept HK.out) (by omega) HS.out.2.2.1
  rw[bs_list]at hrp
  generalize bs (cshape (headC ws) ws)=sh at hrp ⊢
  obtain⟨o,ho⟩:∃o,o=partsOf ws (cshape (headC ws) ws):=⟨_,rfl⟩
  rw[<-ho]at hrp
  have HR2:=hid' (show r=readB ws o by rw[HR.out,readC_dev hh hdv,ho])
  have HO:=hid' ho
  have HH:=hid' (And.intro hh hdv)
  clear hZr KZ hk2 hrb hcl c0 c0' ho hdev hh hdv
  go_wp2_with fail
  refine hrp.mono ?_
  rintro e w3 ⟨hk3,hpa⟩
  clear hrp
  have HZ:=hid' (HZ.out.kept hk3)
  have HK3:=hid' (HK.out.trans hk3)
  have HLE:=hid' HK.out.size
  cases o with
  |error x=>
   obtain⟨rfl,hx0⟩:=hpa
   have hx0':(x == 0)=false:=by simpa using hx0
   have hZ3:=HZ.out.kept ((Kept.refl w3).alloc (.cells #[.slice none 0 0,.string ⟨#[]⟩,.slice none 0 0,.slice none 0 0] 177))
   have d0:=hZ3.cell 0 (.string ⟨#[]⟩)
   have d1:=hZ3.cell 1 (.slice none 0 0)
   have d2:=hZ3.cell 2 (.string ⟨#[]⟩)
   have d3:=hZ3.cell 3 (.int .i64 0)
   have d4:=hZ3.cell 4 (.int .i64 0)
   have d5:=hZ3.cell 5 (.int .i64 0)
   have d6:=hZ3.cell 6 (.slice none 0 0)
   have d7:=hZ3.cell 7 (.slice none 0 0)
   have zd:=hZ3.fz
   clear hZ3
   go_wp2_with fail
   refine bodyPost_ret (v:=.tuple #[.agg #[.string ⟨#[]⟩,.slice none 0 0,.string ⟨#[]⟩,.int .i64 0,.int .i64 0,.int .i64 0,.slice none 0 0,.slice none 0 0],.int .i64 x]) (by simp[results,Tryz.results138,go_sem,d0,d1,d2,d3,d4,d5,d6,d7]) rfl ⟨?_,?_⟩
   ·exact Kept.set8 (HK3.out.alloc _) (Nat.le_of_eq HRB.out.symm) _ _ _ _ _ _ _ _
   ·rw[HR2.out]
    exact⟨rfl,hx0⟩
  |ok p=>
   obtain⟨nv,xv,sv,rfl,o1,o2,o3⟩:=hpa
   obtain⟨a1,k1,rfl⟩:=own_shape o1
   obtain⟨a2,k2,rfl⟩:=own_shape o2
   obtain⟨a3,k3,rfl⟩:=own_shape o3
   have HOW:=hid' (And.intro o1 (And.intro o2 o3))
   clear o1 o2 o3
   have hpo:=partsOf_ok HO.out.symm
   have hkA:=(Kept.refl w3).alloc (.cells #[.slice a1 p.nodes.length k1,.string (bs p.name),.slice a2 p.nums.length k2,.slice a3 p.steps.length k3] 177)
   have hco:=cardOf_any (some ⟨b,off,none⟩) n c ws p a1 a2 a3 p.nodes.length k1 p.nums.length k2 p.steps.length k3 _ (HS.out.1.kept (HK3.out.trans hkA)) hn0 HH.out.1 (fun hw=>by have:=cshape_wave ws hw;have:=HLN.out;omega) (fun hv=>by have:=cshape_value ws hv;omega) ((OwnN.nsl HOW.out.2.1).kept hkA)
   obtain⟨a2',k2',a3',k3',hcv,hcn,own2,own3,hnn,hnm⟩:=card_form (ws:=ws) (p:=p) (nv:=.slice a1 p.nodes.length k1) HOW.out.2.1 HOW.out.2.2
   rw[hcv]at hco
   obtain⟨cd,hcd⟩:∃cd,cd=cardS ws p:=⟨_,rfl⟩
   rw[<-hcd]at hco own2 own3 hnn hnm
   rw[hnm]at hco
   rw[<-hnn]at HOW
   have HR3:=hid' (show r=endC cd by rw[HR2.out,hcd];rfl)
   have HOW2:=hid' (And.intro HOW.out.1 (And.intro own2 own3))
   have HNM:=hid' hnm
   obtain⟨cn,cnd,cr,cv,ckd,cvs,css⟩:=cd
   obtain⟨cm,cx⟩:=cv
   simp only at hco HR3 HOW2 HNM hnn
   rw[<-HS0.out]at hco
   obtain⟨s1,hs1⟩:∃s,s=bs cr:=⟨_,rfl⟩
   rw[<-hs1]at hco
   have HS1:=hid' hs1
   have hh0:0<s0.size:=by rw[HS0.out,bs_size];exact HH.out.1
   have hh0':(0:Int)<(s0.size:Int):=by omega
   have HQ:=hid' (show s0[0]=cn.getD 0 0 by rw[HNM.out];exact head_of hh0 HS0.out)
   have HPL:=hid' hnn
   rw[<-hnn]at hco hkA ⊢
   obtain⟨ln,hln⟩:∃l,l=cnd.length:=⟨_,rfl⟩
   rw[<-hln]at hco HOW2 hkA ⊢
   have HLL:=hid' hln
   have HKA:=hid' hkA
   clear hkA
   clear hpo hcv hcn hnn hnm own2 own3 hcd hs1 hln
   go_wp2_with fail
   refine hco.mono ?_
   rintro e w4 ⟨hk4,rfl⟩
   go_wp2_with fail
   have hkC:=(HKA.out.trans hk4).alloc (.cells #[.string s0,.slice a1 ln k1,.string s1,.int .i64 cm,.int .i64 cx,.int .i64 ckd,.slice a2' cvs.length k2',.slice a3' css.length k3'] 110)
   have hC:=RowL.alloc 110 w4 [.string s0,.slice a1 ln k1,.string s1,.int .i64 cm,.int .i64 cx,.int .i64 ckd,.slice a2' cvs.length k2',.slice a3' css.length k3']
   have hle:=(HKA.out.trans hk4).size
   generalize w4.alloc (.cells #[.string s0,.slice a1 ln k1,.string s1,.int .i64 cm,.int .i64 cx,.int .i64 ckd,.slice a2' cvs.length k2',.slice a3' css.length k3'] 110)=W4 at hkC hC ⊢
   obtain⟨cb,hcb⟩:∃q,q=w4.heap.size:=⟨_,rfl⟩
   rw[<-hcb]at hC hle ⊢
   have hZ:=HZ.out.kept hkC
   have HOW4:=hid' (show OwnS w2.heap.size W4 (.slice a1 ln k1) cnd/\OwnN w2.heap.size W4 (.slice a2' cvs.length k2') cvs/\OwnI w2.heap.size W4 (.slice a3' css.length k3') css from⟨own_kept HOW2.out.1 (fun b hb=>hkC.block b (HOW2.out.1.lt b hb).2),own_kept HOW2.out.2.1 (fun b hb=>hkC.block b (HOW2.out.2.1.lt b hb).2),own_kept HOW2.out.2.2 (fun b hb=>hkC.block b (HOW2.out.2.2.lt b hb).2)⟩)
   have HKW:=hid' (HK3.out.trans hkC)
   have hne:¬rb=cb:=by have h1:=HZ.out.lt;omega
   have hne':¬cb=rb:=fun e=>hne e.symm
   have HZ4:=hid' hZ
   have HC4:=hid' hC
   have c0:=hC.cell 0 (.string s0)
   have c1:=hC.cell 1 (.slice a1 ln k1)
   have c2:=hC.cell 2 (.string s1)
   have c3:=hC.cell 3 (.int .i64 cm)
   have c4:=hC.cell 4 (.int .i64 cx)
   have c5:=hC.cell 5 (.int .i64 ckd)
   have c6:=hC.cell 6 (.slice a2' cvs.length k2')
   have c7:=hC.cell 7 (.slice a3' css.length k3')
   have d0:=hZ.cell 0 (.string ⟨#[]⟩)
   have d1:=hZ.cell 1 (.slice none 0 0)
   have d2:=hZ.cell 2 (.string ⟨#[]⟩)
   have d3:=hZ.cell 3 (.int .i64 0)
   have d4:=hZ.cell 4 (.int .i64 0)
   have d5:=hZ.cell 5 (.int .i64 0)
   have d6:=hZ.cell 6 (.slice none 0 0)
   have d7:=hZ.cell 7 (.slice none 0 0)
   have zd:=hZ.fz
   clear hkC hC hZ hle hcb hk4 hco HKA HOW2 HOW HZ
   refine(among_is s0[0] ⟨#[114,99,108]⟩ [114,99,108] _ rfl).mono ?_
   rintro e w5 ⟨rfl,rfl⟩
   rw[show decide (s0[0]∈([114,99,108]:List UInt8))=zeroC s0[0] from rfl]
   have HFIN:=hid' (fin_own (rb:=rb) (x0:=.string s0) (x1:=.slice a1 ln k1) (x2:=.string s1) (x3:=.int .i64 cm) (x4:=.int .i64 cx) (x5:=.int .i64 ckd) (x6:=.slice a2' cvs.length k2') (x7:=.slice a3' css.length k3') HZ4.out HOW4.out HLE.out)
   have HWV:=hid' (wave_not_zero s0[0])
   by_cases hz:zeroC s0[0]=true
   ·have hw:waveC s0[0]=false:=HWV.out hz
    rw[hz]
    by_cases hm:cm=0/\cx=0
    ·obtain⟨rfl,rfl⟩:=hm
     have HR4:=hid' (show r=.error 11 by rw[HR3.out];unfold endC;rw[<-HQ.out,if_pos ⟨hz,rfl⟩])
     go_wp2_with fail
     refine bodyPost_ret (v:=.tuple #[.agg #[.string ⟨#[]⟩,.slice none 0 0,.string ⟨#[]⟩,.int .i64 0,.int .i64 0,.int .i64 0,.slice none 0 0,.slice none 0 0],.int .i64 11]) (by simp[results,Tryz.results138,go_sem,d0,d1,d2,d3,d4,d5,d6,d7]) rfl ⟨?_,?_⟩
     ·exact Kept.set8 HKW.out (Nat.le_of_eq HRB.out.symm) _ _ _ _ _ _ _ _
     ·rw[HR4.out]
      exact⟨rfl,by decide⟩
    ·have HR4:=hid' (show r=.ok ⟨cn,cnd,cr,(cm,cx),ckd,cvs,css⟩ by
      rw[HR3.out];unfold endC
      rw[<-HQ.out,if_neg (fun e=>hm (by have:=e.2;simp at this;exact this)),if_neg (fun e=>by rw[hw]at e;exact absurd e.1 (by decide))])
     by_cases hcm:cm=0
     ·subst hcm
      have hcx:¬cx=0:=fun e=>hm ⟨rfl,e⟩
      have hcx':(cx == 0)=false:=by simpa using hcx
      clear hm
      go_wp2_with fail
      refine(among_is s0[0] ⟨#[118,105]⟩ [118,105] _ rfl).mono ?_
      rintro e w6 ⟨rfl,rfl⟩
      rw[show decide (s0[0]∈([118,105]:List UInt8))=waveC s0[0] from rfl]
      rw[hw]
      go_wp2_with fail
      refine bodyPost_ret (v:=.tuple #[.agg #[.string s0,.slice a1 ln k1,.string s1,.int .i64 0,.int .i64 cx,.int .i64 ckd,.slice a2' cvs.length k2',.slice a3' css.length k3'],.int .i64 0]) (by simp[results,Tryz.results138,go_sem,d0,d1,d2,d3,d4,d5,d6,d7]) rfl ⟨?_,?_⟩
      ·exact Kept.set8 HKW.out (Nat.le_of_eq HRB.out.symm) _ _ _ _ _ _ _ _
      ·rw[HR4.out]
       refine⟨_,rfl,_,_,_,by unfold cdV;rw[<-HS1.out,show bs cn=s0 by rw[HNM.out,HS0.out]],?_,?_,?_⟩
       ·exact HFIN.out.1
       ·exact HFIN.out.2.1
       ·exact HFIN.out.2.2
     ·have hcm':(cm == 0)=false:=by simpa using hcm
      clear hm
      go_wp2_with fail
      refine(among_is s0[0] ⟨#[118,105]⟩ [118,105] _ rfl).mono ?_
      rintro e w6 ⟨rfl,rfl⟩
      rw[show decide (s0[0]∈([118,105]:List UInt8))=waveC s0[0] from rfl]
      rw[hw]
      go_wp2_with fail
      refine bodyPost_ret (v:=.tuple #[.agg #[.string s0,.slice a1 ln k1,.string s1,.int .i64 cm,.int .i64 cx,.int .i64 ckd,.slice a2' cvs.length k2',.slice a3' css.length k3'],.int .i64 0]) (by simp[results,Tryz.results138,go_sem,d0,d1,d2,d3,d4,d5,d6,d7]) rfl ⟨?_,?_⟩
      ·exact Kept.set8 HKW.out (Nat.le_of_eq HRB.out.symm) _ _ _ _ _ _ _ _
      ·rw[HR4.out]
       refine⟨_,rfl,_,_,_,by unfold cdV;rw[<-HS1.out,show bs cn=s0 by rw[HNM.out,HS0.out]],?_,?_,?_⟩
       ·exact HFIN.out.1
       ·exact HFIN.out.2.1
       ·exact HFIN.out.2.2
   ·have hz:zeroC s0[0]=false:=by simpa using hz
    rw[hz]
    go_wp2_with fail
    refine(among_is s0[0] ⟨#[118,105]⟩ [118,105] _ rfl).mono ?_
    rintro e w6 ⟨rfl,rfl⟩
    rw[show decide (s0[0]∈([118,105]:List UInt8))=waveC s0[0] from rfl]
    by_cases hw:waveC s0[0]=true
    ·rw[hw]
     have hva:=fun V (K:Kept w6 V)=>valid_any ckd a2' a3' cvs.length k2' css.length k3' cvs css V ((OwnN.nsl HOW4.out.2.1).kept K) ((OwnI.isl HOW4.out.2.2).kept K)
     by_cases hok:okW ckd cvs css=true
     ·have HR4:=hid' (show r=.ok ⟨cn,cnd,cr,(cm,cx),ckd,cvs,css⟩ by
       rw[HR3.out];unfold endC
       rw[<-HQ.out,if_neg (fun e=>by rw[hz]at e;exact absurd e.1 (by decide)),if_neg (fun e=>by rw[hok]at e;exact absurd e.2 (by decide))])
      rw[hok]at hva
      go_wp2_with fail
      refine(hva _ (Kept.refl _)).mono ?_
      rintro e w7 ⟨hk7,rfl⟩
      have hZ:=HZ4.out.kept hk7
      have hC:=HC4.out.kept hk7
      have HOW7:=hid' (show OwnS w2.heap.size w7 (.slice a1 ln k1) cnd/\OwnN w2.heap.size w7 (.slice a2' cvs.length k2') cvs/\OwnI w2.heap.size w7 (.slice a3' css.length k3') css from⟨own_kept HOW4.out.1 (fun b hb=>hk7.block b (HOW4.out.1.lt b hb).2),own_kept HOW4.out.2.1 (fun b hb=>hk7.block b (HOW4.out.2.1.lt b hb).2),own_kept HOW4.out.2.2 (fun b hb=>hk7.block b (HOW4.out.2.2.lt b hb).2)⟩)
      have HKW:=hid' (HKW.out.trans hk7)
      have HFIN:=hid' (fin_own (rb:=rb) (x0:=.string s0) (x1:=.slice a1 ln k1) (x2:=.string s1) (x3:=.int .i64 cm) (x4:=.int .i64 cx) (x5:=.int .i64 ckd) (x6:=.slice a2' cvs.length k2') (x7:=.slice a3' css.length k3') hZ HOW7.out HLE.out)
      clear c0 c1 c2 c3 c4 c5 c6 c7 d0 d1 d2 d3 d4 d5 d6 d7 zd
      have c0:=hC.cell 0 (.string s0)
      have c1:=hC.cell 1 (.slice a1 ln k1)
      have c2:=hC.cell 2 (.string s1)
      have c3:=hC.cell 3 (.int .i64 cm)
      have c4:=hC.cell 4 (.int .i64 cx)
      have c5:=hC.cell 5 (.int .i64 ckd)
      have c6:=hC.cell 6 (.slice a2' cvs.length k2')
      have c7:=hC.cell 7 (.slice a3' css.length k3')
      have d0:=hZ.cell 0 (.string ⟨#[]⟩)
      have d1:=hZ.cell 1 (.slice none 0 0)
      have d2:=hZ.cell 2 (.string ⟨#[]⟩)
      have d3:=hZ.cell 3 (.int .i64 0)
      have d4:=hZ.cell 4 (.int .i64 0)
      have d5:=hZ.cell 5 (.int .i64 0)
      have d6:=hZ.cell 6 (.slice none 0 0)
      have d7:=hZ.cell 7 (.slice none 0 0)
      have zd:=hZ.fz
      clear hC hZ hk7 hva
      go_wp2_with fail
      refine bodyPost_ret (v:=.tuple #[.agg #[.string s0,.slice a1 ln k1,.string s1,.int .i64 cm,.int .i64 cx,.int .i64 ckd,.slice a2' cvs.length k2',.slice a3' css.length k3'],.int .i64 0]) (by simp[results,Tryz.results138,go_sem,d0,d1,d2,d3,d4,d5,d6,d7]) rfl ⟨?_,?_⟩
      ·exact Kept.set8 HKW.out (Nat.le_of_eq HRB.out.symm) _ _ _ _ _ _ _ _
      ·rw[HR4.out]
       refine⟨_,rfl,_,_,_,by unfold cdV;rw[<-HS1.out,show bs cn=s0 by rw[HNM.out,HS0.out]],?_,?_,?_⟩
       ·exact HFIN.out.1
       ·exact HFIN.out.2.1
       ·exact HFIN.out.2.2
     ·have hok:okW ckd cvs css=false:=by simpa using hok
      have HR4:=hid' (show r=.error 40 by
       rw[HR3.out];unfold endC
       rw[<-HQ.out,if_neg (fun e=>by rw[hz]at e;exact absurd e.1 (by decide)),if_pos ⟨hw,hok⟩])
      rw[hok]at hva
      go_wp2_with fail
      refine(hva _ (Kept.refl _)).mono ?_
      rintro e w7 ⟨hk7,rfl⟩
      have hZ:=HZ4.out.kept hk7
      have hC:=HC4.out.kept hk7
      have HOW7:=hid' (show OwnS w2.heap.size w7 (.slice a1 ln k1) cnd/\OwnN w2.heap.size w7 (.slice a2' cvs.length k2') cvs/\OwnI w2.heap.size w7 (.slice a3' css.length k3') css from⟨own_kept HOW4.out.1 (fun b hb=>hk7.block b (HOW4.out.1.lt b hb).2),own_kept HOW4.out.2.1 (fun b hb=>hk7.block b (HOW4.out.2.1.lt b hb).2),own_kept HOW4.out.2.2 (fun b hb=>hk7.block b (HOW4.out.2.2.lt b hb).2)⟩)
      have HKW:=hid' (HKW.out.trans hk7)
      have HFIN:=hid' (fin_own (rb:=rb) (x0:=.string s0) (x1:=.slice a1 ln k1) (x2:=.string s1) (x3:=.int .i64 cm) (x4:=.int .i64 cx) (x5:=.int .i64 ckd) (x6:=.slice a2' cvs.length k2') (x7:=.slice a3' css.length k3') hZ HOW7.out HLE.out)
      clear c0 c1 c2 c3 c4 c5 c6 c7 d0 d1 d2 d3 d4 d5 d6 d7 zd
      have c0:=hC.cell 0 (.string s0)
      have c1:=hC.cell 1 (.slice a1 ln k1)
      have c2:=hC.cell 2 (.string s1)
      have c3:=hC.cell 3 (.int .i64 cm)
      have c4:=hC.cell 4 (.int .i64 cx)
      have c5:=hC.cell 5 (.int .i64 ckd)
      have c6:=hC.cell 6 (.slice a2' cvs.length k2')
      have c7:=hC.cell 7 (.slice a3' css.length k3')
      have d0:=hZ.cell 0 (.string ⟨#[]⟩)
      have d1:=hZ.cell 1 (.slice none 0 0)
      have d2:=hZ.cell 2 (.string ⟨#[]⟩)
      have d3:=hZ.cell 3 (.int .i64 0)
      have d4:=hZ.cell 4 (.int .i64 0)
      have d5:=hZ.cell 5 (.int .i64 0)
      have d6:=hZ.cell 6 (.slice none 0 0)
      have d7:=hZ.cell 7 (.slice none 0 0)
      have zd:=hZ.fz
      clear hC hZ hk7 hva
      go_wp2_with fail
      refine bodyPost_ret (v:=.tuple #[.agg #[.string ⟨#[]⟩,.slice none 0 0,.string ⟨#[]⟩,.int .i64 0,.int .i64 0,.int .i64 0,.slice none 0 0,.slice none 0 0],.int .i64 40]) (by simp[results,Tryz.results138,go_sem,d0,d1,d2,d3,d4,d5,d6,d7]) rfl ⟨?_,?_⟩
      ·exact Kept.set8 HKW.out (Nat.le_of_eq HRB.out.symm) _ _ _ _ _ _ _ _
      ·rw[HR4.out]
       exact⟨rfl,by decide⟩
    ·have hw:waveC s0[0]=false:=by simpa using hw
     have HR4:=hid' (show r=.ok ⟨cn,cnd,cr,(cm,cx),ckd,cvs,css⟩ by
      rw[HR3.out];unfold endC
      rw[<-HQ.out,if_neg (fun e=>by rw[hz]at e;exact absurd e.1 (by decide)),if_neg (fun e=>by rw[hw]at e;exact absurd e.1 (by decide))])
     rw[hw]
     go_wp2_with fail
     refine bodyPost_ret (v:=.tuple #[.agg #[.string s0,.slice a1 ln k1,.string s1,.int .i64 cm,.int .i64 cx,.int .i64 ckd,.slice a2' cvs.length k2',.slice a3' css.length k3'],.int .i64 0]) (by simp[results,Tryz.results138,go_sem,d0,d1,d2,d3,d4,d5,d6,d7]) rfl ⟨?_,?_⟩
     ·exact Kept.set8 HKW.out (Nat.le_of_eq HRB.out.symm) _ _ _ _ _ _ _ _
     ·rw[HR4.out]
      refine⟨_,rfl,_,_,_,by unfold cdV;rw[<-HS1.out,show bs cn=s0 by rw[HNM.out,HS0.out]],?_,?_,?_⟩
      ·exact HFIN.out.1
      ·exact HFIN.out.2.1
      ·exact HFIN.out.2.2
open Q (hid' parseOf Lett ErrV)
open X (bs OwnS RS strs bs_list bs_size zk zr zl zd region_z)
theorem own_keptK {w w':World}{B:Nat}{e:TypeId}{sz n:Nat}{v:Value}{xs:List Value}(h:w.ownsRow B e sz v n xs)(k:Kept w w'):w'.ownsRow B e sz v n xs:=own_kept h (fun b hb=>k.block b (h.lt b hb).2)
structure MoI (w wr:World) (s:ByteArray) (z:Int) (L:List (Int×Int)) (k:Nat) (g v:List (Int×Int)) (gv vv:Value):Prop where
 kp:Kept w wr
 rr:Row4 46 wr (w.heap.size+1) (.string ⟨#[]⟩) (.int .u8 0) (.slice none 0 0) (.slice none 0 0)
 mr:Row4 46 wr (w.heap.size+1+1) (.string s) (.int .u8 z) gv vv
 og:OwnN (w.heap.size+3) wr gv g
 ov:OwnN (w.heap.size+3) wr vv v
 ne:∀b,gv.ownBlock=some b->vv.ownBlock≠some b
 eq:gvAll 0 [] [] L=gvAll k g v (L.drop k)
 lg:g.length<=k
 lv:v.length<=k
open Q (hid' parseOf Lett ErrV)
open X (bs OwnS RS strs bs_list bs_size)
def MdNew (B:Nat)(w:World)(v:Value)(m:Md):Prop:=∃gv vv,v=.agg #[.string (bs m.name),.int .u8 m.kind,gv,vv]/\OwnN B w gv m.gs/\OwnN B w vv m.vs
def RmIs (B:Nat)(w:World)(e:Ending):Except Int Md->Prop
 | .error x=>e=.returned (.tuple #[.agg #[.string ⟨#[]⟩,.int .u8 0,.slice none 0 0,.slice none 0 0],.int .i64 x])/\x≠0
 | .ok m=>∃v,e=.returned (.tuple #[v,.int .i64 0])/\MdNew B w v m
def endM (m:Md):Except Int Md:=if okM m.name m.kind m.gs m.vs=true then .ok m else .error 50
def readN (k:Int):Except Int Pt->Except Int Md
 | .error e=>.error e
 | .ok p=>endM (modelS k p)
theorem okName_len {x:List UInt8}(h:okName x=true):x.length<=16:=by
 unfold okName at h
 have h2:=(Bool.and_eq_true _ _ ▸ h).1
 exact(of_decide_eq_true h2).2
end V
end Go.Proofs.YtdjhmgmjiglcbaaGreatDoor
