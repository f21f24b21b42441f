/- Lemmas. -/
import Derived.Test.YtdjhmgmjiglcbaaGreatDoorGbe
import Derived.Test.YtdjhmgmjiglcbaaGreatDoorGbc
import Derived.Test.YtdjhmgmjiglcbaaGreatDoorGax
import Derived.Lib.SmallJoins
set_option maxRecDepth 100000
set_option maxHeartbeats 16000000
namespace Go.Proofs.YtdjhmgmjiglcbaaGreatDoor
open Go.RowKit
namespace V
open Q (parseOf okN textOf)
open Q (parseOf okN textOf)
theorem okW_fit {k:Int}{vs:List (Int×Int)}{ss:List Int}(h:okW k vs ss=true):((k=1/\vs.length=1/\ss.length=0)∨(k=2/\vs.length=2/\ss.length=5)∨(k=3/\1<=vs.length/\vs.length<=16/\ss.length=vs.length)∨(k=4/\1<=vs.length/\vs.length<=16/\ss.length=0))/\(∀v∈vs,okN v.1 v.2=true)/\∀s∈ss,0<=s/\s<=1000000000:=by
 unfold okW fitsB at h
 simp only[Bool.and_eq_true,Bool.or_eq_true,beq_iff_eq,decide_eq_true_eq]at h
 refine⟨by omega,fun v hv=>List.all_eq_true.1 h.1.2.1 v hv,fun s hs=>?_⟩
 have:=List.all_eq_true.1 h.1.2.2 s hs
 unfold okS at this
 exact of_decide_eq_true this
theorem dev_len {n:List UInt8}(h:devB n=true):0<n.length:=by
 have h1:=dev_pos (s:=X.bs n) (by rw[X.bs_list];exact h)
 rwa [X.bs_size]at h1
theorem dev_kind {n:List UInt8}(h:devB n=true):n.getD 0 0∈kindsL:=by
 unfold devB at h
 have h2:=(Bool.and_eq_true _ _ ▸ h).2
 exact(ib_mem' _ _).1 (of_decide_eq_true h2)
open Q (parseOf okN textOf)
structure NmInv (p q:Pt) (cs:List UInt8):Prop where
 cnt:q.nodes.length=p.nodes.length+cs.count 110
 nds:∀x∈q.nodes,x∈p.nodes∨okName x=true
 nam:q.name=p.name∨okName q.name=true
 same:109∉cs->118∉cs->q.name=p.name
 got:(109∈cs∨118∈cs)->okName q.name=true
 v:118∈cs->109∉cs->q.name.getD 0 0=118
theorem dev_name {x:List UInt8}(h:devB x=true):okName x=true:=by
 unfold devB at h
 exact(Bool.and_eq_true _ _ ▸ h).1
theorem nm_inv:∀(zs:List (UInt8×List UInt8)) (p q:Pt),nmAll p zs=some q->NmInv p q (zs.map (·.1))
 | [],p,q,h=>by
  cases h
  exact⟨by simp,fun x hx=>.inl hx,.inl rfl,fun _ _=>rfl,fun h=>by simp at h,fun h=>by simp at h⟩
 |(c,x)::t,p,q,h=>by
  rw[nmAll]at h
  cases hs:nmStep p c x with
  |none=>simp only[hs]at h;cases h
  |some r=>
   simp only[hs]at h
   have ih:=nm_inv t r q h
   unfold nmStep at hs
   by_cases h1:c=110
   ·subst h1
    rw[if_pos rfl]at hs
    split at hs
    ·rename_i hx
     cases hs
     refine⟨?_,fun y hy=>?_,ih.nam,fun a b=>ih.same (fun e=>a (by simp[e])) (fun e=>b (by simp[e])),fun a=>ih.got (by simpa using a),fun a b=>ih.v (by simpa using a) (fun e=>b (by simp[e]))⟩
     ·have:=ih.cnt;simp only[List.length_append,List.length_cons,List.length_nil,List.map_cons,List.count_cons_self]at this ⊢;omega
     ·rcases ih.nds y hy with e|e
      ·rcases List.mem_append.1 e with e|e
       ·exact .inl e
       ·rw[List.mem_singleton.1 e];exact .inr hx
      ·exact .inr e
    ·cases hs
   rw[if_neg h1]at hs
   have hcn:∀l:List UInt8,(c::l).count 110=l.count 110:=fun l=>by rw[List.count_cons_of_ne h1]
   by_cases h2:c=109
   ·subst h2
    rw[if_pos rfl]at hs
    split at hs
    ·rename_i hx
     cases hs
     refine⟨?_,ih.nds,?_,fun a=>absurd (by simp) a,fun _=>?_,fun _ b=>absurd (by simp) b⟩
     ·have:=ih.cnt;rw[List.map_cons,hcn];exact this
     ·rcases ih.nam with e|e
      ·rw[e];exact .inr hx
      ·exact .inr e
     ·rcases ih.nam with e|e
      ·rw[e];exact hx
      ·exact e
    ·cases hs
   rw[if_neg h2]at hs
   by_cases h3:c=118
   ·subst h3
    rw[if_pos rfl]at hs
    split at hs
    ·rename_i hx
     have hn:=dev_name hx.1
     cases hs
     refine⟨?_,ih.nds,?_,fun _ a=>absurd (by simp) a,fun _=>?_,fun _ b=>?_⟩
     ·have:=ih.cnt;rw[List.map_cons,hcn];exact this
     ·rcases ih.nam with e|e
      ·rw[e];exact .inr hn
      ·exact .inr e
     ·rcases ih.nam with e|e
      ·rw[e];exact hn
      ·exact e
     ·by_cases h4:(118:UInt8)∈t.map (·.1)
      ·exact ih.v h4 (fun e=>b (by simp[e]))
      ·rw[ih.same (fun e=>b (by simp[e])) h4];exact hx.2
    ·cases hs
   rw[if_neg h3]at hs
   cases hs
   refine⟨?_,ih.nds,ih.nam,fun a b=>ih.same (fun e=>a (by simp[e])) (fun e=>b (by simp[e])),fun a=>ih.got ?_,fun a b=>ih.v ?_ (fun e=>b (by simp[e]))⟩
   ·have:=ih.cnt;rw[List.map_cons,hcn];exact this
   ·rcases a with a|a
    ·rcases List.mem_cons.1 a with e|e
     ·exact absurd e.symm h2
     ·exact .inl e
    ·rcases List.mem_cons.1 a with e|e
     ·exact absurd e.symm h3
     ·exact .inr e
   ·rcases List.mem_cons.1 a with e|e
    ·exact absurd e.symm h3
    ·exact e
structure NuInv (p q:Pt) (cs:List UInt8):Prop where
 nodes:q.nodes=p.nodes
 name:q.name=p.name
 cnt:q.nums.length=p.nums.length+cs.count 120
 ok:∀v∈q.nums,v∈p.nums∨okN v.1 v.2=true
theorem nu_inv:∀(zs:List (UInt8×List UInt8)) (p q:Pt),nuAll p zs=.ok q->NuInv p q (zs.map (·.1))
 | [],p,q,h=>by
  cases h
  exact⟨rfl,rfl,by simp,fun x hx=>.inl hx⟩
 |(c,x)::t,p,q,h=>by
  rw[nuAll]at h
  cases hs:nuStep p c x with
  |error e=>simp only[hs]at h;cases h
  |ok r=>
   simp only[hs]at h
   have ih:=nu_inv t r q h
   unfold nuStep at hs
   by_cases h1:c=120
   ·subst h1
    rw[if_pos rfl]at hs
    split at hs
    ·rename_i hx
     have hok:okN (parseOf x).1 (parseOf x).2.1=true:=by
      rcases Q.parse_ok x with e|e|⟨m,y,e,ho⟩
      ·rw[e]at hx;exact absurd hx (by decide)
      ·rw[e]at hx;exact absurd hx (by decide)
      ·rw[e];exact ho
     cases hs
     refine⟨ih.nodes,ih.name,?_,fun y hy=>?_⟩
     ·have:=ih.cnt;simp only[List.length_append,List.length_cons,List.length_nil,List.map_cons,List.count_cons_self]at this ⊢;omega
     ·rcases ih.ok y hy with e|e
      ·rcases List.mem_append.1 e with e|e
       ·exact .inl e
       ·rw[List.mem_singleton.1 e];exact .inr hok
      ·exact .inr e
    ·cases hs
   rw[if_neg h1]at hs
   have hcn:∀l:List UInt8,(c::l).count 120=l.count 120:=fun l=>by rw[List.count_cons_of_ne h1]
   split at hs
   ·split at hs
    ·cases hs
     exact⟨ih.nodes,ih.name,by have:=ih.cnt;rw[List.map_cons,hcn];exact this,ih.ok⟩
    ·cases hs
   ·cases hs
    exact⟨ih.nodes,ih.name,by have:=ih.cnt;rw[List.map_cons,hcn];exact this,ih.ok⟩
theorem parts_inv {ws:List (List UInt8)}{sh:List UInt8}{p:Pt}(h:partsOf ws sh=.ok p) :
  p.nodes.length=sh.count 110/\(∀x∈p.nodes,okName x=true)/\(109∉sh->118∉sh->p.name=[])/\((109∈sh∨118∈sh)->okName p.name=true)/\(118∈sh->109∉sh->p.name.getD 0 0=118)/\p.nums.length=sh.count 120/\∀v∈p.nums,okN v.1 v.2=true:=by
 unfold partsOf at h
 split at h
 ·cases h
 rename_i hl
 have hm:(sh.zip ws).map (·.1)=sh:=by
  have:=List.map_fst_zip (l₁:=sh) (l₂:=ws) (by omega)
  exact this
 cases hn:nmAll Pt.zero (sh.zip ws) with
 |none=>simp only[hn]at h;cases h
 |some r=>
  simp only[hn]at h
  have a:=nm_inv _ _ _ hn
  have b:=nu_inv _ _ _ h
  rw[hm]at a b
  have an:=nmAll_keep _ _ _ hn
  refine⟨?_,?_,?_,?_,?_,?_,?_⟩
  ·rw[b.nodes,a.cnt];simp[Pt.zero]
  ·intro x hx
   rw[b.nodes]at hx
   rcases a.nds x hx with e|e
   ·simp[Pt.zero]at e
   ·exact e
  ·intro h1 h2;rw[b.name,a.same h1 h2];rfl
  ·intro h1;rw[b.name];exact a.got h1
  ·intro h1 h2;rw[b.name];exact a.v h1 h2
  ·rw[b.cnt,an.1];simp[Pt.zero]
  ·intro v hv
   rcases b.ok v hv with e|e
   ·rw[an.1]at e;simp[Pt.zero]at e
   ·exact e
theorem rep_no {c:UInt8}{l:List UInt8}(h:c∉l):∀k,c∉Lib.repeatL l k
 |0=>by simp[Lib.repeatL]
 |k+1=>by
  show c∉l++Lib.repeatL l k
  intro e
  rcases List.mem_append.1 e with e|e
  ·exact h e
  ·exact rep_no h k e
theorem wshape_no (ws:List (List UInt8))(c:UInt8)(h:c=110∨c=109∨c=118):c∉wshape ws:=by
 have h0:c∉([115,120]:List UInt8):=by rcases h with rfl|rfl|rfl <;> decide
 have h1:c∉([120]:List UInt8):=by rcases h with rfl|rfl|rfl <;> decide
 have h2:c≠46:=by rcases h with rfl|rfl|rfl <;> decide
 cases ws with
 |nil=>exact h1
 |cons x t=>
  rw[wshape]
  split
  ·rcases h with rfl|rfl|rfl <;> decide
  split
  ·rcases h with rfl|rfl|rfl <;> decide
  split
  ·intro e
   rcases List.mem_cons.1 e with e|e
   ·exact h2 e
   ·exact rep_no h0 _ e
  split
  ·intro e
   rcases List.mem_cons.1 e with e|e
   ·exact h2 e
   ·exact rep_no h1 _ e
  ·exact h1
open Q (parseOf okN textOf)
theorem shape_facts {q:UInt8}(ws:List (List UInt8))(hk:q∈kindsL) :
  nodesN q ((cshape q ws).count 110)=true/\(refC q=true->109∈cshape q ws∨118∈cshape q ws)/\(refC q=false->109∉cshape q ws/\118∉cshape q ws)/\(q=102∨q=104->118∈cshape q ws/\109∉cshape q ws):=by
 unfold kindsL at hk
 simp only[List.mem_cons,List.not_mem_nil,or_false]at hk
 have hw0:=List.count_eq_zero.2 (wshape_no (ws.drop 3) 110 (.inl rfl))
 have hw1:=wshape_no (ws.drop 3) 109 (.inr (.inl rfl))
 have hw2:=wshape_no (ws.drop 3) 118 (.inr (.inr rfl))
 rcases hk with rfl|rfl|rfl|rfl|rfl|rfl|rfl|rfl|rfl|rfl|rfl|rfl|rfl
 ·simp[cshape,nodesN,refC]
 ·simp[cshape,nodesN,refC]
 ·simp[cshape,nodesN,refC]
 ·simp[cshape,nodesN,refC,hw0,hw1,hw2]
 ·simp[cshape,nodesN,refC,hw0,hw1,hw2]
 ·simp[cshape,nodesN,refC]
 ·simp[cshape,nodesN,refC]
 ·simp[cshape,nodesN,refC]
 ·simp[cshape,nodesN,refC]
 ·simp[cshape,nodesN,refC]
 ·simp[cshape,nodesN,refC]
 ·simp[cshape,nodesN,refC]
 ·refine⟨?_,fun _=>.inl (by simp[cshape]),fun h=>absurd h (by decide),fun h=>absurd h (by decide)⟩
  have e:(cshape 120 ws).count 110=min (max (ws.length-2) 1) 8:=by
   unfold cshape
   rw[if_neg (by decide),if_neg (by decide),if_neg (by decide),if_neg (by decide),if_neg (by decide),if_pos rfl,rep_one]
   simp[List.count_append]
  rw[e]
  unfold nodesN
  rw[if_neg (by decide),if_pos rfl]
  exact decide_eq_true (by omega)
theorem read_right {ws:List (List UInt8)}{d:Cd}(h:readC ws=.ok d):RightC d/\d.name=ws.getD 0 []/\ws≠[]:=by
 unfold readC at h
 split at h
 ·cases h
 rename_i hn
 have hne:ws≠[]:=fun e=>hn (.inl e)
 have hdv:devB (ws.getD 0 [])=true:=by
  cases e:devB (ws.getD 0 []) with
  |true=>rfl
  |false=>exact absurd (.inr e) hn
 have hk:=dev_kind hdv
 obtain⟨q,hq⟩:∃q,q=headC ws:=⟨_,rfl⟩
 have hq':(ws.getD 0 []).getD 0 0=q:=hq.symm
 rw[hq']at hk
 rw[<-hq]at h
 cases hp:partsOf ws (cshape q ws) with
 |error e=>simp only[hp]at h;cases h
 |ok p=>
  simp only[hp]at h
  obtain⟨p1,p2,p3,p4,p5,p6,p7⟩:=parts_inv hp
  obtain⟨s1,s2,s3,s4⟩:=shape_facts ws hk
  have hd:cardS ws p=d/\¬(zeroC ((cardS ws p).name.getD 0 0)=true/\(cardS ws p).val=(0,0))/\¬(waveC ((cardS ws p).name.getD 0 0)=true/\okW (cardS ws p).kind (cardS ws p).vals (cardS ws p).steps=false):=by
   unfold endC at h
   split at h
   ·cases h
   split at h
   ·cases h
   ·rename_i a b
    cases h
    exact⟨rfl,a,b⟩
  obtain⟨rfl,hz,hw⟩:=hd
  have hnm:(cardS ws p).name=ws.getD 0 []:=by
   unfold cardS
   split
   ·rfl
   split <;> rfl
  have hnd:(cardS ws p).nodes=p.nodes:=by
   unfold cardS
   split
   ·rfl
   split <;> rfl
  have hrf:(cardS ws p).ref=p.name:=by
   unfold cardS
   split
   ·rfl
   split <;> rfl
  rw[hnm,hq']at hz hw
  refine⟨⟨by rw[hnm];exact hdv,?_,?_,?_,?_,?_⟩,hnm,hne⟩
  ·rw[hnm,hq',hnd,p1];exact s1
  ·rw[hnd];exact p2
  ·rw[hnm,hq',hrf]
   by_cases hr:refC q=true
   ·rw[if_pos hr]
    exact⟨p4 (s2 hr),fun e=>p5 (s4 e).1 (s4 e).2⟩
   ·rw[if_neg hr]
    have:=s3 (by simpa using hr)
    exact p3 this.1 this.2
  ·rw[hnm,hq']
   by_cases hv:valueC q=true
   ·rw[if_pos hv]
    have hnw:waveC q=false:=by
     unfold kindsL at hk
     simp only[List.mem_cons,List.not_mem_nil,or_false]at hk
     rcases hk with rfl|rfl|rfl|rfl|rfl|rfl|rfl|rfl|rfl|rfl|rfl|rfl|rfl <;> first|rfl|exact absurd hv (by decide)
    have hcv:(cardS ws p).val=p.nums.getD 0 (0,0):=by
     unfold cardS
     rw[<-hq,if_neg (by rw[hnw];decide),if_pos hv]
    have hl:0<p.nums.length:=by rw[p6];exact cshape_value ws hv
    have hok:okN (p.nums.getD 0 (0,0)).1 (p.nums.getD 0 (0,0)).2=true:=by
     cases hnn:p.nums with
     |nil=>rw[hnn]at hl;exact absurd hl (by decide)
     |cons v t=>exact p7 v (by rw[hnn];simp)
    rw[hcv]at hz ⊢
    refine⟨hok,fun hzc h0=>hz ⟨hzc,?_⟩⟩
    have:=Q.okN_iff.1 hok
    have h1:(p.nums.getD 0 (0,0)).2=0:=by
     rcases this with e|e
     ·exact e.2
     ·exact absurd h0 e.1
    exact Prod.ext h0 h1
   ·rw[if_neg hv]
    unfold cardS
    rw[<-hq]
    split <;> rfl
  ·rw[hnm,hq']
   by_cases hwv:waveC q=true
   ·rw[if_pos hwv]
    cases e:okW (cardS ws p).kind (cardS ws p).vals (cardS ws p).steps with
    |true=>rfl
    |false=>exact absurd ⟨hwv,e⟩ hw
   ·rw[if_neg hwv]
    unfold cardS
    rw[<-hq,if_neg hwv]
    split <;> exact⟨rfl,rfl,rfl⟩
theorem write_right {c:Cd}{ws:List (List UInt8)}(h:writeC c=some ws):RightC c/\ws=cwords c:=by
 unfold writeC at h
 split at h
 ·cases hr:readC (cwords c) with
  |error e=>simp only[hr]at h;cases h
  |ok d=>
   simp only[hr]at h
   split at h
   ·rename_i e
    cases h
    exact⟨e ▸ (read_right hr).1,rfl⟩
   ·cases h
 ·cases h
open Q (hid' Lett ErrV Tab)
open X (RS)
def rfM (k:UInt8):Option ME->Int
 |none=>81
 |some e=>if e.m.kind=(k.toNat:Int) then 0 else 81
def rfS (n:Nat):Option SE->Int
 |none=>81
 |some e=>if e.ports.length=n then 0 else 82
def rfF (s:SCE)(x:Cd):Int :=
 if x.name.getD 0 0=100∨x.name.getD 0 0=115 then rfM (x.name.getD 0 0) s.ms[s.ms.findIdx fun e=>e.m.name == x.ref]?
 else if x.name.getD 0 0=102∨x.name.getD 0 0=104 then (if (s.cd.any fun e=>e.c.name == x.ref)=true then 0 else 81)
 else if x.name.getD 0 0=120 then rfS x.nodes.length s.ss[s.ss.findIdx fun e=>e.name == x.ref]?
 else 0
theorem findIdx_of {α:Type}{q:α->Bool}:∀ {l:List α} {i:Nat},i<=l.length->(∀j (hj:j<l.length),j<i->q l[j]=false)->(∀h:i<l.length,q l[i]=true)->l.findIdx q=i
 | [],i,hi,_,_=>by simp at hi;subst hi;rfl
 |x::t,i,hi,h1,h2=>by
  rw[List.findIdx_cons]
  cases i with
  |zero=>
   have:=h2 (by simp)
   rw[show q x=true from this]
   rfl
  |succ i=>
   have:=h1 0 (by simp) (by omega)
   rw[show q x=false from this]
   show t.findIdx q+1=i+1
   rw[findIdx_of (l:=t) (i:=i) (by simpa using hi) (fun j hj hji=>h1 (j+1) (by simpa using hj) (by omega)) (fun h=>h2 (by simpa using h))]
theorem u8ne {c d:UInt8}{k:Int}(h:c≠d)(hk:(d.toNat:Int)=k):((c.toNat:Int) == k)=false:=by
 subst hk
 simp only[beq_eq_false_iff_ne]
 intro e
 exact h (UInt8.toNat_inj.1 (by omega))
theorem toL (l:List UInt8):(X.bs l).toList=l:=by rw[ByteArray.toList_eq,X.bs_list]
theorem nameM (l:List ME)(j:Nat)(hj:j<l.length):(nameC ((l.map ME.cells).getD j [])).toList=l[j].m.name:=by rw[map_getD ME.cells l j hj];exact toL _
theorem nameS (l:List SE)(j:Nat)(hj:j<l.length):(nameC ((l.map SE.cells).getD j [])).toList=l[j].name:=by rw[map_getD SE.cells l j hj];exact toL _
theorem nameCd (l:List CE)(j:Nat)(hj:j<l.length):(nameC ((l.map CE.cells).getD j [])).toList=l[j].c.name:=by rw[map_getD CE.cells l j hj];exact toL _
theorem refFault_any (e:SCE)(x:CE)(w:World)(h:e.ok w)(hz:e.sz)(hne:0<x.c.name.length) :
  Calls Tryz.prog 115 #[.agg e.cells.toArray,.agg x.cells.toArray] w fun r w'=>Kept w w'/\r=.returned (.int .i64 (rfF e x.c)):=by
 have HM:=hid' (fun V (K:Kept w V)=>find_model e.am e.ms.length e.cm (e.ms.map ME.cells) (X.bs x.c.ref) V (h.2.1.kept K).1 (fun y hy=>(cells_m e.ms y hy).len) (fun y hy=>(cells_m e.ms y hy).name) (Nat.le_trans hz.2.1.1 hz.2.1.2))
 have HS:=hid' (fun V (K:Kept w V)=>find_sub e.ab e.ss.length e.cb (e.ss.map SE.cells) (X.bs x.c.ref) V (h.2.2.kept K).1 (fun y hy=>(cells_s e.ss y hy).len) (fun y hy=>(cells_s e.ss y hy).name) (Nat.le_trans hz.2.2.1 hz.2.2.2))
 have HC:=hid' (fun V (K:Kept w V)=>find_card e.ac e.cd.length e.cc (e.cd.map CE.cells) (X.bs x.c.ref) V (h.1.kept K).1 (fun y hy=>(cells_c e.cd y hy).len) (fun y hy=>(cells_c e.cd y hy).name) (Nat.le_trans hz.1.1 hz.1.2.1))
 have HH:=hid' h
 obtain⟨fin,hfin⟩:∃f,f=rfF e x.c:=⟨_,rfl⟩
 rw[<-hfin]
 have HF:=hid' hfin
 have hbm:=Nat.le_trans hz.2.1.1 hz.2.1.2
 have hbs:=Nat.le_trans hz.2.2.1 hz.2.2.2
 clear h hz hfin
 obtain⟨E,hE⟩:∃E:SCE,E=e:=⟨_,rfl⟩
 rw[<-hE]at HF HH
 obtain⟨cd,ac,cc,ms,am,cm,ss,ab,cb⟩:=e
 obtain⟨⟨nm,nds,rf,⟨vm,vx⟩,kd,vls,sts⟩,a1,c1,a2,c2,a3,c3⟩:=x
 show Calls Tryz.prog 115 #[.agg #[.slice ac cd.length cc,.slice am ms.length cm,.slice ab ss.length cb],.agg #[.string (X.bs nm),.slice a1 nds.length c1,.string (X.bs rf),.int .i64 vm,.int .i64 vx,.int .i64 kd,.slice a2 vls.length c2,.slice a3 sts.length c3]] w _
 simp only at HM HS HC HF hne hbm hbs
 have HEE:=hid' hE
 obtain⟨s1,hs1⟩:∃s,s=X.bs nm:=⟨_,rfl⟩
 obtain⟨t,ht⟩:∃s,s=X.bs rf:=⟨_,rfl⟩
 rw[<-hs1,<-ht]
 rw[<-ht]at HM HS HC
 have hsz:0<s1.size:=by rw[hs1,X.bs_size];exact hne
 have hszi:(0:Int)<(s1.size:Int):=by omega
 have HQ:=hid' (show s1[0]=nm.getD 0 0 from head_of hsz hs1)
 have HT:=hid' (show t.toList=rf by rw[ht];exact toL _)
 obtain⟨ncd,hncd⟩:∃n,n=cd.length:=⟨_,rfl⟩
 obtain⟨nms,hnms⟩:∃n,n=ms.length:=⟨_,rfl⟩
 obtain⟨nss,hnss⟩:∃n,n=ss.length:=⟨_,rfl⟩
 obtain⟨nn,hnn⟩:∃n,n=nds.length:=⟨_,rfl⟩
 generalize vls.length=nv
 generalize sts.length=ns
 rw[<-hncd]at HC ⊢
 rw[<-hnms]at HM hbm ⊢
 rw[<-hnss]at HS hbs ⊢
 rw[<-hnn]
 have HN:=hid' (And.intro hncd (And.intro hnms (And.intro hnss hnn)))
 have HOM:=hid' (show MsR w (.slice am nms cm) ms by have:=HH.out.2.1;rw[HEE.out]at this;rw[hnms];exact this)
 have HOS:=hid' (show SsR w (.slice ab nss cb) ss by have:=HH.out.2.2;rw[HEE.out]at this;rw[hnss];exact this)
 have HF2:=hid' (show fin=(if nm.getD 0 0=100∨nm.getD 0 0=115 then rfM (nm.getD 0 0) ms[ms.findIdx fun e=>e.m.name == rf]?
 else if nm.getD 0 0=102∨nm.getD 0 0=104 then (if (cd.any fun e=>e.c.name == rf)=true then 0 else 81)
 else if nm.getD 0 0=120 then rfS nn ss[ss.findIdx fun e=>e.name == rf]? else 0) by rw[HF.out,HEE.out,hnn];rfl)
 clear hE hs1 ht hne hncd hnms hnss hnn HH HF HEE
 have kA:=((Kept.refl w).alloc (.cells #[.slice ac ncd cc,.slice am nms cm,.slice ab nss cb] 130)).alloc (.cells #[.string s1,.slice a1 nn c1,.string t,.int .i64 vm,.int .i64 vx,.int .i64 kd,.slice a2 nv c2,.slice a3 ns c3] 110)
 have hA:=(RowL.alloc 130 w [.slice ac ncd cc,.slice am nms cm,.slice ab nss cb]).kept ((Kept.refl _).alloc (.cells #[.string s1,.slice a1 nn c1,.string t,.int .i64 vm,.int .i64 vx,.int .i64 kd,.slice a2 nv c2,.slice a3 ns c3] 110))
 have hB:=RowL.alloc 110 (w.alloc (.cells #[.slice ac ncd cc,.slice am nms cm,.slice ab nss cb] 130)) [.string s1,.slice a1 nn c1,.string t,.int .i64 vm,.int .i64 vx,.int .i64 kd,.slice a2 nv c2,.slice a3 ns c3]
 rw[World.size_alloc]at hB
 go_enter Tryz.func115,Tryz.ntmps115
 go_upto_region 1 with fail
 generalize (w.alloc (.cells #[.slice ac ncd cc,.slice am nms cm,.slice ab nss cb] 130)).alloc (.cells #[.string s1,.slice a1 nn c1,.string t,.int .i64 vm,.int .i64 vx,.int .i64 kd,.slice a2 nv c2,.slice a3 ns c3] 110)=W at kA hA hB ⊢
 obtain⟨q,hq⟩:∃q,q=w.heap.size+1:=⟨_,rfl⟩
 rw[<-hq]at hB ⊢
 obtain⟨p,hp⟩:∃q,q=w.heap.size:=⟨_,rfl⟩
 rw[<-hp]at hA ⊢
 have HK:=hid' kA
 have HA:=hid' hA
 have HB:=hid' hB
 have g0:=hB.cell 0 (.string s1)
 have g2:=hB.cell 2 (.string t)
 have f0:=hA.cell 0 (.slice ac ncd cc)
 have f1:=hA.cell 1 (.slice am nms cm)
 have f2:=hA.cell 2 (.slice ab nss cb)
 clear hq hp kA hA hB
 by_cases k1:nm.getD 0 0=100∨nm.getD 0 0=115
 ·have HE:=hid' (HF2.out.trans (if_pos k1))
  have hl:((s1[0].toNat:Int) == 100)=true∨(((s1[0].toNat:Int) == 100)=false/\((s1[0].toNat:Int) == 115)=true):=by
   rw[HQ.out]
   rcases k1 with e|e <;> rw[e]
   ·exact .inl rfl
   ·exact .inr ⟨rfl,rfl⟩
  clear k1 HF2
  rcases hl with l1|⟨l1,l2⟩
  all_goals
   go_wp2_with fail
   refine(HM.out _ HK.out).mono ?_
   rintro r w2 ⟨hk,i,hi,h1,h2,rfl⟩
   have HK:=hid' (HK.out.trans hk)
   have HA:=hid' (HA.out.kept hk)
   have hfi:(ms.findIdx fun e=>e.m.name == rf)=i:=findIdx_of (by rw[<-HN.out.2.1];exact hi) (fun j hj hji=>by have:=h1 j hji;simp only at this;rw[nameM ms j hj,HT.out]at this;exact this) (fun hil=>by have:=h2 (by rw[HN.out.2.1];exact hil);simp only at this;rw[nameM ms i hil,HT.out]at this;exact this)
   rw[hfi]at HE
   clear hk h1 h2 hfi f0 f1 f2 g0 g2
   by_cases hin:i=nms
   ·rw[if_pos hin]
    have HE:=hid' (show fin=81 by rw[HE.out,List.getElem?_eq_none (by have:=HN.out;omega)];rfl)
    clear hin
    go_wp2_with fail
    go_ret
    exact⟨HK.out,by rw[HE.out];rfl⟩
   ·rw[if_neg hin]
    have hil:i<nms:=by omega
    have hiS:i<ms.length:=by have:=HN.out;omega
    have hii:(i:Int)<(nms:Int):=by omega
    have hi0:(0:Int)<=(i:Int):=by omega
    have hin0:¬(i:Int)<0:=by omega
    have hRk:=HOM.out.1.kept HK.out
    obtain⟨ao',cap',hv,hx⟩:=hRk
    simp only[Value.slice.injEq]at hv
    obtain⟨rfl,hnn,rfl⟩:=hv
    obtain⟨b,off,rfl,hb,hc⟩:=hx (by omega)
    have c1:=hc i (by omega) 1 (by omega)
    rw[map_getD ME.cells ms i hiS]at c1
    simp only[ME.cells,List.getD_cons_zero,List.getD_cons_succ]at c1
    have f1:=HA.out.cell 1 (.slice (some ⟨b,off,none⟩) nms cm)
    obtain⟨mk,hmk⟩:∃k,k=ms[i].m.kind:=⟨_,rfl⟩
    rw[<-hmk]at c1
    have HE:=hid' (show fin=if mk=(s1[0].toNat:Int) then 0 else 81 by rw[HE.out,List.getElem?_eq_getElem hiS,HQ.out,hmk];rfl)
    clear hx hc hb hnn hmk hin
    by_cases hk9:mk=(s1[0].toNat:Int)
    ·have hkb:(mk != (s1[0].toNat:Int))=false:=by rw[hk9];simp
     have HE:=hid' (HE.out.trans (if_pos hk9))
     clear hk9
     go_wp2_with fail
     go_ret
     exact⟨HK.out,by rw[HE.out];rfl⟩
    ·have hkb:(mk != (s1[0].toNat:Int))=true:=by simpa using hk9
     have HE:=hid' (HE.out.trans (if_neg hk9))
     clear hk9
     go_wp2_with fail
     go_ret
     exact⟨HK.out,by rw[HE.out];rfl⟩
 have n1:((s1[0].toNat:Int) == 100)=false:=by rw[HQ.out];exact u8ne (d:=100) (fun e=>k1 (.inl e)) rfl
 have n2:((s1[0].toNat:Int) == 115)=false:=by rw[HQ.out];exact u8ne (d:=115) (fun e=>k1 (.inr e)) rfl
 have HF2:=hid' (HF2.out.trans (if_neg k1))
 clear k1
 by_cases k2:nm.getD 0 0=102∨nm.getD 0 0=104
 ·have HE:=hid' (HF2.out.trans (if_pos k2))
  have hl:((s1[0].toNat:Int) == 102)=true∨(((s1[0].toNat:Int) == 102)=false/\((s1[0].toNat:Int) == 104)=true):=by
   rw[HQ.out]
   rcases k2 with e|e <;> rw[e]
   ·exact .inl rfl
   ·exact .inr ⟨rfl,rfl⟩
  clear k2 HF2
  rcases hl with l1|⟨l1,l2⟩
  all_goals
   go_wp2_with fail
   refine(HC.out _ HK.out).mono ?_
   rintro r w2 ⟨hk,hidx⟩
   have HK:=hid' (HK.out.trans hk)
   obtain⟨z,rfl,hzz⟩:=idx_any hidx
   have hany:anyB (fun j=>(nameC ((cd.map CE.cells).getD j [])).toList == t.toList) ncd=cd.any fun e=>e.c.name == rf:=by
    rw[HN.out.1]
    exact any_get cd (fun e=>e.c.name == rf) _ (fun j hj=>by rw[nameCd cd j hj,HT.out])
   rw[hany]at hzz
   clear hk hidx hany f0 f1 f2 g0 g2
   cases hb:(cd.any fun e=>e.c.name == rf)
   ·rw[hb]at hzz
    have hz0:z<0:=by have:=of_decide_eq_false hzz;omega
    have HE:=hid' (show fin=81 by rw[HE.out,hb];rfl)
    clear hzz hb
    go_wp2_with fail
    go_ret
    exact⟨HK.out,by rw[HE.out];rfl⟩
   ·rw[hb]at hzz
    have hz0:¬z<0:=by have:=of_decide_eq_true hzz;omega
    have HE:=hid' (show fin=0 by rw[HE.out,hb];rfl)
    clear hzz hb
    go_wp2_with fail
    go_ret
    exact⟨HK.out,by rw[HE.out];rfl⟩
 have n3:((s1[0].toNat:Int) == 102)=false:=by rw[HQ.out];exact u8ne (d:=102) (fun e=>k2 (.inl e)) rfl
 have n4:((s1[0].toNat:Int) == 104)=false:=by rw[HQ.out];exact u8ne (d:=104) (fun e=>k2 (.inr e)) rfl
 have HF2:=hid' (HF2.out.trans (if_neg k2))
 clear k2
 by_cases k3:nm.getD 0 0=120
 ·have HE:=hid' (HF2.out.trans (if_pos k3))
  have n5:((s1[0].toNat:Int) == 120)=true:=by rw[HQ.out,k3];rfl
  clear k3 HF2
  go_wp2_with fail
  refine(HS.out _ HK.out).mono ?_
  rintro r w2 ⟨hk,i,hi,h1,h2,rfl⟩
  have HK:=hid' (HK.out.trans hk)
  have HA:=hid' (HA.out.kept hk)
  have HB:=hid' (HB.out.kept hk)
  have hfi:(ss.findIdx fun e=>e.name == rf)=i:=findIdx_of (by rw[<-HN.out.2.2.1];exact hi) (fun j hj hji=>by have:=h1 j hji;simp only at this;rw[nameS ss j hj,HT.out]at this;exact this) (fun hil=>by have:=h2 (by rw[HN.out.2.2.1];exact hil);simp only at this;rw[nameS ss i hil,HT.out]at this;exact this)
  rw[hfi]at HE
  clear hk h1 h2 hfi f0 f1 f2 g0 g2
  by_cases hin:i=nss
  ·rw[if_pos hin]
   have HE:=hid' (show fin=81 by rw[HE.out,List.getElem?_eq_none (by have:=HN.out;omega)];rfl)
   clear hin
   go_wp2_with fail
   go_ret
   exact⟨HK.out,by rw[HE.out];rfl⟩
  ·rw[if_neg hin]
   have hil:i<nss:=by omega
   have hiS:i<ss.length:=by have:=HN.out;omega
   have hii:(i:Int)<(nss:Int):=by omega
   have hi0:(0:Int)<=(i:Int):=by omega
   have hin0:¬(i:Int)<0:=by omega
   obtain⟨ao',cap',hv,hx⟩:=HOS.out.1
   simp only[Value.slice.injEq]at hv
   obtain⟨rfl,hnn,rfl⟩:=hv
   obtain⟨b,off,rfl,hb,hc⟩:=hx (by omega)
   have c1:=hc i (by omega) 1 (by omega)
   rw[map_getD SE.cells ss i hiS]at c1
   simp only[SE.cells,List.getD_cons_zero,List.getD_cons_succ]at c1
   obtain⟨np,hnp⟩:∃k,k=ss[i].ports.length:=⟨_,rfl⟩
   rw[<-hnp]at c1
   have HE:=hid' (show fin=if np=nn then 0 else 82 by rw[HE.out,List.getElem?_eq_getElem hiS,hnp];rfl)
   generalize ss[i].ap=pa at c1
   generalize ss[i].cp=pc at c1
   have C1:=hid' (And.intro hb c1)
   clear hx hc hb hnn hnp hin c1
   go_upto_region 16 with fail
   have sS:=hid' (fun (V:World) (K:Kept w2 V)=>And.intro ((HA.out.kept K).cell 2 (.slice (some ⟨b,off,none⟩) nss cb)) (And.intro ((HB.out.kept K).cell 1 (.slice a1 nn c1)) ((Below.cell (HK.out.trans K) (p:=⟨b,off+i*3+1,none⟩) C1.out.1).trans C1.out.2)))
   have KT:Kept w2 w2.drew:=(Kept.refl _).drew
   refine wp_region_held_drew (S:=fun w'=>w'.cell? ⟨p,2,none⟩=some (.slice (some ⟨b,off,none⟩) nss cb)/\w'.cell? ⟨q,1,none⟩=some (.slice a1 nn c1)/\w'.cell? ⟨b,off+i*3+1,none⟩=some (.slice pa np pc)) (by kernel_rfl) (sS.out _ KT) (fun hHeld=>?_)
   generalize w2.drew=Wd at KT hHeld ⊢
   refine tk 0 hHeld ?_
   refine tk 1 hHeld ?_
   refine tk 2 hHeld ?_
   refine tk 3 hHeld ?_
   refine tk 4 hHeld ?_
   refine tk 5 hHeld ?_
   refine tk 6 hHeld ?_
   refine tk 7 hHeld ?_
   refine tk 8 hHeld ?_
   refine tk 9 hHeld ?_
   by_cases hk9:np=nn
   ·subst hk9
    have HE:=hid' (HE.out.trans (if_pos rfl))
    refine tk 10 hHeld ?_
    refine dn ?_
    have HK:=hid' (HK.out.trans KT)
    clear KT hHeld
    go_wp2_with fail
    go_ret
    exact⟨HK.out,by rw[HE.out];rfl⟩
   ·have hkb:((np:Int) != (nn:Int))=true:=by
     have:¬(np:Int)=(nn:Int):=by omega
     simpa using this
    have HE:=hid' (HE.out.trans (if_neg hk9))
    refine tk 10 hHeld ?_
    refine dn ?_
    have HK:=hid' (HK.out.trans KT)
    clear KT hHeld hk9
    go_wp2_with fail
    go_ret
    exact⟨HK.out,by rw[HE.out];rfl⟩
 have n5:((s1[0].toNat:Int) == 120)=false:=by rw[HQ.out];exact u8ne (d:=120) (fun e=>k3 (e)) rfl
 have HE:=hid' (HF2.out.trans (if_neg k3))
 clear k3
 go_wp2_with fail
 go_ret
 exact⟨HK.out,by rw[HE.out];rfl⟩
open Q (hid' Lett ErrV Tab)
open X (RS)
def hasR (r:Int)(s:SCE):Bool:=s.cd.any fun x=>rfF s x.c == r
def refsF (c:Ci):Int:=if ((scOf c).any (hasR 81))=true then 81 else if ((scOf c).any (hasR 82))=true then 82 else 0
theorem any_take {α:Type}(l:List α)(q:α->Bool)(i:Nat)(hi:i<l.length):(l.take (i+1)).any q=((l.take i).any q||q l[i]):=by
 rw[List.take_succ_eq_append_getElem hi,List.any_append,List.any_cons,List.any_nil,Bool.or_false]
theorem any_at {α:Type}(l:List α)(q:α->Bool)(i:Nat)(hi:i<l.length)(h:q l[i]=true):l.any q=true:=List.any_eq_true.2 ⟨_,List.getElem_mem hi,h⟩
theorem refsFault_any (c:Ci)(w:World)(h:c.ok w)(hz:c.sz)(hne:∀s∈scOf c,∀x∈s.cd,0<x.c.name.length) :
  Calls Tryz.prog 74 #[.agg c.cells.toArray] w fun r w'=>Kept w w'/\r=.returned (.int .i64 (refsF c)):=by
 have HS:=hid' (fun V (K:Kept w V)=>scopes_any c V (h.kept K) hz)
 have HR:=hid' (fun V (K:Kept w V) i (hi:i<(scOf c).length) j (hj:j<(scOf c)[i].cd.length)=>refFault_any (scOf c)[i] (scOf c)[i].cd[j] V ((scOf_ok h _ (List.getElem_mem hi)).kept K) (scOf_sz hz _ (List.getElem_mem hi)) (hne _ (List.getElem_mem hi) _ (List.getElem_mem hj)))
 have HO:=hid' (fun i (hi:i<(scOf c).length)=>(scOf_ok h _ (List.getElem_mem hi)).1)
 have HZ:=hid' (fun i (hi:i<(scOf c).length)=>(scOf_sz hz _ (List.getElem_mem hi)).1)
 have hNb:=scOf_len hz
 obtain⟨fin,hfin⟩:∃f,f=refsF c:=⟨_,rfl⟩
 rw[<-hfin]
 have HF:=hid' (show fin=if ((scOf c).any (hasR 81))=true then 81 else if ((scOf c).any (hasR 82))=true then 82 else 0 from hfin)
 have HCC:=hid' (show c.cells=[.int .i64 c.m,.int .i64 c.x,.int .i64 c.meth,.slice c.am c.ms.length c.cm,.slice c.ab c.ss.length c.cb,.slice c.ac c.cd.length c.cc] from rfl)
 clear h hz hne hfin
 generalize scOf c=L at HS HR HO HZ hNb HF
 have HS2:=hid' (show ∀V,Kept w V->Calls Tryz.prog 99 #[.agg #[.int .i64 c.m,.int .i64 c.x,.int .i64 c.meth,.slice c.am c.ms.length c.cm,.slice c.ab c.ss.length c.cb,.slice c.ac c.cd.length c.cc]] V fun r w'=>Kept V w'/\∃ao k,r=.returned (.slice ao L.length k)/\RowsR 3 w' (.slice ao L.length k) (L.map SCE.cells) by
  intro V K
  have:=HS.out V K
  rw[HCC.out]at this
  exact this)
 rw[HCC.out]
 obtain⟨m,x,meth,ms,am,cm,ss,ab,cb,cd,ac,cc⟩:=c
 show Calls Tryz.prog 74 #[.agg #[.int .i64 m,.int .i64 x,.int .i64 meth,.slice am ms.length cm,.slice ab ss.length cb,.slice ac cd.length cc]] w _
 simp only at HS2
 clear HS HCC
 obtain⟨N,hN⟩:∃n,n=L.length:=⟨_,rfl⟩
 rw[<-hN]at HS2 hNb
 have HN:=hid' hN
 clear hN
 have kA:=(Kept.refl w).alloc (.cells #[.int .i64 m,.int .i64 x,.int .i64 meth,.slice am ms.length cm,.slice ab ss.length cb,.slice ac cd.length cc] 92)
 go_enter Tryz.func74,Tryz.ntmps74
 go_wp2_with fail
 refine(HS2.out _ kA).mono ?_
 rintro r w1 ⟨hk,ao,k,rfl,hr⟩
 have HI:=hid' (And.intro (kA.trans hk) hr)
 clear kA hk hr
 go_wp2_with fail
 go_loopw [3,11] (fun v3 v11 wr=>∃(i:Nat) (f:Int),i<=N/\v3=.int .i64 f/\v11=.int .i64 (i:Int)/\Hid (Kept w wr/\RowsR 3 wr (.slice ao N k) (L.map SCE.cells))/\Hid (f=(if ((L.take i).any (hasR 82))=true then 82 else 0)/\(L.take i).any (hasR 81)=false)) (fun _ v11 _=>N-(intOf v11).toNat)
 case atStart=>exact⟨0,0,Nat.zero_le _,rfl,rfl,HI.out,rfl,rfl⟩
 case round=>
  obtain⟨i,f,hi,rfl,rfl,H,HV⟩:=hrel
  clear HI
  by_cases hit:i<N
  ·have hii:(i:Int)<(N:Int):=by omega
   have hi0:(0:Int)<=(i:Int):=by omega
   have hiL:i<L.length:=by have:=HN.out;omega
   obtain⟨ao',cap',hv,hx⟩:=H.out.2
   simp only[Value.slice.injEq]at hv
   obtain⟨rfl,hnn,rfl⟩:=hv
   obtain⟨b,off,rfl,hb,hc⟩:=hx (by rw[<-hnn];omega)
   have hxx:=map_getD SCE.cells L i hiL
   have d0:=hc i (by omega) 0 (by omega)
   have d1:=hc i (by omega) 1 (by omega)
   have d2:=hc i (by omega) 2 (by omega)
   rw[hxx]at d0 d1 d2
   have HRi:=hid' (fun V (K:Kept w V) j hj=>HR.out V K i hiL j hj)
   have HOi:=hid' (HO.out i hiL)
   have HZi:=hid' (HZ.out i hiL)
   have HTK:=hid' (And.intro (any_take L (hasR 81) i hiL) (And.intro (any_take L (hasR 82) i hiL) (any_at L (hasR 81) i hiL)))
   generalize hsE:L[i]=sE at hxx d0 d1 d2 HRi HOi HZi HTK
   clear hxx hx hc hb hnn hsE
   have HH81:=hid' (show hasR 81 sE=sE.cd.any fun x=>rfF sE x.c == 81 from rfl)
   have HH82:=hid' (show hasR 82 sE=sE.cd.any fun x=>rfF sE x.c == 82 from rfl)
   obtain⟨gF,hgF⟩:∃g,g=rfF sE:=⟨_,rfl⟩
   rw[<-hgF]at HRi HH81 HH82
   generalize hasR 81 sE=h81 at HTK HH81
   generalize hasR 82 sE=h82 at HTK HH82
   obtain⟨scd,sac,scc,sms,sam,scm,sss,sab,scb⟩:=sE
   simp only[SCE.cells,List.getD_cons_zero]at d0
   simp only[SCE.cells,List.getD_cons_zero,List.getD_cons_succ]at d1
   simp only[SCE.cells,List.getD_cons_zero,List.getD_cons_succ]at d2
   rw[Nat.add_zero]at d0
   simp only at HOi HZi HH81 HH82
   obtain⟨ncd,hncd⟩:∃n,n=scd.length:=⟨_,rfl⟩
   have HRj:=hid' (show ∀V,Kept w V->∀j (hj:j<scd.length),Calls Tryz.prog 115 #[.agg #[.slice sac ncd scc,.slice sam sms.length scm,.slice sab sss.length scb],.agg scd[j].cells.toArray] V fun r w'=>Kept V w'/\r=.returned (.int .i64 (gF scd[j].c)) from fun V K j hj=>by rw[hncd];exact HRi.out V K j hj)
   clear HRi hgF
   generalize sms.length=nms at d1 HRj
   generalize sss.length=nss at d2 HRj
   rw[<-hncd]at d0 HOi
   have HNC:=hid' (And.intro hncd (show ncd<=9223372036854775807 by rw[hncd];exact Nat.le_trans HZi.out.1 HZi.out.2.1))
   have hncb:=HNC.out.2
   clear hncd
   have kS:=(Kept.refl wr).alloc (.cells #[.slice sac ncd scc,.slice sam nms scm,.slice sab nss scb] 130)
   have hSr:=RowL.alloc 130 wr [.slice sac ncd scc,.slice sam nms scm,.slice sab nss scb]
   go_upto_region 5 with fail
   generalize wr.alloc (.cells #[.slice sac ncd scc,.slice sam nms scm,.slice sab nss scb] 130)=W at kS hSr ⊢
   obtain⟨p,hp⟩:∃q,q=wr.heap.size:=⟨_,rfl⟩
   rw[<-hp]at hSr ⊢
   clear hp d0 d1 d2
   have HJ:=hid' (And.intro (H.out.1.trans kS) (And.intro hSr (H.out.2.kept kS)))
   have e0:=hSr.cell 0 (.slice sac ncd scc)
   clear kS hSr
   go_wp2_with fail
   clear e0
   go_loopw [3,18] (fun v3 v18 wr=>∃(j:Nat) (f:Int),j<=ncd/\v3=.int .i64 f/\v18=.int .i64 (j:Int)/\Hid (Kept w wr/\RowL 130 wr p [.slice sac ncd scc,.slice sam nms scm,.slice sab nss scb]/\RowsR 3 wr (.slice (some ⟨b,off,none⟩) N k) (L.map SCE.cells))/\Hid (f=(if ((L.take i).any (hasR 82)||(scd.take j).any fun x=>gF x.c == 82)=true then 82 else 0)/\((scd.take j).any fun x=>gF x.c == 81)=false)) (fun _ v18 _=>ncd-(intOf v18).toNat)
   case atStart=>exact⟨0,f,Nat.zero_le _,rfl,rfl,HJ.out,by rw[HV.out.1];simp,rfl⟩
   case round=>
    have HFv:=HV
    clear HV HJ
    obtain⟨j,f2,hj,rfl,rfl,HJ,HW⟩:=hrel
    by_cases hjt:j<ncd
    ·have hji:(j:Int)<(ncd:Int):=by omega
     have hj0:(0:Int)<=(j:Int):=by omega
     have hjL:j<scd.length:=by have:=HNC.out.1;omega
     obtain⟨ao',cap',hv,hx⟩:=HOi.out.1.kept HJ.out.1
     simp only[Value.slice.injEq]at hv
     obtain⟨rfl,hnn,rfl⟩:=hv
     obtain⟨cb',coff,rfl,hb,hc⟩:=hx (by omega)
     have hxx:=map_getD CE.cells scd j hjL
     have HRx:=hid' (fun V (K:Kept w V)=>HRj.out V K j hjL)
     have HT81:=hid' (any_take scd (fun x=>gF x.c == 81) j hjL)
     have HT82:=hid' (any_take scd (fun x=>gF x.c == 82) j hjL)
     have HA81:=hid' (any_at scd (fun x=>gF x.c == 81) j hjL)
     generalize hxE:scd[j]=xE at hxx HRx HT81 HT82 HA81
     have c0':=hc j (by omega) 0 (by omega)
     have c1':=hc j (by omega) 1 (by omega)
     have c2':=hc j (by omega) 2 (by omega)
     have c3':=hc j (by omega) 3 (by omega)
     have c4':=hc j (by omega) 4 (by omega)
     have c5':=hc j (by omega) 5 (by omega)
     have c6':=hc j (by omega) 6 (by omega)
     have c7':=hc j (by omega) 7 (by omega)
     rw[hxx]at c0' c1' c2' c3' c4' c5' c6' c7'
     simp only[CE.cells,List.getD_cons_zero]at c0'
     simp only[CE.cells,List.getD_cons_zero,List.getD_cons_succ]at c1'
     simp only[CE.cells,List.getD_cons_zero,List.getD_cons_succ]at c2'
     simp only[CE.cells,List.getD_cons_zero,List.getD_cons_succ]at c3'
     simp only[CE.cells,List.getD_cons_zero,List.getD_cons_succ]at c4'
     simp only[CE.cells,List.getD_cons_zero,List.getD_cons_succ]at c5'
     simp only[CE.cells,List.getD_cons_zero,List.getD_cons_succ]at c6'
     simp only[CE.cells,List.getD_cons_zero,List.getD_cons_succ]at c7'
     rw[Nat.add_zero]at c0'
     obtain⟨z,hzE⟩:∃z,z=gF xE.c:=⟨_,rfl⟩
     rw[<-hzE]at HRx HT81 HT82 HA81
     obtain⟨⟨nm,nds,rf,⟨vm,vx⟩,kd,vls,sts⟩,a1,c1,a2,c2,a3,c3⟩:=xE
     simp only at c0' c1' c2' c3' c4' c5' c6' c7'
     have HRz:=hid' (show ∀V,Kept w V->Calls Tryz.prog 115 #[.agg #[.slice (some ⟨cb',coff,none⟩) ncd scc,.slice sam nms scm,.slice sab nss scb],.agg #[.string (X.bs nm),.slice a1 nds.length c1,.string (X.bs rf),.int .i64 vm,.int .i64 vx,.int .i64 kd,.slice a2 vls.length c2,.slice a3 sts.length c3]] V fun r w'=>Kept V w'/\r=.returned (.int .i64 z) from HRx.out)
     generalize X.bs nm=s1 at c0' HRz
     generalize X.bs rf=t at c2' HRz
     generalize nds.length=nn at c1' HRz
     generalize vls.length=nv at c6' HRz
     generalize sts.length=ns at c7' HRz
     clear HRx hxx hx hc hb hnn hxE hzE
     have kX:=(Kept.refl wr).alloc (.cells #[.string s1,.slice a1 nn c1,.string t,.int .i64 vm,.int .i64 vx,.int .i64 kd,.slice a2 nv c2,.slice a3 ns c3] 110)
     have hX:=RowL.alloc 110 wr [.string s1,.slice a1 nn c1,.string t,.int .i64 vm,.int .i64 vx,.int .i64 kd,.slice a2 nv c2,.slice a3 ns c3]
     go_upto_region 8 with fail
     generalize wr.alloc (.cells #[.string s1,.slice a1 nn c1,.string t,.int .i64 vm,.int .i64 vx,.int .i64 kd,.slice a2 nv c2,.slice a3 ns c3] 110)=W2 at kX hX ⊢
     obtain⟨q,hq⟩:∃q,q=wr.heap.size:=⟨_,rfl⟩
     rw[<-hq]at hX ⊢
     clear hq c0' c1' c2' c3' c4' c5' c6' c7'
     have HJ:=hid' (And.intro (HJ.out.1.trans kX) (And.intro (HJ.out.2.1.kept kX) (HJ.out.2.2.kept kX)))
     have e0:=HJ.out.2.1.cell 0 (.slice (some ⟨cb',coff,none⟩) ncd scc)
     have e1:=HJ.out.2.1.cell 1 (.slice sam nms scm)
     have e2:=HJ.out.2.1.cell 2 (.slice sab nss scb)
     have g0:=hX.cell 0 (.string s1)
     have g1:=hX.cell 1 (.slice a1 nn c1)
     have g2:=hX.cell 2 (.string t)
     have g3:=hX.cell 3 (.int .i64 vm)
     have g4:=hX.cell 4 (.int .i64 vx)
     have g5:=hX.cell 5 (.int .i64 kd)
     have g6:=hX.cell 6 (.slice a2 nv c2)
     have g7:=hX.cell 7 (.slice a3 ns c3)
     clear kX hX
     go_wp2_with fail
     refine(HRz.out _ HJ.out.1).mono ?_
     rintro r w5 ⟨hk5,rfl⟩
     have HJ:=hid' (And.intro (HJ.out.1.trans hk5) (And.intro (HJ.out.2.1.kept hk5) (HJ.out.2.2.kept hk5)))
     clear hk5 e0 e1 e2 g0 g1 g2 g3 g4 g5 g6 g7
     by_cases z81:z=81
     ·have HE:=hid' (show fin=81 by rw[HF.out,if_pos (HTK.out.2.2 (by rw[HH81.out];exact HA81.out (by rw[z81];rfl)))])
      have zb:(z == 81)=true:=by rw[z81];rfl
      clear z81
      go_wp2_with fail
      go_ret
      exact⟨HJ.out.1,by rw[HE.out];rfl⟩
     have zb:(z == 81)=false:=by simpa using z81
     have HN81:=hid' (show ((scd.take (j+1)).any fun x=>gF x.c == 81)=false by rw[HT81.out,HW.out.2,zb];rfl)
     by_cases z82:z=82
     ·have yb:(z == 82)=true:=by rw[z82];rfl
      have HN82:=hid' (show (82:Int)=(if ((L.take i).any (hasR 82)||(scd.take (j+1)).any fun x=>gF x.c == 82)=true then 82 else 0) by rw[HT82.out,yb];simp)
      clear z81 z82
      go_wp2_with fail
      go_roundw
      case rel=>exact⟨j+1,82,by omega,rfl,by go_num,HJ.out,HN82.out,HN81.out⟩
      case measure=>show ncd-((j:Int)+1).toNat<ncd-(j:Int).toNat;omega
     ·have yb:(z == 82)=false:=by simpa using z82
      have HN82:=hid' (show f2=(if ((L.take i).any (hasR 82)||(scd.take (j+1)).any fun x=>gF x.c == 82)=true then 82 else 0) by rw[HT82.out,yb,Bool.or_false];exact HW.out.1)
      clear z81 z82
      go_wp2_with fail
      go_roundw
      case rel=>exact⟨j+1,f2,by omega,rfl,by go_num,HJ.out,HN82.out,HN81.out⟩
      case measure=>show ncd-((j:Int)+1).toNat<ncd-(j:Int).toNat;omega
    ·have hji:¬(j:Int)<(ncd:Int):=by omega
     have hjl:scd.take j=scd:=List.take_of_length_le (by have:=HNC.out.1;omega)
     have HN2:=hid' (show f2=(if ((L.take (i+1)).any (hasR 82))=true then 82 else 0)/\(L.take (i+1)).any (hasR 81)=false by
      have h9:=HW.out
      rw[hjl,<-HH82.out,<-HH81.out]at h9
      rw[HTK.out.1,HTK.out.2.1]
      exact⟨h9.1,by rw[HFv.out.2,h9.2];rfl⟩)
     clear hjl
     go_wp2_with fail
     go_roundw
     case rel=>exact⟨i+1,f2,by omega,rfl,by go_num,⟨HJ.out.1,HJ.out.2.2⟩,HN2.out⟩
     case measure=>show N-((i:Int)+1).toNat<N-(i:Int).toNat;omega
  ·have hii:¬(i:Int)<(N:Int):=by omega
   have hl:L.take i=L:=List.take_of_length_le (by have:=HN.out;omega)
   have HE:=hid' (show fin=f by
    have h9:=HV.out
    rw[hl]at h9
    rw[HF.out,if_neg (by rw[h9.2];decide)]
    exact h9.1.symm)
   clear hl
   go_wp2_with fail
   go_ret
   exact⟨H.out.1,by rw[HE.out];rfl⟩
open Q (hid' parseOf Lett ErrV Tab okN textOf)
open X (bs OwnS RS strs bs_list bs_size)
theorem nsl_none (w:World):NSl w (.slice none 0 0) []:=⟨none,0,rfl,fun h=>absurd h (by decide)⟩
theorem tx_sz2 (p:Int×Int):(tx p).length<=9223372036854775807:=by
 unfold tx
 split
 ·rename_i h;have:=(Q.back h).2;omega
 ·simp
theorem itoa_sz {s:Int}(h0:0<=s)(h1:s<=1000000000):(Lib.itoa s).length<=9223372036854775807:=by
 rw[Q.itoa_sg,decide_eq_false (by omega)]
 have:(Lib.decDigits s.natAbs).length<=10:=Q.dec_len (by decide) (Nat.lt_of_le_of_lt (show s.natAbs<=1000000000 by omega) (by decide))
 show ([]++Lib.decDigits s.natAbs).length<=_
 rw[List.nil_append]
 omega
theorem pwlW_sz:∀(vs:List (Int×Int)) (ss:List Int),(∀s∈ss,0<=s/\s<=1000000000)->∀x∈pwlW vs ss,x.length<=9223372036854775807
 | [],_,_,x,hx=>by simp[pwlW]at hx
 |_::_,[],_,x,hx=>by simp[pwlW]at hx
 |v::vs,s::ss,h,x,hx=>by
  rw[pwlW]at hx
  simp only[List.mem_cons]at hx
  rcases hx with rfl|rfl|hx
  ·exact itoa_sz (h s (by simp)).1 (h s (by simp)).2
  ·exact tx_sz2 v
  ·exact pwlW_sz vs ss (fun y hy=>h y (by simp[hy])) x hx
theorem obo_sz {vs:List (Int×Int)}{ss:List Int}(h:∀s∈ss,0<=s/\s<=1000000000):∀x∈obo vs ss,x.length<=9223372036854775807:=by
 intro x hx
 unfold obo at hx
 rcases List.mem_append.1 hx with hx|hx
 ·obtain⟨v,_,rfl⟩:=List.mem_map.1 hx;exact tx_sz2 v
 ·obtain⟨s,hs,rfl⟩:=List.mem_map.1 hx;exact itoa_sz (h s hs).1 (h s hs).2
theorem cwords_sz {c:Cd}(h1:c.name.length<=9223372036854775807)(h2:c.ref.length<=9223372036854775807)(h3:∀x∈c.nodes,x.length<=9223372036854775807):∀x∈cwords c,x.length<=9223372036854775807:=by
 intro x hx
 unfold cwords at hx
 rcases List.mem_append.1 hx with hx|hx
 ·rcases List.mem_append.1 hx with hx|hx
  ·rcases List.mem_append.1 hx with hx|hx
   ·rcases List.mem_append.1 hx with hx|hx
    ·rw[List.mem_singleton]at hx;subst hx;exact h1
    ·exact h3 x hx
   ·split at hx
    ·rw[List.mem_singleton]at hx;subst hx;exact h2
    ·simp at hx
  ·split at hx
   ·rw[List.mem_singleton]at hx;subst hx;exact tx_sz2 _
   ·simp at hx
 ·split at hx
  ·unfold wwords at hx
   split at hx
   ·simp at hx
   ·rename_i hw
    have hs:=(okW_fit (show okW c.kind c.vals c.steps=true by simpa using hw)).2.2
    split at hx
    ·rcases List.mem_cons.1 hx with rfl|hx
     ·decide
     ·exact obo_sz hs x hx
    split at hx
    ·rcases List.mem_cons.1 hx with rfl|hx
     ·decide
     ·exact pwlW_sz _ _ hs x hx
    split at hx
    ·rcases List.mem_cons.1 hx with rfl|hx
     ·decide
     ·exact obo_sz hs x hx
    ·rcases List.mem_cons.1 hx with rfl|hx
     ·decide
     ·exact obo_sz hs x hx
  ·simp at hx
open Q (hid' Lett ErrV Tab okN)
open X (RS OwnS)
def numC (m x:Int):Cd:=⟨[101],[[48],[48],[48],[48]],[],(m,x),0,[],[]⟩
def numB (m x:Int):Bool:=(writeC (numC m x)).isSome
theorem numC_sz (m x:Int):∀y∈cwords (numC m x),y.length<=9223372036854775807:=by
 refine cwords_sz (by show (1:Nat)<=_;omega) (by show (0:Nat)<=_;omega) ?_
 intro y hy
 have hy':y∈([[48],[48],[48],[48]]:List (List UInt8)):=hy
 have:y=[48]:=by simpa using hy'
 rw[this]
 decide
theorem four_rs (w:World):RS (w.alloc (.cells #[.string ⟨#[48]⟩,.string ⟨#[48]⟩,.string ⟨#[48]⟩,.string ⟨#[48]⟩] 9)) (.slice (some ⟨w.heap.size,0,none⟩) 4 4) [[48],[48],[48],[48]]:=by
 have h:=RowL.alloc 9 w [.string ⟨#[48]⟩,.string ⟨#[48]⟩,.string ⟨#[48]⟩,.string ⟨#[48]⟩]
 refine⟨some ⟨w.heap.size,0,none⟩,4,rfl,fun _=>⟨w.heap.size,0,rfl,h.lt,fun j hj=>?_⟩⟩
 match j,hj with
 |0,_=>exact h.cell 0 _
 |1,_=>exact h.cell 1 _
 |2,_=>exact h.cell 2 _
 |3,_=>exact h.cell 3 _
theorem numText_any (m x:Int)(w:World)(hL:Lett w)(hE:ErrV w)(hT:Tab w) :
  Calls Tryz.prog 89 #[.agg #[.int .i64 m,.int .i64 x]] w fun r w'=>Kept w w'/\∃s,r=.returned (.tuple #[.string s,.bool (numB m x)])/\(numB m x=true->s=X.bs (tx (m,x))):=by
 have kA:=((Kept.refl w).alloc (.cells #[.int .i64 m,.int .i64 x] 25)).alloc (.cells #[.string ⟨#[48]⟩,.string ⟨#[48]⟩,.string ⟨#[48]⟩,.string ⟨#[48]⟩] 9)
 have hN:=(RowL.alloc 25 w [.int .i64 m,.int .i64 x]).kept ((Kept.refl _).alloc (.cells #[.string ⟨#[48]⟩,.string ⟨#[48]⟩,.string ⟨#[48]⟩,.string ⟨#[48]⟩] 9))
 have hR:=four_rs (w.alloc (.cells #[.int .i64 m,.int .i64 x] 25))
 rw[World.size_alloc]at hR
 have hW:=write_any (some ⟨w.heap.size+1,0,none⟩) none none 4 4 0 0 0 0 (numC m x) _ (hL.kept kA) (hE.kept kA) (hT.kept kA) ⟨hR,nsl_none _,⟨none,0,rfl,fun h=>absurd h (Nat.lt_irrefl 0)⟩⟩ (by decide) (numC_sz m x) (by show (1:Nat)<=_;omega)
 have HB:=hid' (show numB m x=(writeC (numC m x)).isSome from rfl)
 have HWR:=hid' (show ∀ws,writeC (numC m x)=some ws->ws=[[101],[48],[48],[48],[48],tx (m,x)] from fun ws h=>by rw[(write_right h).2];rfl)
 unfold cdV at hW
 generalize numB m x=nb at HB ⊢
 generalize hwo:writeC (numC m x)=o at hW HB HWR
 clear hwo hL hE hT
 have hW2:Calls Tryz.prog 103 #[.agg #[.string ⟨#[101]⟩,.slice (some ⟨w.heap.size+1,0,none⟩) 4 4,.string ⟨#[]⟩,.int .i64 m,.int .i64 x,.int .i64 0,.slice none 0 0,.slice none 0 0]] ((w.alloc (.cells #[.int .i64 m,.int .i64 x] 25)).alloc (.cells #[.string ⟨#[48]⟩,.string ⟨#[48]⟩,.string ⟨#[48]⟩,.string ⟨#[48]⟩] 9)) (fun e w'=>Kept ((w.alloc (.cells #[.int .i64 m,.int .i64 x] 25)).alloc (.cells #[.string ⟨#[48]⟩,.string ⟨#[48]⟩,.string ⟨#[48]⟩,.string ⟨#[48]⟩] 9)) w'/\WrIs ((w.alloc (.cells #[.int .i64 m,.int .i64 x] 25)).alloc (.cells #[.string ⟨#[48]⟩,.string ⟨#[48]⟩,.string ⟨#[48]⟩,.string ⟨#[48]⟩] 9)).heap.size w' e o):=hW
 clear hW hR
 have g0:=hN.cell 0 (.int .i64 m)
 have g1:=hN.cell 1 (.int .i64 x)
 go_enter Tryz.func89,Tryz.ntmps89
 go_wp2_with fail
 refine hW2.mono ?_
 rintro r w2 ⟨hk,hr⟩
 have HK:=hid' (kA.trans hk)
 clear kA hk hN g0 g1 hW2
 cases o with
 |none=>
  obtain rfl:=hr
  have HE:=hid' (show nb=false from HB.out)
  go_wp2_with fail
  go_ret2
  exact⟨HK.out,⟨#[]⟩,by rw[HE.out];rfl,fun h=>by rw[HE.out]at h;cases h⟩
 |some ws=>
  obtain⟨u,rfl,ho⟩:=hr
  have HE:=hid' (show nb=true from HB.out)
  have hws:=HWR.out ws rfl
  subst hws
  obtain⟨a9,k9,rfl⟩:=own_shape ho
  obtain⟨g,cap,e,_,hg,_,hc,_⟩:=own_cell ho (Nat.succ_pos _)
  simp only[Value.slice.injEq]at e
  obtain⟨rfl,_,rfl⟩:=e
  have c5:=hc 5 (.string (X.bs (tx (m,x)))) rfl
  obtain⟨s5,hs5⟩:∃s,s=X.bs (tx (m,x)):=⟨_,rfl⟩
  rw[<-hs5]at c5
  have HS5:=hid' hs5
  clear hc ho hs5
  go_wp2_with fail
  go_ret2
  exact⟨HK.out,s5,by rw[HE.out];rfl,fun _=>HS5.out⟩
def methB (k:Int):Bool:=decide (k=1∨k=2)
def methT (k:Int):List UInt8:=if k=1 then [101,117,108,101,114] else if k=2 then [116,114,97,112] else []
theorem methText_any (k:Int)(w:World):Calls Tryz.prog 90 #[.int .i64 k] w fun r w'=>Kept w w'/\r=.returned (.tuple #[.string (X.bs (methT k)),.bool (methB k)]):=by
 by_cases h1:k=1
 ·subst h1
  go_enter Tryz.func90,Tryz.ntmps90
  go_wp2_with fail
  go_ret2
  exact⟨Kept.refl _,rfl⟩
 by_cases h2:k=2
 ·subst h2
  go_enter Tryz.func90,Tryz.ntmps90
  go_wp2_with fail
  go_ret2
  exact⟨Kept.refl _,rfl⟩
 have e1:methT k=[]:=by unfold methT;rw[if_neg h1,if_neg h2]
 have e2:methB k=false:=decide_eq_false (by rintro (e|e);exact h1 e;exact h2 e)
 rw[e1,e2]
 have b1:(k == 1)=false:=by simpa using h1
 have b2:(k == 2)=false:=by simpa using h2
 clear e1 e2
 go_enter Tryz.func90,Tryz.ntmps90
 go_wp2_with fail
 go_ret2
 exact⟨Kept.refl _,rfl⟩
def setB (c:Ci):Bool:=numB c.m c.x&&(decide (0<c.m)&&methB c.meth)
theorem rightSet_any (c:Ci)(w:World)(hL:Lett w)(hE:ErrV w)(hT:Tab w) :
  Calls Tryz.prog 68 #[.agg c.cells.toArray] w fun r w'=>Kept w w'/\r=.returned (.bool (setB c)):=by
 have HB:=hid' (show setB c=(numB c.m c.x&&(decide (0<c.m)&&methB c.meth)) from rfl)
 generalize setB c=sb at HB ⊢
 obtain⟨m,x,meth,ms,am,cm,ss,ab,cb,cd,ac,cc⟩:=c
 have HN:=hid' (fun V (K:Kept w V)=>numText_any m x V (hL.kept K) (hE.kept K) (hT.kept K))
 show Calls Tryz.prog 68 #[.agg #[.int .i64 m,.int .i64 x,.int .i64 meth,.slice am ms.length cm,.slice ab ss.length cb,.slice ac cd.length cc]] w _
 simp only at HB
 generalize numB m x=nb at HB HN
 have hM:=fun V=>methText_any meth V
 generalize methB meth=mb at HB hM
 generalize X.bs (methT meth)=ts at hM
 generalize ms.length=n1
 generalize ss.length=n2
 generalize cd.length=n3
 clear hL hE hT
 have kA:=(Kept.refl w).alloc (.cells #[.int .i64 m,.int .i64 x,.int .i64 meth,.slice am n1 cm,.slice ab n2 cb,.slice ac n3 cc] 92)
 have hA:=RowL.alloc 92 w [.int .i64 m,.int .i64 x,.int .i64 meth,.slice am n1 cm,.slice ab n2 cb,.slice ac n3 cc]
 go_enter Tryz.func68,Tryz.ntmps68
 go_upto_region 1 with fail
 generalize w.alloc (.cells #[.int .i64 m,.int .i64 x,.int .i64 meth,.slice am n1 cm,.slice ab n2 cb,.slice ac n3 cc] 92)=W at kA hA ⊢
 obtain⟨p,hp⟩:∃q,q=w.heap.size:=⟨_,rfl⟩
 rw[<-hp]at hA ⊢
 have HA:=hid' hA
 have HK:=hid' kA
 have f0:=hA.cell 0 (.int .i64 m)
 have f1:=hA.cell 1 (.int .i64 x)
 clear hp hA kA
 go_wp2_with fail
 refine(HN.out _ HK.out).mono ?_
 rintro r w1 ⟨hk,s9,rfl,_⟩
 have HK:=hid' (HK.out.trans hk)
 have HA:=hid' (HA.out.kept hk)
 clear hk f0 f1
 have f2:=HA.out.cell 2 (.int .i64 meth)
 go_wp2_with fail
 refine(hM _).mono ?_
 rintro r w2 ⟨hk,rfl⟩
 have HK:=hid' (HK.out.trans hk)
 have HA:=hid' (HA.out.kept hk)
 clear hk f2
 have f0:=HA.out.cell 0 (.int .i64 m)
 cases nb
 ·have HE:=hid' (show sb=false from HB.out)
  go_wp2_with fail
  go_ret
  exact⟨HK.out,by rw[HE.out];rfl⟩
 by_cases h0:0<m
 ·have HE:=hid' (show sb=mb by rw[HB.out,decide_eq_true h0];rfl)
  go_wp2_with fail
  go_ret
  exact⟨HK.out,by rw[HE.out];rfl⟩
 ·have HE:=hid' (show sb=false by rw[HB.out,decide_eq_false h0];rfl)
  go_wp2_with fail
  go_ret
  exact⟨HK.out,by rw[HE.out];rfl⟩
def chkC (c:Ci):Int :=
 if setB c=false then 1 else if (c.ms.any fun e=>!modB e)=true then 50
 else if ((c.ss.any fun e=>!subB e)||(scOf c).any scBad)=true then 70 else if manyB c=true then 7 else if twoB c=true then 8 else refsF c
theorem good_names {c:Ci}(h:(scOf c).any scBad=false):∀s∈scOf c,∀x∈s.cd,0<x.c.name.length:=by
 intro s hs x hx
 have h1:=List.any_eq_false.1 h s hs
 have h2:scBad s=false:=by simpa using h1
 have h3:=List.any_eq_false.1 h2 x hx
 have h4:cardB x=true:=by simpa using h3
 unfold cardB at h4
 obtain⟨ws,hw⟩:=Option.isSome_iff_exists.1 h4
 exact dev_len (write_right hw).1.dev
theorem ncheck_any (c:Ci)(w:World)(hL:Lett w)(hE:ErrV w)(hT:Tab w)(h:c.ok w)(hz:c.sz) :
  Calls Tryz.prog 54 #[.agg c.cells.toArray] w fun r w'=>Kept w w'/\r=.returned (.int .i64 (chkC c)):=by
 have HC1:=hid' (fun V (K:Kept w V)=>rightSet_any c V (hL.kept K) (hE.kept K) (hT.kept K))
 have HC2:=hid' (fun V (K:Kept w V)=>rightModels_any c.am c.cm c.ms V (hL.kept K) (hT.kept K) (h.1.kept K) hz.m2 (Nat.le_trans hz.m1.1 hz.m1.2))
 have HC3:=hid' (fun V (K:Kept w V)=>rightSubs_any c.ab c.cb c.ss V (h.2.1.kept K) hz.s2 (Nat.le_trans hz.s1.1 hz.s1.2))
 have HC4:=hid' (fun V (K:Kept w V)=>rightCards_any c V (hL.kept K) (hE.kept K) (hT.kept K) (h.kept K) hz)
 have HC5:=hid' (fun V (K:Kept w V)=>tooMany_any c V (h.kept K) hz)
 have HC6:=hid' (fun V (K:Kept w V)=>namedTwice_any c V (h.kept K) hz)
 have HC7:=hid' (fun V (K:Kept w V) hne=>refsFault_any c V (h.kept K) hz hne)
 have HG:=hid' (good_names (c:=c))
 obtain⟨fin,hfin⟩:∃f,f=chkC c:=⟨_,rfl⟩
 rw[<-hfin]
 have HF:=hid' (show fin=(if setB c=false then 1 else if (c.ms.any fun e=>!modB e)=true then 50 else if ((c.ss.any fun e=>!subB e)||(scOf c).any scBad)=true then 70 else if manyB c=true then 7 else if twoB c=true then 8 else refsF c) from hfin)
 clear hfin h hz hL hE hT
 generalize setB c=b1 at HC1 HF
 generalize (c.ms.any fun e=>!modB e)=b2 at HC2 HF
 generalize (c.ss.any fun e=>!subB e)=b3 at HC3 HF
 generalize manyB c=b5 at HC5 HF
 generalize twoB c=b6 at HC6 HF
 generalize refsF c=b7 at HC7 HF
 have HC7':=hid' (fun V (K:Kept w V) h4=>HC7.out V K (HG.out h4))
 generalize (scOf c).any scBad=b4 at HC4 HF HC7'
 clear HC7 HG
 obtain⟨m,x,meth,ms,am,cm,ss,ab,cb,cd,ac,cc⟩:=c
 have E:(Ci.cells ⟨m,x,meth,ms,am,cm,ss,ab,cb,cd,ac,cc⟩).toArray=#[.int .i64 m,.int .i64 x,.int .i64 meth,.slice am ms.length cm,.slice ab ss.length cb,.slice ac cd.length cc]:=rfl
 rw[E]at HC1 HC4 HC5 HC6 HC7' ⊢
 simp only at HC2 HC3
 clear E
 generalize ms.length=n1 at HC1 HC2 HC4 HC5 HC6 HC7' ⊢
 generalize ss.length=n2 at HC1 HC3 HC4 HC5 HC6 HC7' ⊢
 generalize cd.length=n3 at HC1 HC4 HC5 HC6 HC7' ⊢
 have kA:=(Kept.refl w).alloc (.cells #[.int .i64 m,.int .i64 x,.int .i64 meth,.slice am n1 cm,.slice ab n2 cb,.slice ac n3 cc] 92)
 have hA:=RowL.alloc 92 w [.int .i64 m,.int .i64 x,.int .i64 meth,.slice am n1 cm,.slice ab n2 cb,.slice ac n3 cc]
 go_enter Tryz.func54,Tryz.ntmps54
 go_upto_region 1 with fail
 generalize w.alloc (.cells #[.int .i64 m,.int .i64 x,.int .i64 meth,.slice am n1 cm,.slice ab n2 cb,.slice ac n3 cc] 92)=W at kA hA ⊢
 obtain⟨p,hp⟩:∃q,q=w.heap.size:=⟨_,rfl⟩
 rw[<-hp]at hA ⊢
 have HA:=hid' hA
 have HK:=hid' kA
 clear hp hA kA
 have f0:=HA.out.cell 0 (.int .i64 m)
 have f1:=HA.out.cell 1 (.int .i64 x)
 have f2:=HA.out.cell 2 (.int .i64 meth)
 have f3:=HA.out.cell 3 (.slice am n1 cm)
 have f4:=HA.out.cell 4 (.slice ab n2 cb)
 have f5:=HA.out.cell 5 (.slice ac n3 cc)
 go_wp2_with fail
 refine(HC1.out _ HK.out).mono ?_
 rintro r w1 ⟨hk,rfl⟩
 have HK:=hid' (HK.out.trans hk)
 have HA:=hid' (HA.out.kept hk)
 clear hk
 clear f0 f1 f2 f3 f4 f5
 have f0:=HA.out.cell 0 (.int .i64 m)
 have f1:=HA.out.cell 1 (.int .i64 x)
 have f2:=HA.out.cell 2 (.int .i64 meth)
 have f3:=HA.out.cell 3 (.slice am n1 cm)
 have f4:=HA.out.cell 4 (.slice ab n2 cb)
 have f5:=HA.out.cell 5 (.slice ac n3 cc)
 cases b1
 ·have HE:=hid' (show fin=1 from HF.out.trans (if_pos rfl))
  go_wp2_with fail
  go_ret
  exact⟨HK.out,by rw[HE.out];rfl⟩
 have HF:=hid' (HF.out.trans (if_neg (by decide)))
 go_wp2_with fail
 refine(HC2.out _ HK.out).mono ?_
 rintro r w2 ⟨hk,rfl⟩
 have HK:=hid' (HK.out.trans hk)
 have HA:=hid' (HA.out.kept hk)
 clear hk
 clear f0 f1 f2 f3 f4 f5
 have f0:=HA.out.cell 0 (.int .i64 m)
 have f1:=HA.out.cell 1 (.int .i64 x)
 have f2:=HA.out.cell 2 (.int .i64 meth)
 have f3:=HA.out.cell 3 (.slice am n1 cm)
 have f4:=HA.out.cell 4 (.slice ab n2 cb)
 have f5:=HA.out.cell 5 (.slice ac n3 cc)
 cases b2
 rotate_left
 ·have HE:=hid' (show fin=50 from HF.out.trans (if_pos rfl))
  go_wp2_with fail
  go_ret
  exact⟨HK.out,by rw[HE.out];rfl⟩
 have HF:=hid' (HF.out.trans (if_neg (by decide)))
 go_wp2_with fail
 refine(HC3.out _ HK.out).mono ?_
 rintro r w3 ⟨hk,rfl⟩
 have HK:=hid' (HK.out.trans hk)
 have HA:=hid' (HA.out.kept hk)
 clear hk
 clear f0 f1 f2 f3 f4 f5
 have f0:=HA.out.cell 0 (.int .i64 m)
 have f1:=HA.out.cell 1 (.int .i64 x)
 have f2:=HA.out.cell 2 (.int .i64 meth)
 have f3:=HA.out.cell 3 (.slice am n1 cm)
 have f4:=HA.out.cell 4 (.slice ab n2 cb)
 have f5:=HA.out.cell 5 (.slice ac n3 cc)
 cases b3
 rotate_left
 ·have HE:=hid' (show fin=70 from HF.out.trans (if_pos rfl))
  go_wp2_with fail
  go_ret
  exact⟨HK.out,by rw[HE.out];rfl⟩
 go_wp2_with fail
 refine(HC4.out _ HK.out).mono ?_
 rintro r w4 ⟨hk,rfl⟩
 have HK:=hid' (HK.out.trans hk)
 have HA:=hid' (HA.out.kept hk)
 clear hk
 clear f0 f1 f2 f3 f4 f5
 have f0:=HA.out.cell 0 (.int .i64 m)
 have f1:=HA.out.cell 1 (.int .i64 x)
 have f2:=HA.out.cell 2 (.int .i64 meth)
 have f3:=HA.out.cell 3 (.slice am n1 cm)
 have f4:=HA.out.cell 4 (.slice ab n2 cb)
 have f5:=HA.out.cell 5 (.slice ac n3 cc)
 cases b4
 rotate_left
 ·have HE:=hid' (show fin=70 from HF.out.trans (if_pos rfl))
  go_wp2_with fail
  go_ret
  exact⟨HK.out,by rw[HE.out];rfl⟩
 have HF:=hid' (HF.out.trans (if_neg (by decide)))
 go_wp2_with fail
 refine(HC5.out _ HK.out).mono ?_
 rintro r w5 ⟨hk,rfl⟩
 have HK:=hid' (HK.out.trans hk)
 have HA:=hid' (HA.out.kept hk)
 clear hk
 clear f0 f1 f2 f3 f4 f5
 have f0:=HA.out.cell 0 (.int .i64 m)
 have f1:=HA.out.cell 1 (.int .i64 x)
 have f2:=HA.out.cell 2 (.int .i64 meth)
 have f3:=HA.out.cell 3 (.slice am n1 cm)
 have f4:=HA.out.cell 4 (.slice ab n2 cb)
 have f5:=HA.out.cell 5 (.slice ac n3 cc)
 cases b5
 rotate_left
 ·have HE:=hid' (show fin=7 from HF.out.trans (if_pos rfl))
  go_wp2_with fail
  go_ret
  exact⟨HK.out,by rw[HE.out];rfl⟩
 have HF:=hid' (HF.out.trans (if_neg (by decide)))
 go_wp2_with fail
 refine(HC6.out _ HK.out).mono ?_
 rintro r w6 ⟨hk,rfl⟩
 have HK:=hid' (HK.out.trans hk)
 have HA:=hid' (HA.out.kept hk)
 clear hk
 clear f0 f1 f2 f3 f4 f5
 have f0:=HA.out.cell 0 (.int .i64 m)
 have f1:=HA.out.cell 1 (.int .i64 x)
 have f2:=HA.out.cell 2 (.int .i64 meth)
 have f3:=HA.out.cell 3 (.slice am n1 cm)
 have f4:=HA.out.cell 4 (.slice ab n2 cb)
 have f5:=HA.out.cell 5 (.slice ac n3 cc)
 cases b6
 rotate_left
 ·have HE:=hid' (show fin=8 from HF.out.trans (if_pos rfl))
  go_wp2_with fail
  go_ret
  exact⟨HK.out,by rw[HE.out];rfl⟩
 have HE:=hid' (HF.out.trans (if_neg (by decide)))
 go_wp2_with fail
 refine(HC7'.out _ HK.out (by first|rfl|trivial)).mono ?_
 rintro r w7 ⟨hk,rfl⟩
 have HK:=hid' (HK.out.trans hk)
 clear hk
 clear f0 f1 f2 f3 f4 f5
 go_wp2_with fail
 go_ret
 exact⟨HK.out,by rw[HE.out];rfl⟩
open Q (hid')
open X (bs OwnS RS strs bs_list bs_size)
theorem wpList_src {P:Program}{w:World}{ops:Array Oper}{rest:List Oper}{o:Oper}{a:Act}{Q:Exit->Act->World->Prop}(hgd:o.guard=none)(s x:Operand)(t:TypeId)
  (ho:o.op=.call { callee:=.builtin .append,args:=#[s,x],argTypes:=#[t,t] })
  (base:Nat) (e:TypeId) (i:TypeInfo) (zv:Value) (size bytes:Nat) (ht:P.underlying t=some (.slice e)) (hi:P.info? e=some i) (hz:i.zero=some zv)
  (hsize:i.size=size) (hby:i.bytes=bytes) (hzs:zv.cells.size=size) (hsz:0<size)
  (g0:Nat) (hs:a.eval s=.slice (some ⟨g0,0,none⟩) 0 0) (hown:w.ownsRow base e size (.slice (some ⟨g0,0,none⟩) 0 0) 0 [])
  (ao:Option Addr) (m c:Nat) (news:List Value) (hx:a.eval x=.slice ao m c) (hl:news.length=m*size) (hnews:0<m->∃ad,ao=some ad/\∀j u,news[j]?=some u->w.cell? (ad.add j)=some u) (h1:∀u∈news,u.oneCell'=true)
  (h63:m<=maxLen) (hbytes:m*bytes<=140737488355328) (hbase:base<=w.heap.size)
  (h:∀g cap w',w'.ownsRow base e size (.slice (some ⟨g,0,none⟩) m cap) m news->w.grownBy w' (some g0)->wpList P ops Q rest (a.put o.dst (.slice (some ⟨g,0,none⟩) m cap)) w'):wpList P ops Q (o::rest) a w:=by
 by_cases hm:0<m
 ·obtain⟨ad,rfl,hn⟩:=hnews hm
  exact wpList_append_lies w hgd s x t ho base e i zv size bytes ht hi hz hsize hby hzs hsz _ 0 [] hs hown ad m c news hx hl hn h1 hm (by omega) (by rw[Nat.zero_add];exact hbytes) hbase _ rfl (fun g cap w' h2 h3 _ _=>by
   have:=h g cap w' (by simpa using h2) h3
   rw[Nat.zero_add]
   exact this)
 ·obtain rfl:m=0:=by omega
  have hn0:news=[]:=List.eq_nil_of_length_eq_zero (by simpa using hl)
  subst hn0
  have hr:(Builtin.append_ #[t,t] o.type #[.slice (some ⟨g0,0,none⟩) 0 0,.slice ao 0 c]).run P w=.ok (.slice (some ⟨g0,0,none⟩) 0 0) w:=by
   cases ao <;> simp[Builtin.append_,run_underlying ht,sizeOf,typeInfo,hi,Builtin.lenOf,Builtin.firstCells,loadCells,loadCellsFrom,storeCells]
  refine wpList_plain hgd fun K hK=>?_
  unfold Oper.wp execOp
  simp only[ho,resolve,invoke,builtin,Sem.run_bind,Sem.run_pure,Result.andThen_ok,List.map_toArray,List.map_cons,List.map_nil,hs,hx,hr]
  exact hK _ _ (h g0 0 w hown ⟨rfl,rfl,rfl,Nat.le_refl _,fun _ _ _=>rfl⟩)
theorem own_none (t:TypeId)(sz:Nat)(w:World)(B:Nat)(hB:B<=w.heap.size):(w.alloc (Obj.cells #[] t)).ownsRow B t sz (.slice (some ⟨w.heap.size,0,none⟩) 0 0) 0 []:=by
 refine⟨by simp,.inr ⟨w.heap.size,0,#[],rfl,hB,?_,Nat.le_refl _,by unfold maxLen;omega,by simp,by simp⟩⟩
 show (w.heap.push _)[w.heap.size]?=_
 simp
def LentW (B:Nat)(w:World)(v:Value)(ws:List (List UInt8)):Prop:=∃g cap,v=.slice (some ⟨g,0,none⟩) ws.length cap/\OwnS B w (.slice (some ⟨g,0,none⟩) (ws.length+1) cap) (ws++[[33]])
theorem strs_src {w:World}{ao:Option Addr}{n c:Nat}{ws:List (List UInt8)}(h:RS w (.slice ao n c) ws):0<n->∃ad,ao=some ad/\∀j u,(strs ws)[j]?=some u->w.cell? (ad.add j)=some u:=by
 intro h0
 obtain⟨ao',c',hv,hx⟩:=h
 simp only[Value.slice.injEq]at hv
 obtain⟨rfl,rfl,rfl⟩:=hv
 obtain⟨b,off,rfl,hb,hc⟩:=hx h0
 refine⟨⟨b,off,none⟩,rfl,fun j u hj=>?_⟩
 have hl:j<ws.length:=by
  have:=(List.getElem?_eq_some_iff.1 hj).1
  rw[X.strs_len]at this
  omega
 rw[X.strs_at ws j hl]at hj
 have e:(⟨b,off,none⟩:Addr).add j=⟨b,off+j,none⟩:=by
  unfold Addr.add
  by_cases hj0:j=0 <;> simp[hj0]
 rw[e,hc j hl]
 exact hj
theorem LentW.rs {B:Nat}{w:World}{v:Value}{ws:List (List UInt8)}(h:LentW B w v ws):RS w v ws:=by
 obtain⟨g,cap,rfl,h⟩:=h
 obtain⟨g',cap',e,_,hg,_,hc,_⟩:=h.read (by simp)
 simp only[Value.slice.injEq,Option.some.injEq,Addr.mk.injEq]at e
 obtain⟨⟨rfl,_⟩,_,rfl⟩:=e
 refine⟨_,_,rfl,fun h0=>⟨g,0,rfl,hg,fun j hj=>?_⟩⟩
 rw[Nat.zero_add,hc j (by rw[List.length_append];omega)]
 congr 3
 rw[List.getD_eq_getElem?_getD,List.getD_eq_getElem?_getD,List.getElem?_append_left hj]
theorem LentW.kept {B:Nat}{w w':World}{v:Value}{ws:List (List UInt8)}(h:LentW B w v ws)(k:Kept w w'):LentW B w' v ws:=by
 obtain⟨g,cap,rfl,h⟩:=h
 exact⟨g,cap,rfl,h.kept k⟩
open Q (parseOf okN textOf)
def tailB (c:Cd)(nodes:Nat)(ref value source:Bool):Bool :=
 decide (c.nodes.length=nodes)&&(c.nodes.all okName&&((if ref=true then okName c.ref else decide (c.ref=[]))&&((if value=true then okN c.val.1 c.val.2 else decide (c.val=(0,0)))&&(if source=true then okW c.kind c.vals c.steps else decide (c.kind=0/\c.vals=[]/\c.steps=[])))))
def rightB (c:Cd):Bool :=
 if devB c.name=false then false else
 if c.name.getD 0 0=114∨c.name.getD 0 0=99∨c.name.getD 0 0=108 then (if c.val.1=0 then false else tailB c 2 false true false)
 else if c.name.getD 0 0=101∨c.name.getD 0 0=103∨c.name.getD 0 0=116 then tailB c 4 false true false
 else if c.name.getD 0 0=102∨c.name.getD 0 0=104 then (if c.ref.length=0∨c.ref.getD 0 0≠118 then false else tailB c 2 true true false)
 else if c.name.getD 0 0=100 then tailB c 2 true false false
 else if c.name.getD 0 0=115 then tailB c 4 true false false
 else if c.name.getD 0 0=120 then (if c.nodes.length<1∨8<c.nodes.length then false else tailB c c.nodes.length true false false)
 else tailB c 2 false false true
end V
end Go.Proofs.YtdjhmgmjiglcbaaGreatDoor
namespace Go.Proofs.YtdjhmgmjiglcbaaGreatDoor
open Go.ChangeShapes Go.WideShapes Go.ChangeAt Go.RowKit Go.Joins Go.Deep
namespace V
open X (bs RS)
theorem cells_wave:Tryz.prog.cellsOf 44=3:=by kernel_rfl
theorem cells_ints:Tryz.prog.cellsOf 31=1:=by kernel_rfl
theorem cells_strs:Tryz.prog.cellsOf 22=1:=by kernel_rfl
theorem bytes_int:Tryz.prog.bytesOf 3=8:=by kernel_rfl
theorem bytes_str:Tryz.prog.bytesOf 9=16:=by kernel_rfl
theorem isl_of_open {W:World}{a:Addr}{len cap:Nat}{zs:List Int}(hl:len<=cap)(hz:zs.length=cap)(hcell:∀i,i<zs.length->W.cell? (a.add i)=some (.int .i64 (zs.getD i 0))):∃l,l.length=len/\ISl W (.slice (some a) len cap) l:=by
 have hlen:(zs.take len).length=len:=by rw[List.length_take];omega
 refine⟨zs.take len,hlen,some a,cap,by rw[hlen],fun h0=>?_⟩
 rw[hlen]at h0 ⊢
 obtain⟨b,off,spot⟩:=a
 have hc0:=hcell 0 (by omega)
 have hspot:spot=none:=by simpa[Addr.add]using World.cell?_spot hc0
 subst hspot
 refine⟨b,off,rfl,World.block_lt_of_cell? W _ (by simpa[Addr.add]using hc0),fun j hj=>?_⟩
 have hcj:=hcell j (by omega)
 have e1:(zs.take len).getD j 0=zs.getD j 0:=by
  rw[List.getD_eq_getElem?_getD,List.getElem?_take_of_lt hj,List.getD_eq_getElem?_getD]
 rw[e1,<-hcj]
 by_cases hj0:j=0
 ·subst hj0;rfl
 ·simp[Addr.add,hj0]
theorem open_isl {H:Type}{enc:TypeId×Value->H}{W:World}{fuel:Nat}{c0:Value}{y:DataW H×List MemPlace}(h:DataW.trod enc Tryz.prog W 0 (fun _=>true) true fuel 31 [c0]=some y) :
  ∃ao n c l,c0=.slice ao n c/\ISl W (.slice ao n c) l/\((∀x∈y.1.weights Tryz.prog 31,x<=reachBytes)->(n+256)*8<=140737488355328):=by
 rcases open_slice Tryz.underlying31 h with ⟨hcs,hy⟩|⟨a,len,cap,mm,nn,D,Pl,hcs,_,_,_,_,rfl,_⟩
 ·simp at hcs
  subst hcs
  exact⟨none,0,0,[],rfl,⟨none,0,rfl,fun h=>absurd h (by decide)⟩,fun _=>by omega⟩
 ·simp at hcs
  subst hcs
  rcases open_ints Tryz.underlying31 Tryz.underlying3 cells_i h with ⟨hcs,_⟩|⟨a',len',cap',zs,hcs,_,hl,hm,hz,_,hcell,hwz⟩
  ·simp at hcs
  ·simp at hcs
   obtain⟨rfl,rfl,rfl⟩:=hcs
   obtain⟨l,hll,hs⟩:=isl_of_open hl (by simpa using hz) hcell
   refine⟨some a,len,cap,l,rfl,hs,fun hx=>?_⟩
   unfold reachBytes at hx
   have:=hx ((len+(mm-len))*8) (by simp[DataW.weights,Tryz.underlying31,bytes_int])
   omega
theorem open_nsl {H:Type}{enc:TypeId×Value->H}{W:World}{fuel:Nat}{c0:Value}{y:DataW H×List MemPlace}(h:DataW.trod enc Tryz.prog W 0 (fun _=>true) true fuel 42 [c0]=some y) :
  ∃ao n c l,c0=.slice ao n c/\NSl W (.slice ao n c) l/\((∀x∈y.1.weights Tryz.prog 42,x<=reachBytes)->(n+256)*16<=140737488355328):=by
 rcases open_slice Tryz.underlying42 h with ⟨hcs,hy⟩|⟨a,len,cap,mm,nn,D,Pl,hcs,_,_,_,_,rfl,_⟩
 ·simp at hcs
  subst hcs
  exact⟨none,0,0,[],rfl,⟨none,0,rfl,fun h=>absurd h (by decide)⟩,fun _=>by omega⟩
 ·simp at hcs
  subst hcs
  obtain⟨l,hs,_⟩:=open_nums h
  refine⟨some a,len,cap,l,rfl,hs,fun hx=>?_⟩
  unfold reachBytes at hx
  have:=hx ((len+(mm-len))*16) (by simp[DataW.weights,Tryz.underlying42,bytes_num])
  omega
theorem open_rs {H:Type}{enc:TypeId×Value->H}{W:World}{fuel:Nat}{c0:Value}{y:DataW H×List MemPlace}(h:DataW.trod enc Tryz.prog W 0 (fun _=>true) true fuel 22 [c0]=some y) :
  ∃ao n c l,c0=.slice ao n c/\RS W (.slice ao n c) l/\n<=c/\c<=9223372036854775807/\(∀x∈l,x.length<=9223372036854775807)/\((∀x∈y.1.weights Tryz.prog 22,x<=reachBytes)->(n+256)*16<=140737488355328):=by
 obtain⟨ao,n,c,rfl⟩:∃ao n c,c0=.slice ao n c:=by
  rcases open_slice Tryz.underlying22 h with ⟨hcs,_⟩|⟨a,len,cap,_,_,_,_,hcs,_⟩
  ·simp at hcs;exact⟨_,_,_,hcs⟩
  ·simp at hcs;exact⟨_,_,_,hcs⟩
 obtain⟨ao',n',c',ws,e,h1,h2,h3,h4⟩:=words_of h
 simp at e
 obtain⟨rfl,rfl,rfl⟩:=e
 refine⟨ao,n,c,ws,rfl,h1,h2,h3,h4,fun hx=>?_⟩
 rcases open_slice Tryz.underlying22 h with ⟨hcs,_⟩|⟨a,len,cap,mm,nn,D,Pl,hcs,_,_,_,_,rfl,_⟩
 ·simp at hcs
  obtain⟨_,rfl,_⟩:=hcs
  omega
 ·simp at hcs
  obtain⟨_,rfl,_⟩:=hcs
  unfold reachBytes at hx
  have:=hx ((n+(mm-n))*16) (by simp[DataW.weights,Tryz.underlying22,bytes_str])
  omega
end V
end Go.Proofs.YtdjhmgmjiglcbaaGreatDoor
