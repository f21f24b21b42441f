/- netlist's find and twice. -/
import Derived.Test.YtdjhmgmjiglcbaaGreatDoorNa1
import Derived.Test.YtdjhmgmjiglcbaaGreatDoorGag
import Derived.Test.YtdjhmgmjiglcbaaGreatDoorGaa
set_option maxRecDepth 100000
set_option maxHeartbeats 8000000
namespace Go.Proofs.YtdjhmgmjiglcbaaGreatDoor
open Go.RowKit
namespace V
open Q (hid')
open X (RS)
def nameC (l:List Value):ByteArray:=match l with
 | .string s::_=>s
 |_=>⟨#[]⟩
def ShM (x:List Value):Prop:=∃s k a1 n1 c1 a2 n2 c2,x=[.string s,.int .u8 k,.slice a1 n1 c1,.slice a2 n2 c2]
def ShS (x:List Value):Prop:=∃s a1 n1 c1 a2 n2 c2,x=[.string s,.slice a1 n1 c1,.slice a2 n2 c2]
def ShC (x:List Value):Prop:=∃s a1 n1 c1 t m1 m2 m3 a2 n2 c2 a3 n3 c3,x=[.string s,.slice a1 n1 c1,.string t,.int .i64 m1,.int .i64 m2,.int .i64 m3,.slice a2 n2 c2,.slice a3 n3 c3]
theorem ShM.len {x:List Value}(h:ShM x):x.length=4:=by obtain⟨_,_,_,_,_,_,_,_,rfl⟩:=h;rfl
theorem ShM.name {x:List Value}(h:ShM x):∃s r,x=.string s::r:=by obtain⟨_,_,_,_,_,_,_,_,rfl⟩:=h;exact⟨_,_,rfl⟩
theorem ShS.len {x:List Value}(h:ShS x):x.length=3:=by obtain⟨_,_,_,_,_,_,_,rfl⟩:=h;rfl
theorem ShS.name {x:List Value}(h:ShS x):∃s r,x=.string s::r:=by obtain⟨_,_,_,_,_,_,_,rfl⟩:=h;exact⟨_,_,rfl⟩
theorem ShC.len {x:List Value}(h:ShC x):x.length=8:=by obtain⟨_,_,_,_,_,_,_,_,_,_,_,_,_,_,rfl⟩:=h;rfl
theorem ShC.name {x:List Value}(h:ShC x):∃s r,x=.string s::r:=by obtain⟨_,_,_,_,_,_,_,_,_,_,_,_,_,_,rfl⟩:=h;exact⟨_,_,rfl⟩
def twiceB (nm:Nat->ByteArray)(n:Nat):Bool:=anyB (fun i=>anyB (fun j=>(nm j).toList == (nm i).toList) i) n
theorem anyB_hit {p:Nat->Bool}{n i:Nat}(hi:i<n)(h:p i=true):anyB p n=true:=List.any_eq_true.2 ⟨i,List.mem_range.2 hi,h⟩
theorem anyB_miss {p:Nat->Bool}{n:Nat}(h:∀i,i<n->p i=false):anyB p n=false:=by
 unfold anyB
 rw[List.any_eq_false]
 intro i hi
 rw[h i (List.mem_range.1 hi)]
 decide
theorem list2 {l:List Value}(h:l.length=2):∃a b,l=[a,b]:=by
 match l,h with
 | [a,b],_=>exact⟨a,b,rfl⟩
theorem list7 {l:List Value}(h:l.length=7):∃a b c d e f g,l=[a,b,c,d,e,f,g]:=by
 match l,h with
 | [a,b,c,d,e,f,g],_=>exact⟨a,b,c,d,e,f,g,rfl⟩
theorem idx_any {e:Ending}{n:Nat}{p:Nat->Bool}(h:IdxIs e n p):∃z:Int,e=.returned (.int .i64 z)/\decide (0<=z)=anyB p n:=by
 obtain⟨i,hi,h1,h2,rfl⟩:=h
 exact⟨_,rfl,any_of_idx hi h1 h2⟩
theorem name_model (s:ByteArray)(x1 x2 x3:Value)(w:World):Calls Tryz.prog 106 #[.agg #[.string s,x1,x2,x3]] w fun e w'=>e=.returned (.string s)/\Kept w w':=by
 go_enter Tryz.func106,Tryz.ntmps106
 go_wp2_with fail
 go_ret
 exact⟨rfl,(Kept.refl w).alloc _⟩
theorem find1_model (s t:ByteArray)(x1 x2 x3:Value)(q1 q2:Nat)(w:World)(h1:w.cell? ⟨q1,0,none⟩=some (.func (.func 106) #[] #[]))(h2:w.cell? ⟨q2,0,none⟩=some (.string t))(b1:q1<w.heap.size)(b2:q2<w.heap.size) :
  Calls Tryz.prog 166 #[.agg #[.string s,x1,x2,x3],.pointer (some ⟨q1,0,none⟩),.pointer (some ⟨q2,0,none⟩)] w fun e w'=>e=.returned (.bool (s.toList == t.toList))/\Kept w w':=by
 have kA:=(Kept.refl w).alloc (.cells #[.string s,x1,x2,x3] 46)
 have hA:=RowL.alloc 46 w [.string s,x1,x2,x3]
 go_enter Tryz.func166,Tryz.ntmps166
 go_upto_region 1 with fail
 generalize w.alloc (.cells #[.string s,x1,x2,x3] 46)=W at kA hA ⊢
 obtain⟨p,hp⟩:∃q,q=w.heap.size:=⟨_,rfl⟩
 rw[<-hp]at hA ⊢
 clear hp
 have sS:=hid' (fun (V:World) (K:Kept W V)=>And.intro ((Below.cell (kA.trans K) (p:=⟨q1,0,none⟩) b1).trans h1) (And.intro ((Below.cell (kA.trans K) (p:=⟨q2,0,none⟩) b2).trans h2) (And.intro (hA.kept K |>.cell 0 (.string s)) (And.intro (hA.kept K |>.cell 1 (x1)) (And.intro (hA.kept K |>.cell 2 (x2)) (hA.kept K |>.cell 3 (x3)))))))
 have HKA:=hid' kA
 have KT:Kept W W.drew:=(Kept.refl _).drew
 clear h1 h2 kA hA
 refine wp_region_held_drew (S:=fun w'=>w'.cell? ⟨q1,0,none⟩=some (.func (.func 106) #[] #[])/\w'.cell? ⟨q2,0,none⟩=some (.string t)/\w'.cell? ⟨p,0,none⟩=some (.string s)/\w'.cell? ⟨p,1,none⟩=some (x1)/\w'.cell? ⟨p,2,none⟩=some (x2)/\w'.cell? ⟨p,3,none⟩=some (x3)) (by kernel_rfl) (sS.out _ KT) (fun hHeld=>?_)
 generalize W.drew=Wd at KT hHeld ⊢
 refine tk 0 hHeld ?_
 refine tk 1 hHeld ?_
 refine tk 3 hHeld ?_
 refine rdy 2 fun K hK=>?_
 go_simp
 refine(name_model s x1 x2 x3 _).mono ?_
 rintro e w2 ⟨rfl,hk2⟩
 have KT:=KT.trans hk2
 refine hK.out _ _ (sS.out _ KT) (fun hHeld=>?_)
 clear hK K hk2
 refine tk 4 hHeld ?_
 refine tk 5 hHeld ?_
 refine dn ?_
 go_wp2_with fail
 go_ret
 exact⟨rfl,HKA.out.trans KT⟩
theorem find_model (ao:Option Addr)(n c:Nat)(L:List (List Value))(t:ByteArray)(w:World)(h:RowsR 4 w (.slice ao n c) L)(hl:∀x∈L,x.length=4)(hs:∀x∈L,∃s r,x=.string s::r)(hbig:n<=9223372036854775807) :
  Calls Tryz.prog 140 #[.slice ao n c,.func (.func 106) #[] #[],.string t] w fun e w'=>Kept w w'/\IdxIs e n (fun j=>(nameC (L.getD j [])).toList == t.toList):=by
 have HS:=hid' (And.intro h (And.intro hl hs))
 have HLN:=hid' h.len
 clear h hl hs
 have kB:=((Kept.refl w).alloc (.cells #[.func (.func 106) #[] #[]] 137)).alloc (.cells #[.string t] 9)
 have r1:=(RowL.alloc 137 w [.func (.func 106) #[] #[]]).kept ((Kept.refl _).alloc (.cells #[.string t] 9))
 have r2:=RowL.alloc 9 (w.alloc (.cells #[.func (.func 106) #[] #[]] 137)) [.string t]
 rw[World.size_alloc]at r2
 go_enter Tryz.func140,Tryz.ntmps140
 go_upto_region 1 with fail
 generalize (w.alloc (.cells #[.func (.func 106) #[] #[]] 137)).alloc (.cells #[.string t] 9)=W at kB r1 r2 ⊢
 obtain⟨q2,hq2⟩:∃q,q=w.heap.size+1:=⟨_,rfl⟩
 rw[<-hq2]at r2 ⊢
 obtain⟨q1,hq1⟩:∃q,q=w.heap.size:=⟨_,rfl⟩
 rw[<-hq1]at r1 ⊢
 have HR:=hid' (And.intro r1 (And.intro r2 kB))
 clear hq1 hq2 r1 r2 kB
 go_wp2_with fail
 refine(idx_models 166 #[.pointer (some ⟨q1,0,none⟩),.pointer (some ⟨q2,0,none⟩)] (fun j=>(nameC (L.getD j [])).toList == t.toList) (fun _ _=>by simp) ao n c L W (fun V j hV hj=>?_) (HS.out.1.kept HR.out.2.2) HS.out.2.1 hbig).mono ?_
 ·have hm:L.getD j []∈L:=by
   rw[List.getD_eq_getElem?_getD,List.getElem?_eq_getElem (by rw[<-HLN.out];exact hj)]
   exact List.getElem_mem _
  obtain⟨s,r,e⟩:=HS.out.2.2 _ hm
  have hlen:=HS.out.2.1 _ hm
  rw[e]at hlen
  obtain⟨x1,x2,x3,rfl⟩:=list3 (by simpa using hlen)
  rw[e]
  exact(find1_model s t x1 x2 x3 q1 q2 V ((HR.out.1.kept hV).cell 0 _) ((HR.out.2.1.kept hV).cell 0 _) (Nat.lt_of_lt_of_le HR.out.1.lt hV.size) (Nat.lt_of_lt_of_le HR.out.2.1.lt hV.size)).mono (fun e w' h=>⟨h.1,hV.trans h.2⟩)
 rintro e w' ⟨hk,i,h1,h2,h3,rfl⟩
 obtain⟨z,hz⟩:∃z,z=(if i=n then (-1:Int) else (i:Int)):=⟨_,rfl⟩
 rw[<-hz]
 have HF:=hid' (And.intro (HR.out.2.2.trans hk) (And.intro h1 (And.intro h2 (And.intro h3 hz))))
 clear hk h1 h2 h3 hz
 go_wp2_with fail
 go_ret
 exact⟨HF.out.1,i,HF.out.2.1,HF.out.2.2.1,HF.out.2.2.2.1,by rw[HF.out.2.2.2.2];rfl⟩
theorem twice_model (ao:Option Addr)(n c:Nat)(L:List (List Value))(w:World)(h:RowsR 4 w (.slice ao n c) L)(hsh:∀x∈L,ShM x)(hcap:n<=c)(hbig:c<=9223372036854775807) :
  Calls Tryz.prog 105 #[.slice ao n c,.func (.func 106) #[] #[]] w fun e w'=>Kept w w'/\e=.returned (.bool (twiceB (fun j=>nameC (L.getD j [])) n)):=by
 have HS:=hid' (And.intro h (And.intro (show ∀x∈L,x.length=4 from fun x hx=>(hsh x hx).len) (And.intro (show ∀x∈L,∃s r,x=.string s::r from fun x hx=>(hsh x hx).name) hsh)))
 have HLN:=hid' h.len
 clear h hsh
 obtain⟨r,hr⟩:∃r,r=twiceB (fun j=>nameC (L.getD j [])) n:=⟨_,rfl⟩
 rw[<-hr]
 have HR:=hid' hr
 clear hr
 go_enter Tryz.func105,Tryz.ntmps105
 go_wp2_with fail
 go_loopw [9] (fun v9 wr=>∃i:Nat,i<=n/\v9=.int .i64 (i:Int)/\Hid (Kept w wr/\∀k,k<i->anyB (fun j=>(nameC (L.getD j [])).toList == (nameC (L.getD k [])).toList) k=false)) (fun v9 _=>n-(intOf v9).toNat)
 case atStart=>exact⟨0,Nat.zero_le _,rfl,Kept.refl w,fun k hk=>absurd hk (Nat.not_lt_zero _)⟩
 case round=>
  obtain⟨i,hi,rfl,H⟩:=hrel
  by_cases hit:i<n
  ·have hii:(i:Int)<(n:Int):=by omega
   have hi0:(0:Int)<=(i:Int):=by omega
   have hic:(i:Int)<=(c:Int):=by omega
   have hRk:=HS.out.1.kept H.out.1
   obtain⟨ao',cap',hv,hx⟩:=hRk
   simp only[Value.slice.injEq]at hv
   obtain⟨rfl,hn,rfl⟩:=hv
   obtain⟨b,off,rfl,hb,hc⟩:=hx (by omega)
   have hm:L.getD i []∈L:=by
    rw[List.getD_eq_getElem?_getD,List.getElem?_eq_getElem (by omega)]
    exact List.getElem_mem _
   obtain⟨s,k1,a1,n1,o1,a2,n2,o2,hxx⟩:=HS.out.2.2.2 _ hm
   have c0:=hc i (by omega) 0 (by omega)
   rw[hxx]at c0
   simp only[List.getD_cons_zero]at c0
   have c1:=hc i (by omega) 1 (by omega)
   rw[hxx]at c1
   simp only[List.getD_cons_zero,List.getD_cons_succ]at c1
   have c2:=hc i (by omega) 2 (by omega)
   rw[hxx]at c2
   simp only[List.getD_cons_zero,List.getD_cons_succ]at c2
   have c3:=hc i (by omega) 3 (by omega)
   rw[hxx]at c3
   simp only[List.getD_cons_zero,List.getD_cons_succ]at c3
   rw[Nat.add_zero]at c0
   have HXX:=hid' hxx
   clear hx hc hn hxx hm hb
   have kA:=H.out.1.alloc (.cells #[.string s,.int .u8 k1,.slice a1 n1 o1,.slice a2 n2 o2] 46)
   have hA:=RowL.alloc 46 wr [.string s,.int .u8 k1,.slice a1 n1 o1,.slice a2 n2 o2]
   go_upto_region 4 with fail
   generalize wr.alloc (.cells #[.string s,.int .u8 k1,.slice a1 n1 o1,.slice a2 n2 o2] 46)=W at kA hA ⊢
   obtain⟨p,hp⟩:∃q,q=wr.heap.size:=⟨_,rfl⟩
   rw[<-hp]at hA ⊢
   clear hp
   have sS:=hid' (fun (V:World) (K:Kept W V)=>(And.intro (hA.kept K |>.cell 0 (.string s)) (And.intro (hA.kept K |>.cell 1 (.int .u8 k1)) (And.intro (hA.kept K |>.cell 2 (.slice a1 n1 o1)) (hA.kept K |>.cell 3 (.slice a2 n2 o2))))))
   have HKA:=hid' kA
   have KT:Kept W W.drew:=(Kept.refl _).drew
   clear kA hA c0 c1 c2 c3
   refine wp_region_held_drew (S:=fun w'=>w'.cell? ⟨p,0,none⟩=some (.string s)/\w'.cell? ⟨p,1,none⟩=some (.int .u8 k1)/\w'.cell? ⟨p,2,none⟩=some (.slice a1 n1 o1)/\w'.cell? ⟨p,3,none⟩=some (.slice a2 n2 o2)) (by kernel_rfl) (sS.out _ KT) (fun hHeld=>?_)
   generalize W.drew=Wd at KT hHeld ⊢
   refine tk 0 hHeld ?_
   refine tk 1 hHeld ?_
   refine tk 2 hHeld ?_
   refine tk 3 hHeld ?_
   refine tk 4 hHeld ?_
   refine tk 5 hHeld ?_
   refine rdy 6 fun K hK=>?_
   go_simp
   refine(name_model s (.int .u8 k1) (.slice a1 n1 o1) (.slice a2 n2 o2) _).mono ?_
   rintro e w2 ⟨rfl,hk2⟩
   have KT:=KT.trans hk2
   refine hK.out _ _ (sS.out _ KT) (fun hHeld=>?_)
   clear hK K hk2
   refine rdy 7 fun K hK=>?_
   go_simp
   refine(find_model _ i c (L.take i) s w2 ((HS.out.1.take i c (by omega)).kept (HKA.out.trans KT)) (fun x hx=>HS.out.2.1 x (List.mem_of_mem_take hx)) (fun x hx=>HS.out.2.2.1 x (List.mem_of_mem_take hx)) (by omega)).mono ?_
   rintro e w3 ⟨hk3,hidx⟩
   obtain⟨z,rfl,hz⟩:=idx_any hidx
   have hzz:decide (0<=z)=anyB (fun j=>(nameC (L.getD j [])).toList == (nameC (L.getD i [])).toList) i:=by
    rw[hz,HXX.out]
    unfold anyB
    exact any_cong (fun j hj=>by
     have hji:=List.mem_range.1 hj
     rw[List.getD_eq_getElem?_getD,List.getElem?_take_of_lt hji,<-List.getD_eq_getElem?_getD]
     rfl)
   have KT:=KT.trans hk3
   refine hK.out _ _ (sS.out _ KT) (fun hHeld=>?_)
   clear hK K hk3 hidx hz
   cases hbb:anyB (fun j=>(nameC (L.getD j [])).toList == (nameC (L.getD i [])).toList) i with
   |true=>
    rw[hbb]at hzz
    have hz0:0<=z:=of_decide_eq_true hzz
    have HE:=hid' (show r=true by rw[HR.out];exact anyB_hit hit hbb)
    have HK:=hid' (HKA.out.trans KT)
    have hz1:¬z<0:=by omega
    clear hbb hzz KT
    refine tk 8 hHeld ?_
    refine dn ?_
    go_wp2_with fail
    go_ret
    exact⟨HK.out,by rw[HE.out];rfl⟩
   |false=>
    rw[hbb]at hzz
    have hz0:¬0<=z:=of_decide_eq_false hzz
    have HN:=hid' (And.intro (HKA.out.trans KT) (show ∀k,k<i+1->anyB (fun j=>(nameC (L.getD j [])).toList == (nameC (L.getD k [])).toList) k=false from fun k hk=>by
     by_cases e:k=i
     ·subst e;exact hbb
     ·exact H.out.2 k (by omega)))
    have hz1:z<0:=by omega
    clear hbb hzz KT
    refine tk 8 hHeld ?_
    refine dn ?_
    go_wp2_with fail
    go_roundw
    case rel=>exact⟨i+1,by omega,by go_num,HN.out⟩
    case measure=>show n-((i:Int)+1).toNat<n-(i:Int).toNat;omega
  ·have hii:¬(i:Int)<(n:Int):=by omega
   obtain rfl:i=n:=by omega
   have HE:=hid' (show r=false by rw[HR.out];exact anyB_miss H.out.2)
   go_wp2_with fail
   go_ret
   exact⟨H.out.1,by rw[HE.out];rfl⟩
theorem name_sub (s:ByteArray)(x1 x2:Value)(w:World):Calls Tryz.prog 108 #[.agg #[.string s,x1,x2]] w fun e w'=>e=.returned (.string s)/\Kept w w':=by
 go_enter Tryz.func108,Tryz.ntmps108
 go_wp2_with fail
 go_ret
 exact⟨rfl,(Kept.refl w).alloc _⟩
theorem find1_sub (s t:ByteArray)(x1 x2:Value)(q1 q2:Nat)(w:World)(h1:w.cell? ⟨q1,0,none⟩=some (.func (.func 108) #[] #[]))(h2:w.cell? ⟨q2,0,none⟩=some (.string t))(b1:q1<w.heap.size)(b2:q2<w.heap.size) :
  Calls Tryz.prog 167 #[.agg #[.string s,x1,x2],.pointer (some ⟨q1,0,none⟩),.pointer (some ⟨q2,0,none⟩)] w fun e w'=>e=.returned (.bool (s.toList == t.toList))/\Kept w w':=by
 have kA:=(Kept.refl w).alloc (.cells #[.string s,x1,x2] 125)
 have hA:=RowL.alloc 125 w [.string s,x1,x2]
 go_enter Tryz.func167,Tryz.ntmps167
 go_upto_region 1 with fail
 generalize w.alloc (.cells #[.string s,x1,x2] 125)=W at kA hA ⊢
 obtain⟨p,hp⟩:∃q,q=w.heap.size:=⟨_,rfl⟩
 rw[<-hp]at hA ⊢
 clear hp
 have sS:=hid' (fun (V:World) (K:Kept W V)=>And.intro ((Below.cell (kA.trans K) (p:=⟨q1,0,none⟩) b1).trans h1) (And.intro ((Below.cell (kA.trans K) (p:=⟨q2,0,none⟩) b2).trans h2) (And.intro (hA.kept K |>.cell 0 (.string s)) (And.intro (hA.kept K |>.cell 1 (x1)) (hA.kept K |>.cell 2 (x2))))))
 have HKA:=hid' kA
 have KT:Kept W W.drew:=(Kept.refl _).drew
 clear h1 h2 kA hA
 refine wp_region_held_drew (S:=fun w'=>w'.cell? ⟨q1,0,none⟩=some (.func (.func 108) #[] #[])/\w'.cell? ⟨q2,0,none⟩=some (.string t)/\w'.cell? ⟨p,0,none⟩=some (.string s)/\w'.cell? ⟨p,1,none⟩=some (x1)/\w'.cell? ⟨p,2,none⟩=some (x2)) (by kernel_rfl) (sS.out _ KT) (fun hHeld=>?_)
 generalize W.drew=Wd at KT hHeld ⊢
 refine tk 0 hHeld ?_
 refine tk 1 hHeld ?_
 refine tk 3 hHeld ?_
 refine rdy 2 fun K hK=>?_
 go_simp
 refine(name_sub s x1 x2 _).mono ?_
 rintro e w2 ⟨rfl,hk2⟩
 have KT:=KT.trans hk2
 refine hK.out _ _ (sS.out _ KT) (fun hHeld=>?_)
 clear hK K hk2
 refine tk 4 hHeld ?_
 refine tk 5 hHeld ?_
 refine dn ?_
 go_wp2_with fail
 go_ret
 exact⟨rfl,HKA.out.trans KT⟩
theorem find_sub (ao:Option Addr)(n c:Nat)(L:List (List Value))(t:ByteArray)(w:World)(h:RowsR 3 w (.slice ao n c) L)(hl:∀x∈L,x.length=3)(hs:∀x∈L,∃s r,x=.string s::r)(hbig:n<=9223372036854775807) :
  Calls Tryz.prog 141 #[.slice ao n c,.func (.func 108) #[] #[],.string t] w fun e w'=>Kept w w'/\IdxIs e n (fun j=>(nameC (L.getD j [])).toList == t.toList):=by
 have HS:=hid' (And.intro h (And.intro hl hs))
 have HLN:=hid' h.len
 clear h hl hs
 have kB:=((Kept.refl w).alloc (.cells #[.func (.func 108) #[] #[]] 139)).alloc (.cells #[.string t] 9)
 have r1:=(RowL.alloc 139 w [.func (.func 108) #[] #[]]).kept ((Kept.refl _).alloc (.cells #[.string t] 9))
 have r2:=RowL.alloc 9 (w.alloc (.cells #[.func (.func 108) #[] #[]] 139)) [.string t]
 rw[World.size_alloc]at r2
 go_enter Tryz.func141,Tryz.ntmps141
 go_upto_region 1 with fail
 generalize (w.alloc (.cells #[.func (.func 108) #[] #[]] 139)).alloc (.cells #[.string t] 9)=W at kB r1 r2 ⊢
 obtain⟨q2,hq2⟩:∃q,q=w.heap.size+1:=⟨_,rfl⟩
 rw[<-hq2]at r2 ⊢
 obtain⟨q1,hq1⟩:∃q,q=w.heap.size:=⟨_,rfl⟩
 rw[<-hq1]at r1 ⊢
 have HR:=hid' (And.intro r1 (And.intro r2 kB))
 clear hq1 hq2 r1 r2 kB
 go_wp2_with fail
 refine(idx_subs 167 #[.pointer (some ⟨q1,0,none⟩),.pointer (some ⟨q2,0,none⟩)] (fun j=>(nameC (L.getD j [])).toList == t.toList) (fun _ _=>by simp) ao n c L W (fun V j hV hj=>?_) (HS.out.1.kept HR.out.2.2) HS.out.2.1 hbig).mono ?_
 ·have hm:L.getD j []∈L:=by
   rw[List.getD_eq_getElem?_getD,List.getElem?_eq_getElem (by rw[<-HLN.out];exact hj)]
   exact List.getElem_mem _
  obtain⟨s,r,e⟩:=HS.out.2.2 _ hm
  have hlen:=HS.out.2.1 _ hm
  rw[e]at hlen
  obtain⟨x1,x2,rfl⟩:=list2 (by simpa using hlen)
  rw[e]
  exact(find1_sub s t x1 x2 q1 q2 V ((HR.out.1.kept hV).cell 0 _) ((HR.out.2.1.kept hV).cell 0 _) (Nat.lt_of_lt_of_le HR.out.1.lt hV.size) (Nat.lt_of_lt_of_le HR.out.2.1.lt hV.size)).mono (fun e w' h=>⟨h.1,hV.trans h.2⟩)
 rintro e w' ⟨hk,i,h1,h2,h3,rfl⟩
 obtain⟨z,hz⟩:∃z,z=(if i=n then (-1:Int) else (i:Int)):=⟨_,rfl⟩
 rw[<-hz]
 have HF:=hid' (And.intro (HR.out.2.2.trans hk) (And.intro h1 (And.intro h2 (And.intro h3 hz))))
 clear hk h1 h2 h3 hz
 go_wp2_with fail
 go_ret
 exact⟨HF.out.1,i,HF.out.2.1,HF.out.2.2.1,HF.out.2.2.2.1,by rw[HF.out.2.2.2.2];rfl⟩
theorem twice_sub (ao:Option Addr)(n c:Nat)(L:List (List Value))(w:World)(h:RowsR 3 w (.slice ao n c) L)(hsh:∀x∈L,ShS x)(hcap:n<=c)(hbig:c<=9223372036854775807) :
  Calls Tryz.prog 107 #[.slice ao n c,.func (.func 108) #[] #[]] w fun e w'=>Kept w w'/\e=.returned (.bool (twiceB (fun j=>nameC (L.getD j [])) n)):=by
 have HS:=hid' (And.intro h (And.intro (show ∀x∈L,x.length=3 from fun x hx=>(hsh x hx).len) (And.intro (show ∀x∈L,∃s r,x=.string s::r from fun x hx=>(hsh x hx).name) hsh)))
 have HLN:=hid' h.len
 clear h hsh
 obtain⟨r,hr⟩:∃r,r=twiceB (fun j=>nameC (L.getD j [])) n:=⟨_,rfl⟩
 rw[<-hr]
 have HR:=hid' hr
 clear hr
 go_enter Tryz.func107,Tryz.ntmps107
 go_wp2_with fail
 go_loopw [9] (fun v9 wr=>∃i:Nat,i<=n/\v9=.int .i64 (i:Int)/\Hid (Kept w wr/\∀k,k<i->anyB (fun j=>(nameC (L.getD j [])).toList == (nameC (L.getD k [])).toList) k=false)) (fun v9 _=>n-(intOf v9).toNat)
 case atStart=>exact⟨0,Nat.zero_le _,rfl,Kept.refl w,fun k hk=>absurd hk (Nat.not_lt_zero _)⟩
 case round=>
  obtain⟨i,hi,rfl,H⟩:=hrel
  by_cases hit:i<n
  ·have hii:(i:Int)<(n:Int):=by omega
   have hi0:(0:Int)<=(i:Int):=by omega
   have hic:(i:Int)<=(c:Int):=by omega
   have hRk:=HS.out.1.kept H.out.1
   obtain⟨ao',cap',hv,hx⟩:=hRk
   simp only[Value.slice.injEq]at hv
   obtain⟨rfl,hn,rfl⟩:=hv
   obtain⟨b,off,rfl,hb,hc⟩:=hx (by omega)
   have hm:L.getD i []∈L:=by
    rw[List.getD_eq_getElem?_getD,List.getElem?_eq_getElem (by omega)]
    exact List.getElem_mem _
   obtain⟨s,a1,n1,o1,a2,n2,o2,hxx⟩:=HS.out.2.2.2 _ hm
   have c0:=hc i (by omega) 0 (by omega)
   rw[hxx]at c0
   simp only[List.getD_cons_zero]at c0
   have c1:=hc i (by omega) 1 (by omega)
   rw[hxx]at c1
   simp only[List.getD_cons_zero,List.getD_cons_succ]at c1
   have c2:=hc i (by omega) 2 (by omega)
   rw[hxx]at c2
   simp only[List.getD_cons_zero,List.getD_cons_succ]at c2
   rw[Nat.add_zero]at c0
   have HXX:=hid' hxx
   clear hx hc hn hxx hm hb
   have kA:=H.out.1.alloc (.cells #[.string s,.slice a1 n1 o1,.slice a2 n2 o2] 125)
   have hA:=RowL.alloc 125 wr [.string s,.slice a1 n1 o1,.slice a2 n2 o2]
   go_upto_region 4 with fail
   generalize wr.alloc (.cells #[.string s,.slice a1 n1 o1,.slice a2 n2 o2] 125)=W at kA hA ⊢
   obtain⟨p,hp⟩:∃q,q=wr.heap.size:=⟨_,rfl⟩
   rw[<-hp]at hA ⊢
   clear hp
   have sS:=hid' (fun (V:World) (K:Kept W V)=>(And.intro (hA.kept K |>.cell 0 (.string s)) (And.intro (hA.kept K |>.cell 1 (.slice a1 n1 o1)) (hA.kept K |>.cell 2 (.slice a2 n2 o2)))))
   have HKA:=hid' kA
   have KT:Kept W W.drew:=(Kept.refl _).drew
   clear kA hA c0 c1 c2
   refine wp_region_held_drew (S:=fun w'=>w'.cell? ⟨p,0,none⟩=some (.string s)/\w'.cell? ⟨p,1,none⟩=some (.slice a1 n1 o1)/\w'.cell? ⟨p,2,none⟩=some (.slice a2 n2 o2)) (by kernel_rfl) (sS.out _ KT) (fun hHeld=>?_)
   generalize W.drew=Wd at KT hHeld ⊢
   refine tk 0 hHeld ?_
   refine tk 1 hHeld ?_
   refine tk 2 hHeld ?_
   refine tk 3 hHeld ?_
   refine tk 4 hHeld ?_
   refine tk 5 hHeld ?_
   refine rdy 6 fun K hK=>?_
   go_simp
   refine(name_sub s (.slice a1 n1 o1) (.slice a2 n2 o2) _).mono ?_
   rintro e w2 ⟨rfl,hk2⟩
   have KT:=KT.trans hk2
   refine hK.out _ _ (sS.out _ KT) (fun hHeld=>?_)
   clear hK K hk2
   refine rdy 7 fun K hK=>?_
   go_simp
   refine(find_sub _ i c (L.take i) s w2 ((HS.out.1.take i c (by omega)).kept (HKA.out.trans KT)) (fun x hx=>HS.out.2.1 x (List.mem_of_mem_take hx)) (fun x hx=>HS.out.2.2.1 x (List.mem_of_mem_take hx)) (by omega)).mono ?_
   rintro e w3 ⟨hk3,hidx⟩
   obtain⟨z,rfl,hz⟩:=idx_any hidx
   have hzz:decide (0<=z)=anyB (fun j=>(nameC (L.getD j [])).toList == (nameC (L.getD i [])).toList) i:=by
    rw[hz,HXX.out]
    unfold anyB
    exact any_cong (fun j hj=>by
     have hji:=List.mem_range.1 hj
     rw[List.getD_eq_getElem?_getD,List.getElem?_take_of_lt hji,<-List.getD_eq_getElem?_getD]
     rfl)
   have KT:=KT.trans hk3
   refine hK.out _ _ (sS.out _ KT) (fun hHeld=>?_)
   clear hK K hk3 hidx hz
   cases hbb:anyB (fun j=>(nameC (L.getD j [])).toList == (nameC (L.getD i [])).toList) i with
   |true=>
    rw[hbb]at hzz
    have hz0:0<=z:=of_decide_eq_true hzz
    have HE:=hid' (show r=true by rw[HR.out];exact anyB_hit hit hbb)
    have HK:=hid' (HKA.out.trans KT)
    have hz1:¬z<0:=by omega
    clear hbb hzz KT
    refine tk 8 hHeld ?_
    refine dn ?_
    go_wp2_with fail
    go_ret
    exact⟨HK.out,by rw[HE.out];rfl⟩
   |false=>
    rw[hbb]at hzz
    have hz0:¬0<=z:=of_decide_eq_false hzz
    have HN:=hid' (And.intro (HKA.out.trans KT) (show ∀k,k<i+1->anyB (fun j=>(nameC (L.getD j [])).toList == (nameC (L.getD k [])).toList) k=false from fun k hk=>by
     by_cases e:k=i
     ·subst e;exact hbb
     ·exact H.out.2 k (by omega)))
    have hz1:z<0:=by omega
    clear hbb hzz KT
    refine tk 8 hHeld ?_
    refine dn ?_
    go_wp2_with fail
    go_roundw
    case rel=>exact⟨i+1,by omega,by go_num,HN.out⟩
    case measure=>show n-((i:Int)+1).toNat<n-(i:Int).toNat;omega
  ·have hii:¬(i:Int)<(n:Int):=by omega
   obtain rfl:i=n:=by omega
   have HE:=hid' (show r=false by rw[HR.out];exact anyB_miss H.out.2)
   go_wp2_with fail
   go_ret
   exact⟨H.out.1,by rw[HE.out];rfl⟩
theorem name_card (s:ByteArray)(x1 x2 x3 x4 x5 x6 x7:Value)(w:World):Calls Tryz.prog 114 #[.agg #[.string s,x1,x2,x3,x4,x5,x6,x7]] w fun e w'=>e=.returned (.string s)/\Kept w w':=by
 go_enter Tryz.func114,Tryz.ntmps114
 go_wp2_with fail
 go_ret
 exact⟨rfl,(Kept.refl w).alloc _⟩
theorem find1_card (s t:ByteArray)(x1 x2 x3 x4 x5 x6 x7:Value)(q1 q2:Nat)(w:World)(h1:w.cell? ⟨q1,0,none⟩=some (.func (.func 114) #[] #[]))(h2:w.cell? ⟨q2,0,none⟩=some (.string t))(b1:q1<w.heap.size)(b2:q2<w.heap.size) :
  Calls Tryz.prog 169 #[.agg #[.string s,x1,x2,x3,x4,x5,x6,x7],.pointer (some ⟨q1,0,none⟩),.pointer (some ⟨q2,0,none⟩)] w fun e w'=>e=.returned (.bool (s.toList == t.toList))/\Kept w w':=by
 have kA:=(Kept.refl w).alloc (.cells #[.string s,x1,x2,x3,x4,x5,x6,x7] 110)
 have hA:=RowL.alloc 110 w [.string s,x1,x2,x3,x4,x5,x6,x7]
 go_enter Tryz.func169,Tryz.ntmps169
 go_upto_region 1 with fail
 generalize w.alloc (.cells #[.string s,x1,x2,x3,x4,x5,x6,x7] 110)=W at kA hA ⊢
 obtain⟨p,hp⟩:∃q,q=w.heap.size:=⟨_,rfl⟩
 rw[<-hp]at hA ⊢
 clear hp
 have sS:=hid' (fun (V:World) (K:Kept W V)=>And.intro ((Below.cell (kA.trans K) (p:=⟨q1,0,none⟩) b1).trans h1) (And.intro ((Below.cell (kA.trans K) (p:=⟨q2,0,none⟩) b2).trans h2) (And.intro (hA.kept K |>.cell 0 (.string s)) (And.intro (hA.kept K |>.cell 1 (x1)) (And.intro (hA.kept K |>.cell 2 (x2)) (And.intro (hA.kept K |>.cell 3 (x3)) (And.intro (hA.kept K |>.cell 4 (x4)) (And.intro (hA.kept K |>.cell 5 (x5)) (And.intro (hA.kept K |>.cell 6 (x6)) (hA.kept K |>.cell 7 (x7)))))))))))
 have HKA:=hid' kA
 have KT:Kept W W.drew:=(Kept.refl _).drew
 clear h1 h2 kA hA
 refine wp_region_held_drew (S:=fun w'=>w'.cell? ⟨q1,0,none⟩=some (.func (.func 114) #[] #[])/\w'.cell? ⟨q2,0,none⟩=some (.string t)/\w'.cell? ⟨p,0,none⟩=some (.string s)/\w'.cell? ⟨p,1,none⟩=some (x1)/\w'.cell? ⟨p,2,none⟩=some (x2)/\w'.cell? ⟨p,3,none⟩=some (x3)/\w'.cell? ⟨p,4,none⟩=some (x4)/\w'.cell? ⟨p,5,none⟩=some (x5)/\w'.cell? ⟨p,6,none⟩=some (x6)/\w'.cell? ⟨p,7,none⟩=some (x7)) (by kernel_rfl) (sS.out _ KT) (fun hHeld=>?_)
 generalize W.drew=Wd at KT hHeld ⊢
 refine tk 0 hHeld ?_
 refine tk 1 hHeld ?_
 refine tk 3 hHeld ?_
 refine rdy 2 fun K hK=>?_
 go_simp
 refine(name_card s x1 x2 x3 x4 x5 x6 x7 _).mono ?_
 rintro e w2 ⟨rfl,hk2⟩
 have KT:=KT.trans hk2
 refine hK.out _ _ (sS.out _ KT) (fun hHeld=>?_)
 clear hK K hk2
 refine tk 4 hHeld ?_
 refine tk 5 hHeld ?_
 refine dn ?_
 go_wp2_with fail
 go_ret
 exact⟨rfl,HKA.out.trans KT⟩
theorem find_card (ao:Option Addr)(n c:Nat)(L:List (List Value))(t:ByteArray)(w:World)(h:RowsR 8 w (.slice ao n c) L)(hl:∀x∈L,x.length=8)(hs:∀x∈L,∃s r,x=.string s::r)(hbig:n<=9223372036854775807) :
  Calls Tryz.prog 143 #[.slice ao n c,.func (.func 114) #[] #[],.string t] w fun e w'=>Kept w w'/\IdxIs e n (fun j=>(nameC (L.getD j [])).toList == t.toList):=by
 have HS:=hid' (And.intro h (And.intro hl hs))
 have HLN:=hid' h.len
 clear h hl hs
 have kB:=((Kept.refl w).alloc (.cells #[.func (.func 114) #[] #[]] 143)).alloc (.cells #[.string t] 9)
 have r1:=(RowL.alloc 143 w [.func (.func 114) #[] #[]]).kept ((Kept.refl _).alloc (.cells #[.string t] 9))
 have r2:=RowL.alloc 9 (w.alloc (.cells #[.func (.func 114) #[] #[]] 143)) [.string t]
 rw[World.size_alloc]at r2
 go_enter Tryz.func143,Tryz.ntmps143
 go_upto_region 1 with fail
 generalize (w.alloc (.cells #[.func (.func 114) #[] #[]] 143)).alloc (.cells #[.string t] 9)=W at kB r1 r2 ⊢
 obtain⟨q2,hq2⟩:∃q,q=w.heap.size+1:=⟨_,rfl⟩
 rw[<-hq2]at r2 ⊢
 obtain⟨q1,hq1⟩:∃q,q=w.heap.size:=⟨_,rfl⟩
 rw[<-hq1]at r1 ⊢
 have HR:=hid' (And.intro r1 (And.intro r2 kB))
 clear hq1 hq2 r1 r2 kB
 go_wp2_with fail
 refine(idx_cards 169 #[.pointer (some ⟨q1,0,none⟩),.pointer (some ⟨q2,0,none⟩)] (fun j=>(nameC (L.getD j [])).toList == t.toList) (fun _ _=>by simp) ao n c L W (fun V j hV hj=>?_) (HS.out.1.kept HR.out.2.2) HS.out.2.1 hbig).mono ?_
 ·have hm:L.getD j []∈L:=by
   rw[List.getD_eq_getElem?_getD,List.getElem?_eq_getElem (by rw[<-HLN.out];exact hj)]
   exact List.getElem_mem _
  obtain⟨s,r,e⟩:=HS.out.2.2 _ hm
  have hlen:=HS.out.2.1 _ hm
  rw[e]at hlen
  obtain⟨x1,x2,x3,x4,x5,x6,x7,rfl⟩:=list7 (by simpa using hlen)
  rw[e]
  exact(find1_card s t x1 x2 x3 x4 x5 x6 x7 q1 q2 V ((HR.out.1.kept hV).cell 0 _) ((HR.out.2.1.kept hV).cell 0 _) (Nat.lt_of_lt_of_le HR.out.1.lt hV.size) (Nat.lt_of_lt_of_le HR.out.2.1.lt hV.size)).mono (fun e w' h=>⟨h.1,hV.trans h.2⟩)
 rintro e w' ⟨hk,i,h1,h2,h3,rfl⟩
 obtain⟨z,hz⟩:∃z,z=(if i=n then (-1:Int) else (i:Int)):=⟨_,rfl⟩
 rw[<-hz]
 have HF:=hid' (And.intro (HR.out.2.2.trans hk) (And.intro h1 (And.intro h2 (And.intro h3 hz))))
 clear hk h1 h2 h3 hz
 go_wp2_with fail
 go_ret
 exact⟨HF.out.1,i,HF.out.2.1,HF.out.2.2.1,HF.out.2.2.2.1,by rw[HF.out.2.2.2.2];rfl⟩
theorem twice_card (ao:Option Addr)(n c:Nat)(L:List (List Value))(w:World)(h:RowsR 8 w (.slice ao n c) L)(hsh:∀x∈L,ShC x)(hcap:n<=c)(hbig:c<=9223372036854775807) :
  Calls Tryz.prog 113 #[.slice ao n c,.func (.func 114) #[] #[]] w fun e w'=>Kept w w'/\e=.returned (.bool (twiceB (fun j=>nameC (L.getD j [])) n)):=by
 have HS:=hid' (And.intro h (And.intro (show ∀x∈L,x.length=8 from fun x hx=>(hsh x hx).len) (And.intro (show ∀x∈L,∃s r,x=.string s::r from fun x hx=>(hsh x hx).name) hsh)))
 have HLN:=hid' h.len
 clear h hsh
 obtain⟨r,hr⟩:∃r,r=twiceB (fun j=>nameC (L.getD j [])) n:=⟨_,rfl⟩
 rw[<-hr]
 have HR:=hid' hr
 clear hr
 go_enter Tryz.func113,Tryz.ntmps113
 go_wp2_with fail
 go_loopw [9] (fun v9 wr=>∃i:Nat,i<=n/\v9=.int .i64 (i:Int)/\Hid (Kept w wr/\∀k,k<i->anyB (fun j=>(nameC (L.getD j [])).toList == (nameC (L.getD k [])).toList) k=false)) (fun v9 _=>n-(intOf v9).toNat)
 case atStart=>exact⟨0,Nat.zero_le _,rfl,Kept.refl w,fun k hk=>absurd hk (Nat.not_lt_zero _)⟩
 case round=>
  obtain⟨i,hi,rfl,H⟩:=hrel
  by_cases hit:i<n
  ·have hii:(i:Int)<(n:Int):=by omega
   have hi0:(0:Int)<=(i:Int):=by omega
   have hic:(i:Int)<=(c:Int):=by omega
   have hRk:=HS.out.1.kept H.out.1
   obtain⟨ao',cap',hv,hx⟩:=hRk
   simp only[Value.slice.injEq]at hv
   obtain⟨rfl,hn,rfl⟩:=hv
   obtain⟨b,off,rfl,hb,hc⟩:=hx (by omega)
   have hm:L.getD i []∈L:=by
    rw[List.getD_eq_getElem?_getD,List.getElem?_eq_getElem (by omega)]
    exact List.getElem_mem _
   obtain⟨s,a1,n1,o1,t1,m1,m2,m3,a2,n2,o2,a3,n3,o3,hxx⟩:=HS.out.2.2.2 _ hm
   have c0:=hc i (by omega) 0 (by omega)
   rw[hxx]at c0
   simp only[List.getD_cons_zero]at c0
   have c1:=hc i (by omega) 1 (by omega)
   rw[hxx]at c1
   simp only[List.getD_cons_zero,List.getD_cons_succ]at c1
   have c2:=hc i (by omega) 2 (by omega)
   rw[hxx]at c2
   simp only[List.getD_cons_zero,List.getD_cons_succ]at c2
   have c3:=hc i (by omega) 3 (by omega)
   rw[hxx]at c3
   simp only[List.getD_cons_zero,List.getD_cons_succ]at c3
   have c4:=hc i (by omega) 4 (by omega)
   rw[hxx]at c4
   simp only[List.getD_cons_zero,List.getD_cons_succ]at c4
   have c5:=hc i (by omega) 5 (by omega)
   rw[hxx]at c5
   simp only[List.getD_cons_zero,List.getD_cons_succ]at c5
   have c6:=hc i (by omega) 6 (by omega)
   rw[hxx]at c6
   simp only[List.getD_cons_zero,List.getD_cons_succ]at c6
   have c7:=hc i (by omega) 7 (by omega)
   rw[hxx]at c7
   simp only[List.getD_cons_zero,List.getD_cons_succ]at c7
   rw[Nat.add_zero]at c0
   have HXX:=hid' hxx
   clear hx hc hn hxx hm hb
   have kA:=H.out.1.alloc (.cells #[.string s,.slice a1 n1 o1,.string t1,.int .i64 m1,.int .i64 m2,.int .i64 m3,.slice a2 n2 o2,.slice a3 n3 o3] 110)
   have hA:=RowL.alloc 110 wr [.string s,.slice a1 n1 o1,.string t1,.int .i64 m1,.int .i64 m2,.int .i64 m3,.slice a2 n2 o2,.slice a3 n3 o3]
   go_upto_region 4 with fail
   generalize wr.alloc (.cells #[.string s,.slice a1 n1 o1,.string t1,.int .i64 m1,.int .i64 m2,.int .i64 m3,.slice a2 n2 o2,.slice a3 n3 o3] 110)=W at kA hA ⊢
   obtain⟨p,hp⟩:∃q,q=wr.heap.size:=⟨_,rfl⟩
   rw[<-hp]at hA ⊢
   clear hp
   have sS:=hid' (fun (V:World) (K:Kept W V)=>(And.intro (hA.kept K |>.cell 0 (.string s)) (And.intro (hA.kept K |>.cell 1 (.slice a1 n1 o1)) (And.intro (hA.kept K |>.cell 2 (.string t1)) (And.intro (hA.kept K |>.cell 3 (.int .i64 m1)) (And.intro (hA.kept K |>.cell 4 (.int .i64 m2)) (And.intro (hA.kept K |>.cell 5 (.int .i64 m3)) (And.intro (hA.kept K |>.cell 6 (.slice a2 n2 o2)) (hA.kept K |>.cell 7 (.slice a3 n3 o3))))))))))
   have HKA:=hid' kA
   have KT:Kept W W.drew:=(Kept.refl _).drew
   clear kA hA c0 c1 c2 c3 c4 c5 c6 c7
   refine wp_region_held_drew (S:=fun w'=>w'.cell? ⟨p,0,none⟩=some (.string s)/\w'.cell? ⟨p,1,none⟩=some (.slice a1 n1 o1)/\w'.cell? ⟨p,2,none⟩=some (.string t1)/\w'.cell? ⟨p,3,none⟩=some (.int .i64 m1)/\w'.cell? ⟨p,4,none⟩=some (.int .i64 m2)/\w'.cell? ⟨p,5,none⟩=some (.int .i64 m3)/\w'.cell? ⟨p,6,none⟩=some (.slice a2 n2 o2)/\w'.cell? ⟨p,7,none⟩=some (.slice a3 n3 o3)) (by kernel_rfl) (sS.out _ KT) (fun hHeld=>?_)
   generalize W.drew=Wd at KT hHeld ⊢
   refine tk 0 hHeld ?_
   refine tk 1 hHeld ?_
   refine tk 2 hHeld ?_
   refine tk 3 hHeld ?_
   refine tk 4 hHeld ?_
   refine tk 5 hHeld ?_
   refine rdy 6 fun K hK=>?_
   go_simp
   refine(name_card s (.slice a1 n1 o1) (.string t1) (.int .i64 m1) (.int .i64 m2) (.int .i64 m3) (.slice a2 n2 o2) (.slice a3 n3 o3) _).mono ?_
   rintro e w2 ⟨rfl,hk2⟩
   have KT:=KT.trans hk2
   refine hK.out _ _ (sS.out _ KT) (fun hHeld=>?_)
   clear hK K hk2
   refine rdy 7 fun K hK=>?_
   go_simp
   refine(find_card _ i c (L.take i) s w2 ((HS.out.1.take i c (by omega)).kept (HKA.out.trans KT)) (fun x hx=>HS.out.2.1 x (List.mem_of_mem_take hx)) (fun x hx=>HS.out.2.2.1 x (List.mem_of_mem_take hx)) (by omega)).mono ?_
   rintro e w3 ⟨hk3,hidx⟩
   obtain⟨z,rfl,hz⟩:=idx_any hidx
   have hzz:decide (0<=z)=anyB (fun j=>(nameC (L.getD j [])).toList == (nameC (L.getD i [])).toList) i:=by
    rw[hz,HXX.out]
    unfold anyB
    exact any_cong (fun j hj=>by
     have hji:=List.mem_range.1 hj
     rw[List.getD_eq_getElem?_getD,List.getElem?_take_of_lt hji,<-List.getD_eq_getElem?_getD]
     rfl)
   have KT:=KT.trans hk3
   refine hK.out _ _ (sS.out _ KT) (fun hHeld=>?_)
   clear hK K hk3 hidx hz
   cases hbb:anyB (fun j=>(nameC (L.getD j [])).toList == (nameC (L.getD i [])).toList) i with
   |true=>
    rw[hbb]at hzz
    have hz0:0<=z:=of_decide_eq_true hzz
    have HE:=hid' (show r=true by rw[HR.out];exact anyB_hit hit hbb)
    have HK:=hid' (HKA.out.trans KT)
    have hz1:¬z<0:=by omega
    clear hbb hzz KT
    refine tk 8 hHeld ?_
    refine dn ?_
    go_wp2_with fail
    go_ret
    exact⟨HK.out,by rw[HE.out];rfl⟩
   |false=>
    rw[hbb]at hzz
    have hz0:¬0<=z:=of_decide_eq_false hzz
    have HN:=hid' (And.intro (HKA.out.trans KT) (show ∀k,k<i+1->anyB (fun j=>(nameC (L.getD j [])).toList == (nameC (L.getD k [])).toList) k=false from fun k hk=>by
     by_cases e:k=i
     ·subst e;exact hbb
     ·exact H.out.2 k (by omega)))
    have hz1:z<0:=by omega
    clear hbb hzz KT
    refine tk 8 hHeld ?_
    refine dn ?_
    go_wp2_with fail
    go_roundw
    case rel=>exact⟨i+1,by omega,by go_num,HN.out⟩
    case measure=>show n-((i:Int)+1).toNat<n-(i:Int).toNat;omega
  ·have hii:¬(i:Int)<(n:Int):=by omega
   obtain rfl:i=n:=by omega
   have HE:=hid' (show r=false by rw[HR.out];exact anyB_miss H.out.2)
   go_wp2_with fail
   go_ret
   exact⟨H.out.1,by rw[HE.out];rfl⟩
theorem name_str (s:ByteArray)(w:World):Calls Tryz.prog 111 #[.string s] w fun e w'=>e=.returned (.string s)/\Kept w w':=by
 go_enter Tryz.func111,Tryz.ntmps111
 go_wp2_with fail
 go_ret
 exact⟨rfl,Kept.refl w⟩
theorem find1_str (s t:ByteArray)(q1 q2:Nat)(w:World)(h1:w.cell? ⟨q1,0,none⟩=some (.func (.func 111) #[] #[]))(h2:w.cell? ⟨q2,0,none⟩=some (.string t))(b1:q1<w.heap.size)(b2:q2<w.heap.size) :
  Calls Tryz.prog 168 #[.string s,.pointer (some ⟨q1,0,none⟩),.pointer (some ⟨q2,0,none⟩)] w fun e w'=>e=.returned (.bool (s.toList == t.toList))/\Kept w w':=by
 go_enter Tryz.func168,Tryz.ntmps168
 go_upto_region 1 with fail
 have sS:=hid' (fun (V:World) (K:Kept w V)=>And.intro ((Below.cell K (p:=⟨q1,0,none⟩) b1).trans h1) ((Below.cell K (p:=⟨q2,0,none⟩) b2).trans h2))
 have KT:Kept w w.drew:=(Kept.refl _).drew
 clear h1 h2
 refine wp_region_held_drew (S:=fun w'=>w'.cell? ⟨q1,0,none⟩=some (.func (.func 111) #[] #[])/\w'.cell? ⟨q2,0,none⟩=some (.string t)) (by kernel_rfl) (sS.out _ KT) (fun hHeld=>?_)
 generalize w.drew=Wd at KT hHeld ⊢
 refine tk 0 hHeld ?_
 refine tk 1 hHeld ?_
 refine tk 3 hHeld ?_
 refine rdy 2 fun K hK=>?_
 go_simp
 refine(name_str s _).mono ?_
 rintro e w2 ⟨rfl,hk2⟩
 have KT:=KT.trans hk2
 refine hK.out _ _ (sS.out _ KT) (fun hHeld=>?_)
 clear hK K hk2
 refine tk 4 hHeld ?_
 refine tk 5 hHeld ?_
 refine dn ?_
 go_wp2_with fail
 go_ret
 exact⟨rfl,KT⟩
theorem find_str (ao:Option Addr)(n c:Nat)(l:List (List UInt8))(t:ByteArray)(w:World)(h:RS w (.slice ao n c) l)(hbig:n<=9223372036854775807) :
  Calls Tryz.prog 142 #[.slice ao n c,.func (.func 111) #[] #[],.string t] w fun e w'=>Kept w w'/\IdxIs e n (fun j=>(X.bs (l.getD j [])).toList == t.toList):=by
 have HS:=hid' h
 clear h
 have kB:=((Kept.refl w).alloc (.cells #[.func (.func 111) #[] #[]] 141)).alloc (.cells #[.string t] 9)
 have r1:=(RowL.alloc 141 w [.func (.func 111) #[] #[]]).kept ((Kept.refl _).alloc (.cells #[.string t] 9))
 have r2:=RowL.alloc 9 (w.alloc (.cells #[.func (.func 111) #[] #[]] 141)) [.string t]
 rw[World.size_alloc]at r2
 go_enter Tryz.func142,Tryz.ntmps142
 go_upto_region 1 with fail
 generalize (w.alloc (.cells #[.func (.func 111) #[] #[]] 141)).alloc (.cells #[.string t] 9)=W at kB r1 r2 ⊢
 obtain⟨q2,hq2⟩:∃q,q=w.heap.size+1:=⟨_,rfl⟩
 rw[<-hq2]at r2 ⊢
 obtain⟨q1,hq1⟩:∃q,q=w.heap.size:=⟨_,rfl⟩
 rw[<-hq1]at r1 ⊢
 have HR:=hid' (And.intro r1 (And.intro r2 kB))
 clear hq1 hq2 r1 r2 kB
 go_wp2_with fail
 refine(idx_strs 168 #[.pointer (some ⟨q1,0,none⟩),.pointer (some ⟨q2,0,none⟩)] (fun j=>(X.bs (l.getD j [])).toList == t.toList) (fun _ _=>by simp) ao n c l W (fun V j hV _=>?_) (HS.out.kept HR.out.2.2) hbig).mono ?_
 ·exact(find1_str (X.bs (l.getD j [])) t q1 q2 V ((HR.out.1.kept hV).cell 0 _) ((HR.out.2.1.kept hV).cell 0 _) (Nat.lt_of_lt_of_le HR.out.1.lt hV.size) (Nat.lt_of_lt_of_le HR.out.2.1.lt hV.size)).mono (fun e w' h=>⟨h.1,hV.trans h.2⟩)
 rintro e w' ⟨hk,i,h1,h2,h3,rfl⟩
 obtain⟨z,hz⟩:∃z,z=(if i=n then (-1:Int) else (i:Int)):=⟨_,rfl⟩
 rw[<-hz]
 have HF:=hid' (And.intro (HR.out.2.2.trans hk) (And.intro h1 (And.intro h2 (And.intro h3 hz))))
 clear hk h1 h2 h3 hz
 go_wp2_with fail
 go_ret
 exact⟨HF.out.1,i,HF.out.2.1,HF.out.2.2.1,HF.out.2.2.2.1,by rw[HF.out.2.2.2.2];rfl⟩
theorem RS.take {w:World}{ao:Option Addr}{n c:Nat}{l:List (List UInt8)}(h:RS w (.slice ao n c) l)(k c':Nat)(hk:k<=n):RS w (.slice ao k c') (l.take k):=by
 obtain⟨ao',cap,e,h⟩:=h
 simp only[Value.slice.injEq]at e
 obtain⟨rfl,hn,rfl⟩:=e
 have hl:(l.take k).length=k:=by rw[List.length_take];omega
 refine⟨ao,c',by rw[hl],fun h0=>?_⟩
 rw[hl]at h0 ⊢
 obtain⟨b,off,e,hb,hc⟩:=h (by omega)
 refine⟨b,off,e,hb,fun j hj=>?_⟩
 rw[hc j (by omega)]
 congr 3
 rw[List.getD_eq_getElem?_getD,List.getD_eq_getElem?_getD,List.getElem?_take_of_lt hj]
theorem twice_str (ao:Option Addr)(n c:Nat)(l:List (List UInt8))(w:World)(h:RS w (.slice ao n c) l)(hcap:n<=c)(hbig:c<=9223372036854775807) :
  Calls Tryz.prog 110 #[.slice ao n c,.func (.func 111) #[] #[]] w fun e w'=>Kept w w'/\e=.returned (.bool (twiceB (fun j=>X.bs (l.getD j [])) n)):=by
 have HS:=hid' h
 clear h
 obtain⟨r,hr⟩:∃r,r=twiceB (fun j=>X.bs (l.getD j [])) n:=⟨_,rfl⟩
 rw[<-hr]
 have HR:=hid' hr
 clear hr
 go_enter Tryz.func110,Tryz.ntmps110
 go_wp2_with fail
 go_loopw [9] (fun v9 wr=>∃i:Nat,i<=n/\v9=.int .i64 (i:Int)/\Hid (Kept w wr/\∀k,k<i->anyB (fun j=>(X.bs (l.getD j [])).toList == (X.bs (l.getD k [])).toList) k=false)) (fun v9 _=>n-(intOf v9).toNat)
 case atStart=>exact⟨0,Nat.zero_le _,rfl,Kept.refl w,fun k hk=>absurd hk (Nat.not_lt_zero _)⟩
 case round=>
  obtain⟨i,hi,rfl,H⟩:=hrel
  by_cases hit:i<n
  ·have hii:(i:Int)<(n:Int):=by omega
   have hi0:(0:Int)<=(i:Int):=by omega
   have hic:(i:Int)<=(c:Int):=by omega
   obtain⟨ao',cap',hv,hx⟩:=HS.out.kept H.out.1
   simp only[Value.slice.injEq]at hv
   obtain⟨rfl,hn,rfl⟩:=hv
   obtain⟨b,off,rfl,hb,hc⟩:=hx (by omega)
   have c0:=hc i (by omega)
   obtain⟨s,hs⟩:∃s,s=X.bs (l.getD i []):=⟨_,rfl⟩
   rw[<-hs]at c0
   have HXX:=hid' hs
   clear hx hc hn hs hb
   go_upto_region 4 with fail
   have KT:Kept wr wr.drew:=(Kept.refl _).drew
   clear c0
   refine wp_region_held_drew (S:=fun _=>True) (by kernel_rfl) trivial (fun hHeld=>?_)
   generalize wr.drew=Wd at KT ⊢
   refine tk 0 hHeld ?_
   refine tk 1 hHeld ?_
   refine tk 2 hHeld ?_
   refine tk 3 hHeld ?_
   refine tk 4 hHeld ?_
   refine tk 5 hHeld ?_
   refine rdy 6 fun K hK=>?_
   go_simp
   refine(name_str s _).mono ?_
   rintro e w2 ⟨rfl,hk2⟩
   have KT:=KT.trans hk2
   refine hK.out _ _ trivial (fun hHeld=>?_)
   clear hK K hk2
   refine rdy 7 fun K hK=>?_
   go_simp
   refine(find_str _ i c (l.take i) s w2 ((RS.take HS.out i c (by omega)).kept (H.out.1.trans KT)) (by omega)).mono ?_
   rintro e w3 ⟨hk3,hidx⟩
   obtain⟨z,rfl,hz⟩:=idx_any hidx
   have hzz:decide (0<=z)=anyB (fun j=>(X.bs (l.getD j [])).toList == (X.bs (l.getD i [])).toList) i:=by
    rw[hz,HXX.out]
    unfold anyB
    exact any_cong (fun j hj=>by
     have hji:=List.mem_range.1 hj
     rw[List.getD_eq_getElem?_getD,List.getElem?_take_of_lt hji,<-List.getD_eq_getElem?_getD])
   have KT:=KT.trans hk3
   refine hK.out _ _ trivial (fun hHeld=>?_)
   clear hK K hk3 hidx hz
   cases hbb:anyB (fun j=>(X.bs (l.getD j [])).toList == (X.bs (l.getD i [])).toList) i with
   |true=>
    rw[hbb]at hzz
    have hz0:0<=z:=of_decide_eq_true hzz
    have HE:=hid' (show r=true by rw[HR.out];exact anyB_hit hit hbb)
    have HK:=hid' (H.out.1.trans KT)
    have hz1:¬z<0:=by omega
    clear hbb hzz KT
    refine tk 8 hHeld ?_
    refine dn ?_
    go_wp2_with fail
    go_ret
    exact⟨HK.out,by rw[HE.out];rfl⟩
   |false=>
    rw[hbb]at hzz
    have hz0:¬0<=z:=of_decide_eq_false hzz
    have HN:=hid' (And.intro (H.out.1.trans KT) (show ∀k,k<i+1->anyB (fun j=>(X.bs (l.getD j [])).toList == (X.bs (l.getD k [])).toList) k=false from fun k hk=>by
     by_cases e:k=i
     ·subst e;exact hbb
     ·exact H.out.2 k (by omega)))
    have hz1:z<0:=by omega
    clear hbb hzz KT
    refine tk 8 hHeld ?_
    refine dn ?_
    go_wp2_with fail
    go_roundw
    case rel=>exact⟨i+1,by omega,by go_num,HN.out⟩
    case measure=>show n-((i:Int)+1).toNat<n-(i:Int).toNat;omega
  ·have hii:¬(i:Int)<(n:Int):=by omega
   obtain rfl:i=n:=by omega
   have HE:=hid' (show r=false by rw[HR.out];exact anyB_miss H.out.2)
   go_wp2_with fail
   go_ret
   exact⟨H.out.1,by rw[HE.out];rfl⟩
end V
end Go.Proofs.YtdjhmgmjiglcbaaGreatDoor
