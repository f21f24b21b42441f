/- Lemmas. -/
import Derived.Test.YtdjhmgmjiglcbaaGreatDoorGbg
import Derived.Test.YtdjhmgmjiglcbaaGreatDoorGbf
import Derived.Test.YtdjhmgmjiglcbaaGreatDoorNb5
import Derived.Test.YtdjhmgmjiglcbaaGreatDoorNb3
set_option maxRecDepth 100000
set_option maxHeartbeats 40000000
namespace Go.Proofs.YtdjhmgmjiglcbaaGreatDoor
open Go.RowKit
namespace V
open Q (hid' Lett ErrV Tab)
open X (RS)
def bareC (m x k:Int):Ci:=⟨m,x,k,[],none,0,[],none,0,[],none,0⟩
theorem bare_ok (m x k:Int)(w:World):(bareC m x k).ok w:=by
 refine⟨⟨⟨none,0,rfl,fun h=>absurd h (Nat.lt_irrefl 0)⟩,fun e h=>(by cases h)⟩,⟨⟨none,0,rfl,fun h=>absurd h (Nat.lt_irrefl 0)⟩,fun e h=>(by cases h)⟩,⟨⟨none,0,rfl,fun h=>absurd h (Nat.lt_irrefl 0)⟩,fun e h=>(by cases h)⟩⟩
theorem bare_sz (m x k:Int):(bareC m x k).sz:=by
 refine⟨⟨Nat.le_refl _,Nat.zero_le _⟩,fun e h=>(by cases h),⟨Nat.le_refl _,Nat.zero_le _⟩,fun e h=>(by cases h),Nat.zero_le _,⟨Nat.le_refl _,Nat.zero_le _,fun e h=>(by cases h)⟩⟩
theorem bare_any (fa:Option Addr)(fn fc:Nat)(da:Option Addr)(dn dc:Nat)(fm fx fk:Int)(w:World):Calls Tryz.prog 55 #[.agg #[.slice fa fn fc,.slice da dn dc,.int .i64 fm,.int .i64 fx,.int .i64 fk]] w fun e w'=>Kept w w'/\e=.returned (.agg #[.int .i64 fm,.int .i64 fx,.int .i64 fk,.slice none 0 0,.slice none 0 0,.slice none 0 0]):=by
 have kA:=((Kept.refl w).alloc (.cells #[.slice fa fn fc,.slice da dn dc,.int .i64 fm,.int .i64 fx,.int .i64 fk] 27)).alloc (.cells #[.int .i64 0,.int .i64 0,.int .i64 0,.slice none 0 0,.slice none 0 0,.slice none 0 0] 92)
 have hA:=(RowL.alloc 27 w [.slice fa fn fc,.slice da dn dc,.int .i64 fm,.int .i64 fx,.int .i64 fk]).kept ((Kept.refl _).alloc (.cells #[.int .i64 0,.int .i64 0,.int .i64 0,.slice none 0 0,.slice none 0 0,.slice none 0 0] 92))
 have hB:=RowL.alloc 92 (w.alloc (.cells #[.slice fa fn fc,.slice da dn dc,.int .i64 fm,.int .i64 fx,.int .i64 fk] 27)) [.int .i64 0,.int .i64 0,.int .i64 0,.slice none 0 0,.slice none 0 0,.slice none 0 0]
 rw[World.size_alloc]at hB
 go_enter Tryz.func55,Tryz.ntmps55
 go_upto_region 1 with fail
 generalize (w.alloc (.cells #[.slice fa fn fc,.slice da dn dc,.int .i64 fm,.int .i64 fx,.int .i64 fk] 27)).alloc (.cells #[.int .i64 0,.int .i64 0,.int .i64 0,.slice none 0 0,.slice none 0 0,.slice none 0 0] 92)=W at kA hA hB ⊢
 obtain⟨q,hq⟩:∃q,q=w.heap.size+1:=⟨_,rfl⟩
 rw[<-hq]at hB ⊢
 obtain⟨p,hp⟩:∃q,q=w.heap.size:=⟨_,rfl⟩
 rw[<-hp]at hA ⊢
 have HK:=hid' (And.intro kA (show w.heap.size<=q by omega))
 have f2:=hA.cell 2 (.int .i64 fm)
 have f3:=hA.cell 3 (.int .i64 fx)
 have f4:=hA.cell 4 (.int .i64 fk)
 have d0:=hB.cell 0 (.int .i64 0)
 have d1:=hB.cell 1 (.int .i64 0)
 have d2:=hB.cell 2 (.int .i64 0)
 have d3:=hB.cell 3 (.slice none 0 0)
 have d4:=hB.cell 4 (.slice none 0 0)
 have d5:=hB.cell 5 (.slice none 0 0)
 have zd:=hB.fz
 have hpq:¬p=q:=by omega
 have hpq':¬q=p:=by omega
 clear hq hp kA hA hB
 go_wp2_with fail
 refine bodyPost_ret (v:=.agg #[.int .i64 fm,.int .i64 fx,.int .i64 fk,.slice none 0 0,.slice none 0 0,.slice none 0 0]) (by simp[results,Tryz.results55,go_sem,d0,d1,d2,d3,d4,d5]) rfl ⟨?_,rfl⟩
 exact(((((HK.out.1.setCell (p:=⟨q,0,none⟩) HK.out.2 _).setCell (p:=⟨q,1,none⟩) HK.out.2 _).setCell (p:=⟨q,2,none⟩) HK.out.2 _).setCell (p:=⟨q,3,none⟩) HK.out.2 _).setCell (p:=⟨q,4,none⟩) HK.out.2 _).setCell (p:=⟨q,5,none⟩) HK.out.2 _
def fsetB (m x k:Int):Bool:=chkC (bareC m x k) == 0
theorem fset_any (fa:Option Addr)(fn fc:Nat)(da:Option Addr)(dn dc:Nat)(fm fx fk:Int)(w:World)(hL:Lett w)(hE:ErrV w)(hT:Tab w):Calls Tryz.prog 45 #[.agg #[.slice fa fn fc,.slice da dn dc,.int .i64 fm,.int .i64 fx,.int .i64 fk]] w fun e w'=>Kept w w'/\e=.returned (.bool (fsetB fm fx fk)):=by
 have HC:=hid' (fun V (K:Kept w V)=>ncheck_any (bareC fm fx fk) V (hL.kept K) (hE.kept K) (hT.kept K) (bare_ok _ _ _ _) (bare_sz _ _ _))
 have HB:=hid' (show fsetB fm fx fk=(chkC (bareC fm fx fk) == 0) from rfl)
 generalize fsetB fm fx fk=sb at HB ⊢
 have E:(Ci.cells (bareC fm fx fk)).toArray=#[.int .i64 fm,.int .i64 fx,.int .i64 fk,.slice none 0 0,.slice none 0 0,.slice none 0 0]:=rfl
 rw[E]at HC
 generalize chkC (bareC fm fx fk)=z at HC HB
 clear E hL hE hT
 have kA:=(Kept.refl w).alloc (.cells #[.slice fa fn fc,.slice da dn dc,.int .i64 fm,.int .i64 fx,.int .i64 fk] 27)
 have hb:=fun V=>bare_any fa fn fc da dn dc fm fx fk V
 go_enter Tryz.func45,Tryz.ntmps45
 go_wp2_with fail
 refine(hb _).mono ?_
 rintro e w1 ⟨hk,rfl⟩
 have HK:=hid' (kA.trans hk)
 clear hk kA
 go_wp2_with fail
 refine(HC.out _ HK.out).mono ?_
 rintro e w2 ⟨hk,rfl⟩
 have HK:=hid' (HK.out.trans hk)
 clear hk
 go_wp2_with fail
 go_ret
 exact⟨HK.out,by rw[HB.out];rfl⟩
def unkN (fn:Nat)(ds:List DE):Int:=(fn:Int)-1+((ds.filter fun d=>hasBr d.kind).length:Int)
def brsF (z:Int):List DE->List Int
 | []=>[]
 |d::t=>if hasBr d.kind=true then z::brsF (z+1) t else -1::brsF z t
theorem brs_len:∀(ds:List DE) (z:Int),(brsF z ds).length=ds.length
 | [],_=>rfl
 |d::t,z=>by
  rw[brsF]
  split <;> rw[List.length_cons,List.length_cons,brs_len]
theorem brs_app (d:DE):∀(ds:List DE) (z:Int),brsF z (ds++[d])=brsF z ds++[if hasBr d.kind=true then z+((ds.filter fun d=>hasBr d.kind).length:Int) else -1]
 | [],z=>by
  show (if hasBr d.kind=true then z::[] else -1::[])=[_]
  split <;> simp
 |e::t,z=>by
  show (if hasBr e.kind=true then z::brsF (z+1) (t++[d]) else -1::brsF z (t++[d]))=(if hasBr e.kind=true then z::brsF (z+1) t else -1::brsF z t)++_
  by_cases h:hasBr e.kind=true
  ·rw[if_pos h,if_pos h,brs_app d t (z+1),List.filter_cons_of_pos (p:=fun d:DE=>hasBr d.kind) (a:=e) h,List.length_cons]
   simp only[List.cons_append]
   congr 3
   split <;> omega
  ·rw[if_neg h,if_neg h,brs_app d t z,List.filter_cons_of_neg (p:=fun d:DE=>hasBr d.kind) (a:=e) h]
   rfl
theorem unknowns_any (fa:Option Addr)(fn fc:Nat)(da:Option Addr)(dn dc:Nat)(fm fx fk:Int)(ds:List DE)(w:World)(h:DsR w (.slice da dn dc) ds)(hb:dn<=1000000)(hfn:fn<=1000000) :
  Calls Tryz.prog 48 #[.agg #[.slice fa fn fc,.slice da dn dc,.int .i64 fm,.int .i64 fx,.int .i64 fk]] w fun e w'=>Kept w w'/\∃u,e=.returned (.tuple #[.int .i64 (unkN fn ds),u])/\OwnI w.heap.size w' u (brsF ((fn:Int)-1) ds):=by
 have hn:dn=ds.length:=by have:=h.1.len;rw[List.length_map]at this;exact this
 obtain⟨i0,hi,hz0,hz1,hz2⟩:=info_parts info_i64
 have HL:=hid' h
 have HN:=hid' hn
 obtain⟨z,hz⟩:∃z,z=(fn:Int)-1:=⟨_,rfl⟩
 have HZ:=hid' (show z=(fn:Int)-1/\unkN fn ds=z+((ds.filter fun d=>hasBr d.kind).length:Int) by rw[hz];exact⟨rfl,rfl⟩)
 rw[<-hz]
 have hzb:-1<=z/\z<=1000000:=by omega
 clear h hn hz
 have kA:=(Kept.refl w).alloc (.cells #[.slice fa fn fc,.slice da dn dc,.int .i64 fm,.int .i64 fx,.int .i64 fk] 27)
 have hA:=RowL.alloc 27 w [.slice fa fn fc,.slice da dn dc,.int .i64 fm,.int .i64 fx,.int .i64 fk]
 go_enter Tryz.func48,Tryz.ntmps48
 go_upto_region 1 with fail
 generalize w.alloc (.cells #[.slice fa fn fc,.slice da dn dc,.int .i64 fm,.int .i64 fx,.int .i64 fk] 27)=W at kA hA ⊢
 obtain⟨p,hp⟩:∃q,q=w.heap.size:=⟨_,rfl⟩
 rw[<-hp]at hA ⊢
 have HP:=hid' hp
 have HI:=hid' (And.intro kA hA)
 have f0:=hA.cell 0 (.slice fa fn fc)
 have f1:=hA.cell 1 (.slice da dn dc)
 clear kA hA hp
 go_wp2_with fail
 rw[show (fn:Int)-1=z from HZ.out.1.symm]
 clear f0 f1
 go_loopw [4,5,15] (fun v4 v5 v15 wr=>∃(i:Nat) (bv:Value),i<=dn/\v4=.int .i64 (z+(((ds.take i).filter fun d=>hasBr d.kind).length:Int))/\v5=bv/\v15=.int .i64 (i:Int)/\Hid (Kept w wr/\OwnI (p+1) wr bv (brsF z (ds.take i))/\p<wr.heap.size)) (fun _ _ v15 _=>dn-(intOf v15).toNat)
 case atStart=>exact⟨0,_,Nat.zero_le _,by simp,rfl,rfl,HI.out.1,World.ownsRow_nil _ _ _ _,HI.out.2.lt⟩
 case round=>
  obtain⟨i,bv,hil,rfl,rfl,rfl,H⟩:=hrel
  clear HI
  have hcl:((ds.take i).filter fun d=>hasBr d.kind).length<=i:=Nat.le_trans (List.length_filter_le _ _) (by rw[List.length_take];omega)
  obtain⟨cn0,hcn0⟩:∃n,n=((ds.take i).filter fun d=>hasBr d.kind).length:=⟨_,rfl⟩
  rw[<-hcn0]at hcl ⊢
  have HCN:=hid' hcn0
  have hbl:(brsF z (ds.take i)).length=i:=by rw[brs_len,List.length_take];have:=HN.out;omega
  clear hcn0
  by_cases hit:i<dn
  ·have hii:(i:Int)<(dn:Int):=by omega
   have hi0:(0:Int)<=(i:Int):=by omega
   have hiL:i<ds.length:=by have:=HN.out;omega
   obtain⟨ao',cap',hv,hx⟩:=HL.out.1.kept H.out.1
   simp only[Value.slice.injEq]at hv
   obtain⟨rfl,hnn,rfl⟩:=hv
   obtain⟨b,off,rfl,hb',hc⟩:=hx (by omega)
   have hxx:=map_getD DE.cells ds i hiL
   have HTK:=hid' (show ds.take (i+1)=ds.take i++[ds[i]] from List.take_succ_eq_append_getElem hiL)
   generalize ds[i]=D at hxx HTK
   have e0:=hc i (by omega) 0 (by omega)
   rw[hxx]at e0
   have e1:=hc i (by omega) 1 (by omega)
   rw[hxx]at e1
   have e2:=hc i (by omega) 2 (by omega)
   rw[hxx]at e2
   have e3:=hc i (by omega) 3 (by omega)
   rw[hxx]at e3
   have e4:=hc i (by omega) 4 (by omega)
   rw[hxx]at e4
   have e5:=hc i (by omega) 5 (by omega)
   rw[hxx]at e5
   have e6:=hc i (by omega) 6 (by omega)
   rw[hxx]at e6
   have e7:=hc i (by omega) 7 (by omega)
   rw[hxx]at e7
   have e8:=hc i (by omega) 8 (by omega)
   rw[hxx]at e8
   have e9:=hc i (by omega) 9 (by omega)
   rw[hxx]at e9
   have e10:=hc i (by omega) 10 (by omega)
   rw[hxx]at e10
   have e11:=hc i (by omega) 11 (by omega)
   rw[hxx]at e11
   have e12:=hc i (by omega) 12 (by omega)
   rw[hxx]at e12
   obtain⟨k,nm,nds,an,cn,rf,vm,vx,wk,wvl,av,cv,wsl,ai,ci,⟨mnm,mk,gsl,vsl⟩,a1,c1,a2,c2⟩:=D
   simp only[DE.cells,List.getD_cons_zero]at e0
   simp only[DE.cells,List.getD_cons_zero,List.getD_cons_succ]at e1
   simp only[DE.cells,List.getD_cons_zero,List.getD_cons_succ]at e2
   simp only[DE.cells,List.getD_cons_zero,List.getD_cons_succ]at e3
   simp only[DE.cells,List.getD_cons_zero,List.getD_cons_succ]at e4
   simp only[DE.cells,List.getD_cons_zero,List.getD_cons_succ]at e5
   simp only[DE.cells,List.getD_cons_zero,List.getD_cons_succ]at e6
   simp only[DE.cells,List.getD_cons_zero,List.getD_cons_succ]at e7
   simp only[DE.cells,List.getD_cons_zero,List.getD_cons_succ]at e8
   simp only[DE.cells,List.getD_cons_zero,List.getD_cons_succ]at e9
   simp only[DE.cells,List.getD_cons_zero,List.getD_cons_succ]at e10
   simp only[DE.cells,List.getD_cons_zero,List.getD_cons_succ]at e11
   simp only[DE.cells,List.getD_cons_zero,List.getD_cons_succ]at e12
   rw[Nat.add_zero]at e0
   generalize X.bs nm=s at e1
   generalize X.bs mnm=ms at e9
   generalize nds.length=nn at e2
   generalize wvl.length=nv at e7
   generalize wsl.length=ni at e8
   generalize gsl.length=n1 at e11
   generalize vsl.length=n2 at e12
   clear hx hc hnn hb' hxx
   have hbr:=fun V=>hasBranch_any k V
   have HB2:=hid' (show brsF z (ds.take (i+1))=brsF z (ds.take i)++[if hasBr k=true then z+(cn0:Int) else -1] by rw[HTK.out,brs_app,HCN.out])
   have HC2:=hid' (show (((ds.take (i+1)).filter fun d=>hasBr d.kind).length:Int)=(cn0:Int)+(if hasBr k=true then 1 else 0) by
    rw[HTK.out,List.filter_append,List.length_append,<-HCN.out]
    by_cases hk:hasBr k=true
    ·rw[if_pos hk,List.filter_cons_of_pos (p:=fun d:DE=>hasBr d.kind) hk];simp
    ·rw[if_neg hk,List.filter_cons_of_neg (p:=fun d:DE=>hasBr d.kind) hk];simp)
   generalize hasBr k=br at hbr HB2 HC2
   clear HTK
   have kD:=(Kept.refl wr).alloc (.cells #[.int .u8 k,.string s,.slice an nn cn,.int .i64 rf,.int .i64 vm,.int .i64 vx,.int .i64 wk,.slice av nv cv,.slice ai ni ci,.string ms,.int .u8 mk,.slice a1 n1 c1,.slice a2 n2 c2] 48)
   have hD:=RowL.alloc 48 wr [.int .u8 k,.string s,.slice an nn cn,.int .i64 rf,.int .i64 vm,.int .i64 vx,.int .i64 wk,.slice av nv cv,.slice ai ni ci,.string ms,.int .u8 mk,.slice a1 n1 c1,.slice a2 n2 c2]
   go_upto_region 6 with fail
   generalize wr.alloc (.cells #[.int .u8 k,.string s,.slice an nn cn,.int .i64 rf,.int .i64 vm,.int .i64 vx,.int .i64 wk,.slice av nv cv,.slice ai ni ci,.string ms,.int .u8 mk,.slice a1 n1 c1,.slice a2 n2 c2] 48)=W2 at kD hD ⊢
   obtain⟨q,hq⟩:∃q,q=wr.heap.size:=⟨_,rfl⟩
   rw[<-hq]at hD ⊢
   have g0:=hD.cell 0 (.int .u8 k)
   have HH:=hid' (And.intro (H.out.1.trans kD) (And.intro (own_kept H.out.2.1 (fun b hb=>kD.block b (H.out.2.1.lt b hb).2)) (Nat.lt_of_lt_of_le H.out.2.2 kD.size)))
   clear kD hD hq e0 e1 e2 e3 e4 e5 e6 e7 e8 e9 e10 e11 e12
   go_wp2_with fail
   refine(hbr _).mono ?_
   rintro e w3 ⟨rfl,rfl⟩
   cases br
   ·have KA:=(Kept.refl w3).alloc (.cells #[.int .i64 (-1)] 3)
    have own0:=own_kept HH.out.2.1 (fun b hb=>KA.block b (HH.out.2.1.lt b hb).2)
    go_wp2_with (at_builtin;refine wpList_append_lies _ rfl (.tmp 23) (.tmp 24) 31 rfl (p+1) 3 i0 (.int .i64 0) 1 8 und_ints hi hz0 hz1 hz2 rfl (by decide) _ (brsF z (ds.take i)).length ((brsF z (ds.take i)).map (Value.int .i64)) rfl own0 ⟨w3.heap.size,0,none⟩ 1 1 [.int .i64 (-1)] rfl rfl (X.cell_new w3 _ _) (fun u hu=>by simp at hu;subst hu;rfl) (by omega) (by unfold maxLen;omega) (by omega) (by have:=HH.out.2.2;simp;omega) _ rfl ?_)
    intro g4 cap4 W4 own4 hg4 hgg _
    have HNx:=hid' (And.intro (show Kept w W4 from Below.grown (HH.out.1.trans KA) hg4 (HH.out.1.trans KA).size (fun k hk=>by have:=(own0.lt k hk).1;have:=HP.out;omega)) (And.intro (show OwnI (p+1) W4 (.slice (some ⟨g4,0,none⟩) (i+1) cap4) (brsF z (ds.take (i+1))) by
     unfold OwnI
     rw[HB2.out,List.map_append,List.length_append,List.length_singleton,hbl,if_neg (by decide)]
     exact own4) (Nat.lt_of_lt_of_le HH.out.2.2 (Nat.le_trans KA.size hg4.size))))
    have HCx:=hid' (show z+(((ds.take (i+1)).filter fun d=>hasBr d.kind).length:Int)=z+(cn0:Int) by rw[HC2.out];simp)
    clear own4 hg4 hgg own0 KA
    go_wp2_with fail
    go_roundw
    case rel=>exact⟨i+1,_,by omega,by rw[HCx.out],rfl,by go_num,HNx.out⟩
    case measure=>show dn-((i:Int)+1).toNat<dn-(i:Int).toNat;omega
   ·have KA:=(Kept.refl w3).alloc (.cells #[.int .i64 (z+(cn0:Int))] 3)
    have own0:=own_kept HH.out.2.1 (fun b hb=>KA.block b (HH.out.2.1.lt b hb).2)
    go_wp2_with (at_builtin;refine wpList_append_lies _ rfl (.tmp 26) (.tmp 28) 31 rfl (p+1) 3 i0 (.int .i64 0) 1 8 und_ints hi hz0 hz1 hz2 rfl (by decide) _ (brsF z (ds.take i)).length ((brsF z (ds.take i)).map (Value.int .i64)) rfl own0 ⟨w3.heap.size,0,none⟩ 1 1 [.int .i64 (z+(cn0:Int))] rfl rfl (X.cell_new w3 _ _) (fun u hu=>by simp at hu;subst hu;rfl) (by omega) (by unfold maxLen;omega) (by omega) (by have:=HH.out.2.2;simp;omega) _ rfl ?_)
    intro g4 cap4 W4 own4 hg4 hgg _
    have HNx:=hid' (And.intro (show Kept w W4 from Below.grown (HH.out.1.trans KA) hg4 (HH.out.1.trans KA).size (fun k hk=>by have:=(own0.lt k hk).1;have:=HP.out;omega)) (And.intro (show OwnI (p+1) W4 (.slice (some ⟨g4,0,none⟩) (i+1) cap4) (brsF z (ds.take (i+1))) by
     unfold OwnI
     have h9:=HB2.out
     first|rw[if_pos rfl]at h9|rw[if_pos trivial]at h9
     rw[h9,List.map_append,List.length_append,List.length_singleton,hbl]
     exact own4) (Nat.lt_of_lt_of_le HH.out.2.2 (Nat.le_trans KA.size hg4.size))))
    have HCx:=hid' (show z+(((ds.take (i+1)).filter fun d=>hasBr d.kind).length:Int)=z+(cn0:Int)+1 by rw[HC2.out];simp;omega)
    clear own4 hg4 hgg own0 KA
    go_wp2_with fail
    go_roundw
    case rel=>exact⟨i+1,_,by omega,by first|(rw[HCx.out];done)|(rw[HCx.out];go_num),rfl,by go_num,HNx.out⟩
    case measure=>show dn-((i:Int)+1).toNat<dn-(i:Int).toNat;omega
  ·have hii:¬(i:Int)<(dn:Int):=by omega
   have hl:ds.take i=ds:=List.take_of_length_le (by have:=HN.out;omega)
   have HE:=hid' (show z+(cn0:Int)=unkN fn ds by rw[HZ.out.2,HCN.out,hl])
   have HO:=hid' (show OwnI w.heap.size wr _ (brsF z ds) by have:=H.out.2.1;rw[hl]at this;exact own_mono this (by have:=HP.out;omega))
   clear hl
   go_wp2_with fail
   go_ret2
   exact⟨H.out.1,_,by rw[<-HE.out];rfl,HO.out⟩
open Q (hid' Lett ErrV Tab)
open X (RS)
def ME.er (e:ME):ME:=⟨e.m,none,0,none,0⟩
def CE.er (e:CE):CE:=⟨e.c,none,0,none,0,none,0⟩
def SE.er (e:SE):SE:=⟨e.name,e.ports,none,0,e.cards.map CE.er,none,0⟩
def Ci.er (c:Ci):Ci:=⟨c.m,c.x,c.meth,c.ms.map ME.er,none,0,c.ss.map SE.er,none,0,c.cd.map CE.er,none,0⟩
def vCd:Cd:=⟨[118],[[48],[48]],[],(0,0),1,[(0,0)],[]⟩
def aloneC (m x fk:Int)(gnd:List (List UInt8))(k vm vx wk:Int)(wv:List (Int×Int))(ws:List Int)(md:Md):Ci :=
 ⟨m,x,fk,if hasMd k=true then [⟨md,none,0,none,0⟩] else [],none,0,[],none,0,
  (if hasMd k=true then [] else if hasRf k=true then [⟨vCd,none,0,none,0,none,0⟩] else [])++[⟨⟨[k.toNat.toUInt8],gnd,(if hasMd k=true then md.name else if hasRf k=true then [118] else []),(vm,vx),wk,wv,ws⟩,none,0,none,0,none,0⟩],none,0⟩
theorem flatN_at {sz:Nat}(hsz:0<sz):∀(L:List (List Value)),(∀x∈L,x.length=sz)->∀j i,j<L.length->i<sz->(L.flatten)[j*sz+i]?=some ((L.getD j []).getD i undef)
 | [],_,j,_,hj,_=>by simp at hj
 |x::t,h,j,i,hj,hi=>by
  have hx:x.length=sz:=h x (by simp)
  rw[List.flatten_cons]
  cases j with
  |zero=>
   rw[Nat.zero_mul,Nat.zero_add,List.getElem?_append_left (by omega),List.getElem?_eq_getElem (by omega)]
   show some x[i]=some (x.getD i undef)
   rw[List.getD_eq_getElem?_getD,List.getElem?_eq_getElem (by omega)]
   rfl
  |succ j=>
   have e:(j+1)*sz+i-x.length=j*sz+i:=by rw[hx,Nat.add_mul];omega
   rw[List.getElem?_append_right (by rw[hx,Nat.add_mul];omega),e]
   exact flatN_at hsz t (fun y hy=>h y (by simp[hy])) j i (by simpa using hj) hi
theorem own_cards {B:Nat}{w:World}{ao:Option Addr}{n c:Nat}{L:List (List Value)}(h:w.ownsRow B 110 8 (.slice ao n c) n L.flatten)(hn:n=L.length)(hl:∀x∈L,x.length=8):RowsR 8 w (.slice ao n c) L:=by
 subst hn
 refine⟨ao,c,rfl,fun h0=>?_⟩
 obtain⟨g,cap,e,_,hg,_,hc,_⟩:=own_cell h h0
 simp only[Value.slice.injEq]at e
 obtain⟨rfl,_,rfl⟩:=e
 refine⟨g,0,rfl,hg,fun j hj i hi=>?_⟩
 rw[Nat.zero_add]
 exact hc _ _ (flatN_at (by decide) L hl j i hj hi)
theorem own_cap8 {B:Nat}{w:World}{ao:Option Addr}{n c sz:Nat}{e:TypeId}{xs:List Value}(h:w.ownsRow B e sz (.slice ao n c) n xs):n<=c/\c<=9223372036854775807:=by
 obtain⟨_,⟨h2,h3⟩|⟨_,_,_,h2,_,_,hn,hm,_⟩⟩:=h
 ·simp only[Value.slice.injEq]at h2;omega
 ·simp only[Value.slice.injEq]at h2;unfold maxLen at hm;omega
theorem rowL_ne {t t':TypeId}{w:World}{p q:Nat}{xs ys:List Value}(h:RowL t w p xs)(h':RowL t' w q ys)(hne:t≠t'):¬p=q:=by
 intro e
 subst e
 obtain⟨c,h1,_⟩:=h
 obtain⟨c',h2,_⟩:=h'
 rw[h1]at h2
 simp at h2
 exact hne h2.2
theorem vCd_sz (a1:Option Addr)(c1:Nat)(a2:Option Addr)(c2:Nat)(a3:Option Addr)(c3:Nat):CE.sz ⟨vCd,a1,c1,a2,c2,a3,c3⟩:=by
 refine⟨by show (2+200)*16<=_;omega,cwords_sz (by show (1:Nat)<=_;omega) (by show (0:Nat)<=_;omega) (fun x hx=>?_),by show (1:Nat)<=_;omega⟩
 have hx':x∈([[48],[48]]:List (List UInt8)):=hx
 have:x=[48]:=by simpa using hx'
 rw[this]
 decide
theorem rows_one {t:TypeId}{w:World}{p:Nat}{xs:List Value}(h:RowL t w p xs):RowsR xs.length w (.slice (some ⟨p,0,none⟩) 1 1) [xs]:=by
 refine⟨_,_,rfl,fun _=>⟨p,0,rfl,h.lt,fun j hj i hi=>?_⟩⟩
 obtain rfl:j=0:=by simpa using hj
 rw[Nat.zero_mul,Nat.add_zero,Nat.zero_add]
 refine h.cell i _ ?_
 rw[List.getElem?_eq_getElem hi]
 show some xs[i]=some (xs.getD i undef)
 rw[List.getD_eq_getElem?_getD,List.getElem?_eq_getElem hi]
 rfl
theorem row_nsl1 {w:World}{p:Nat}(h:RowL 25 w p [.int .i64 0,.int .i64 0]):NSl w (.slice (some ⟨p,0,none⟩) 1 1) [(0,0)]:=by
 refine⟨_,_,rfl,fun _=>⟨p,0,rfl,h.lt,fun j hj=>?_⟩⟩
 obtain rfl:j=0:=by simpa using hj
 exact⟨h.cell 0 _,h.cell 1 _⟩
theorem make_one (u:World):(Instr.makeSlice 42 (.int .i64 1) (.int .i64 1)).run Tryz.prog u=.ok (.slice (some ⟨u.heap.size,0,none⟩) 1 1) (u.alloc (.cells #[.int .i64 0,.int .i64 0] 25)):=by
 obtain⟨i0,hi,hz0,hz1,hz2⟩:=info_parts info_num
 have h:=run_make (P:=Tryz.prog) u 42 25 i0 _ und_nums hi hz0 .i64 .i64 1 1 (by omega) (Int.le_refl _) (by rw[hz2];omega) (by omega)
 rw[hz1,show (1:Int).toNat=1 from rfl,show madeCells (Value.agg #[.int .i64 0,.int .i64 0]).cells (1*2)=#[.int .i64 0,.int .i64 0] by kernel_rfl]at h
 exact h
theorem info_card:(Tryz.prog.info? 110).map (fun i=>(i.zero,i.size,i.bytes))=some (some (.agg #[.string ⟨#[]⟩,.slice none 0 0,.string ⟨#[]⟩,.int .i64 0,.int .i64 0,.int .i64 0,.slice none 0 0,.slice none 0 0]),8,128):=by kernel_rfl
theorem und_cards:Tryz.prog.underlying 90=some (.slice 110):=by kernel_rfl
theorem cell_eight (w:World)(x0 x1 x2 x3 x4 x5 x6 x7:Value)(t:TypeId):∀j u,([x0,x1,x2,x3,x4,x5,x6,x7]:List Value)[j]?=some u->(w.alloc (.cells #[x0,x1,x2,x3,x4,x5,x6,x7] t)).cell? ((⟨w.heap.size,0,none⟩:Addr).add j)=some u:=by
 intro j u hj
 match j,hj with
 |0,hj=>simp at hj;subst hj;simp[Addr.add]
 |1,hj=>simp at hj;subst hj;simp[Addr.add]
 |2,hj=>simp at hj;subst hj;simp[Addr.add]
 |3,hj=>simp at hj;subst hj;simp[Addr.add]
 |4,hj=>simp at hj;subst hj;simp[Addr.add]
 |5,hj=>simp at hj;subst hj;simp[Addr.add]
 |6,hj=>simp at hj;subst hj;simp[Addr.add]
 |7,hj=>simp at hj;subst hj;simp[Addr.add]
theorem alone_any (fa:Option Addr)(fn fc:Nat)(da:Option Addr)(dn dc:Nat)(fm fx fk:Int)(k:Int)(s:ByteArray)(an:Option Addr)(nn cn:Nat)(rf vm vx wk:Int)(av:Option Addr)(nv cv:Nat)(ai:Option Addr)(ni ci:Nat)(ms:ByteArray)(mk:Int)(a1:Option Addr)(n1 c1:Nat)(a2:Option Addr)(n2 c2:Nat)(GL:List Value)(w:World)(hgr:∀V,Calls Tryz.prog 82 #[.int .i64 (nn:Int)] V fun e w'=>Kept V w'/\∃g,e=.returned (.slice (some ⟨g,0,none⟩) nn nn)/\RowL 9 w' g GL/\V.heap.size<=g)(gnd:List (List UInt8))(hrs:∀V g,RowL 9 V g GL->RS V (.slice (some ⟨g,0,none⟩) nn nn) gnd)(hgnd:∀x∈gnd,x.length<=9223372036854775807)(hgl:nn=gnd.length)(hnn:nn<=4)(wvl:List (Int×Int))(wsl:List Int)(gs vs:List (Int×Int))(hL:Lett w)(hE:ErrV w)(hT:Tab w)(hwv:NSl w (.slice av nv cv) wvl)(hws:ISl w (.slice ai ni ci) wsl)(hgs:NSl w (.slice a1 n1 c1) gs)(hvs:NSl w (.slice a2 n2 c2) vs)(hms:ms.size<=9223372036854775807)(hn1:n1<=4611686018427387903)(hn2:n2<=4611686018427387903) :
  Calls Tryz.prog 60 #[.agg #[.slice fa fn fc,.slice da dn dc,.int .i64 fm,.int .i64 fx,.int .i64 fk],.agg #[.int .u8 k,.string s,.slice an nn cn,.int .i64 rf,.int .i64 vm,.int .i64 vx,.int .i64 wk,.slice av nv cv,.slice ai ni ci,.string ms,.int .u8 mk,.slice a1 n1 c1,.slice a2 n2 c2]] w fun e w'=>Kept w w'/\∃c:Ci,c.er=aloneC fm fx fk gnd k vm vx wk wvl wsl ⟨ms.data.toList,mk,gs,vs⟩/\e=.returned (.bool (chkC c == 0)):=by
 have HGR:=hid' hgr
 have HRS:=hid' hrs
 have HNN:=hid' (show nv=wvl.length/\ni=wsl.length/\nn=gnd.length/\n1=gs.length/\n2=vs.length from⟨hwv.len,hws.len,hgl,hgs.len,hvs.len⟩)
 have HAR:=hid' (And.intro hwv (And.intro hws (And.intro hgs hvs)))
 have HLE:=hid' (And.intro hL (And.intro hE hT))
 obtain⟨md,hmd⟩:∃m:Md,m=⟨ms.data.toList,mk,gs,vs⟩:=⟨_,rfl⟩
 rw[<-hmd]
 have HMDE:=hid' hmd
 have hmsl:ms.data.toList.length=ms.size:=by rw[Array.length_toList];rfl
 have HSZ:=hid' (show (ME.mk md a1 c1 a2 c2).sz/\∀r,r.length<=9223372036854775807->∀g0,CE.sz ⟨⟨[k.toNat.toUInt8],gnd,r,(vm,vx),wk,wvl,wsl⟩,some ⟨g0,0,none⟩,nn,av,cv,ai,ci⟩ by
  refine⟨by rw[hmd];exact⟨by show ms.data.toList.length<=_;omega,by show gs.length<=_;rw[<-hgs.len];exact hn1,by show vs.length<=_;rw[<-hvs.len];exact hn2⟩,fun r hr g0=>⟨?_,cwords_sz (by show (1:Nat)<=_;omega) hr hgnd,by show (1:Nat)<=_;omega⟩⟩
  show (gnd.length+200)*16<=_
  omega)
 clear hgr hrs hwv hws hgs hvs hL hE hT hmd hgl hmsl
 have kA:=((Kept.refl w).alloc (.cells #[.slice fa fn fc,.slice da dn dc,.int .i64 fm,.int .i64 fx,.int .i64 fk] 27)).alloc (.cells #[.int .u8 k,.string s,.slice an nn cn,.int .i64 rf,.int .i64 vm,.int .i64 vx,.int .i64 wk,.slice av nv cv,.slice ai ni ci,.string ms,.int .u8 mk,.slice a1 n1 c1,.slice a2 n2 c2] 48)
 have hA:=(RowL.alloc 27 w [.slice fa fn fc,.slice da dn dc,.int .i64 fm,.int .i64 fx,.int .i64 fk]).kept ((Kept.refl _).alloc (.cells #[.int .u8 k,.string s,.slice an nn cn,.int .i64 rf,.int .i64 vm,.int .i64 vx,.int .i64 wk,.slice av nv cv,.slice ai ni ci,.string ms,.int .u8 mk,.slice a1 n1 c1,.slice a2 n2 c2] 48))
 have hB:=RowL.alloc 48 (w.alloc (.cells #[.slice fa fn fc,.slice da dn dc,.int .i64 fm,.int .i64 fx,.int .i64 fk] 27)) [.int .u8 k,.string s,.slice an nn cn,.int .i64 rf,.int .i64 vm,.int .i64 vx,.int .i64 wk,.slice av nv cv,.slice ai ni ci,.string ms,.int .u8 mk,.slice a1 n1 c1,.slice a2 n2 c2]
 rw[World.size_alloc]at hB
 go_enter Tryz.func60,Tryz.ntmps60
 go_upto_region 1 with fail
 generalize (w.alloc (.cells #[.slice fa fn fc,.slice da dn dc,.int .i64 fm,.int .i64 fx,.int .i64 fk] 27)).alloc (.cells #[.int .u8 k,.string s,.slice an nn cn,.int .i64 rf,.int .i64 vm,.int .i64 vx,.int .i64 wk,.slice av nv cv,.slice ai ni ci,.string ms,.int .u8 mk,.slice a1 n1 c1,.slice a2 n2 c2] 48)=W at kA hA hB ⊢
 obtain⟨p3,hq⟩:∃q,q=w.heap.size+1:=⟨_,rfl⟩
 rw[<-hq]at hB ⊢
 obtain⟨p2,hp⟩:∃q,q=w.heap.size:=⟨_,rfl⟩
 rw[<-hp]at hA ⊢
 have HK:=hid' kA
 have HA:=hid' hA
 have HB:=hid' hB
 have HBW:=hid' hB.lt
 clear hq hp kA hA hB
 go_cut [5] (fun v5 wc=>∃q g,v5=.pointer (some ⟨q,0,none⟩)/\Hid (Kept W wc/\RowL 110 wc q [.string ⟨#[k.toNat.toUInt8]⟩,.slice (some ⟨g,0,none⟩) nn nn,.string ⟨#[]⟩,.int .i64 vm,.int .i64 vx,.int .i64 wk,.slice av nv cv,.slice ai ni ci]/\RowL 9 wc g GL/\W.heap.size<=q/\W.heap.size<=g))
 case first=>
  have sS:=hid' (fun (V:World) (K:Kept W V)=>(And.intro ((HB.out.kept K).cell 0 (.int .u8 k)) (And.intro ((HB.out.kept K).cell 2 (.slice an nn cn)) (And.intro ((HB.out.kept K).cell 4 (.int .i64 vm)) (And.intro ((HB.out.kept K).cell 5 (.int .i64 vx)) (And.intro ((HB.out.kept K).cell 6 (.int .i64 wk)) (And.intro ((HB.out.kept K).cell 7 (.slice av nv cv)) ((HB.out.kept K).cell 8 (.slice ai ni ci)))))))))
  have KT:Kept W W.drew:=(Kept.refl _).drew
  refine wp_region_held_drew (S:=fun w'=>w'.cell? ⟨p3,0,none⟩=some (.int .u8 k)/\w'.cell? ⟨p3,2,none⟩=some (.slice an nn cn)/\w'.cell? ⟨p3,4,none⟩=some (.int .i64 vm)/\w'.cell? ⟨p3,5,none⟩=some (.int .i64 vx)/\w'.cell? ⟨p3,6,none⟩=some (.int .i64 wk)/\w'.cell? ⟨p3,7,none⟩=some (.slice av nv cv)/\w'.cell? ⟨p3,8,none⟩=some (.slice ai ni ci)) (by kernel_rfl) (sS.out _ KT) (fun hHeld=>?_)
  generalize W.drew=Wd at KT hHeld ⊢
  refine tk 0 hHeld ?_
  refine tk 1 hHeld ?_
  refine tk 4 hHeld ?_
  refine tk 5 hHeld ?_
  refine tk 6 hHeld ?_
  refine tk 8 hHeld ?_
  refine tk 9 hHeld ?_
  refine tk 10 hHeld ?_
  refine tk 11 hHeld ?_
  refine wpAnyH_ready (rs:=[2,7,13]) (by kernel_rfl) (by simp) ?_
  refine(AllReadyH.cons rfl (fun K hK=>?_) (AllReadyH.cons rfl (fun K hK=>?_) (AllReadyH.cons rfl (fun K hK=>?_) AllReadyH.nil)))
  ·go_simp
   refine hK.out _ _ (sS.out _ (KT.alloc _)) (fun hHeld=>?_)
   clear hK K
   have HBc:(Wd.alloc (.cells #[.int .u8 k] 5)).cell? ⟨Wd.heap.size,0,none⟩=some (.int .u8 k):=by simp
   have hgl:Wd.heap.size<(Wd.alloc (.cells #[.int .u8 k] 5)).heap.size:=by simp
   have kk:=(Kept.refl Wd).alloc (.cells #[.int .u8 k] 5)
   have KT:=KT.trans kk
   obtain⟨gb2,hgb⟩:∃q,q=Wd.heap.size:=⟨_,rfl⟩
   rw[<-hgb]at HBc hgl ⊢
   generalize Wd.alloc (.cells #[.int .u8 k] 5)=WB1 at KT HBc hgl hHeld  ⊢
   clear hgb kk
   refine wpAnyH_ready (rs:=[3,7,13]) (by kernel_rfl) (by simp) ?_
   refine(AllReadyH.cons rfl (fun K hK=>?_) (AllReadyH.cons rfl (fun K hK=>?_) (AllReadyH.cons rfl (fun K hK=>?_) AllReadyH.nil)))
   ·have hcv:=run_convert_bytes_arg (P:=Tryz.prog) WB1 107 5 Tryz.underlying107 Tryz.underlying5 gb2 0 1 1 [k] rfl (fun j hj=>by
     obtain rfl:j=0:=by omega
     exact HBc) 9 Tryz.underlying9
    rw[str_one]at hcv
    go_simp
    refine hK.out _ _ (sS.out _ KT) (fun hHeld=>?_)
    clear hK K hcv HBc hgl
    refine wpAnyH_ready (rs:=[7,13]) (by kernel_rfl) (by simp) ?_
    refine(AllReadyH.cons rfl (fun K hK=>?_) (AllReadyH.cons rfl (fun K hK=>?_) AllReadyH.nil))
    ·go_simp
     refine(HGR.out _).mono ?_
     rintro e wg3 ⟨hkg,gr4,rfl,hr,hgs⟩
     have HR:=hid' hr
     have hgW:W.heap.size<=gr4:=Nat.le_trans KT.size hgs
     have KT:=KT.trans hkg
     refine hK.out _ _ (sS.out _ KT) (fun hHeld=>?_)
     clear hK K hkg hr hgs
     refine tk 12 hHeld ?_
     refine rdy 13 fun K hK=>?_
     go_simp
     refine hK.out _ _ (sS.out _ (KT.alloc _)) (fun hHeld=>?_)
     clear hK K
     have hq:=RowL.alloc 110 wg3 [.string ⟨#[]⟩,.slice none 0 0,.string ⟨#[]⟩,.int .i64 0,.int .i64 0,.int .i64 0,.slice none 0 0,.slice none 0 0]
     have kk:=(Kept.refl wg3).alloc (.cells #[.string ⟨#[]⟩,.slice none 0 0,.string ⟨#[]⟩,.int .i64 0,.int .i64 0,.int .i64 0,.slice none 0 0,.slice none 0 0] 110)
     have hqW:W.heap.size<=wg3.heap.size:=KT.size
     have KT:=KT.trans kk
     have hgq:¬wg3.heap.size=gr4:=by have:=HR.out.lt;omega
     have HR:=hid' (HR.out.kept kk)
     obtain⟨q6,hqq⟩:∃q,q=wg3.heap.size:=⟨_,rfl⟩
     rw[<-hqq]at hq hqW hgq ⊢
     generalize wg3.alloc (.cells #[.string ⟨#[]⟩,.slice none 0 0,.string ⟨#[]⟩,.int .i64 0,.int .i64 0,.int .i64 0,.slice none 0 0,.slice none 0 0] 110)=WQ5 at KT hq hHeld HR ⊢
     have HQ:=hid' hq
     clear hq hqq kk
     have d0:=HQ.out.cell 0 (.string ⟨#[]⟩)
     have d1:=HQ.out.cell 1 (.slice none 0 0)
     have d2:=HQ.out.cell 2 (.string ⟨#[]⟩)
     have d3:=HQ.out.cell 3 (.int .i64 0)
     have d4:=HQ.out.cell 4 (.int .i64 0)
     have d5:=HQ.out.cell 5 (.int .i64 0)
     have d6:=HQ.out.cell 6 (.slice none 0 0)
     have d7:=HQ.out.cell 7 (.slice none 0 0)
     have zd:=HQ.out.fz
     have HF:=hid' (And.intro ((((((((KT.setCell (p:=⟨q6,0,none⟩) hqW (.string ⟨#[k.toNat.toUInt8]⟩)).setCell (p:=⟨q6,1,none⟩) hqW (.slice (some ⟨gr4,0,none⟩) nn nn)).setCell (p:=⟨q6,2,none⟩) hqW (.string ⟨#[]⟩)).setCell (p:=⟨q6,3,none⟩) hqW (.int .i64 vm)).setCell (p:=⟨q6,4,none⟩) hqW (.int .i64 vx)).setCell (p:=⟨q6,5,none⟩) hqW (.int .i64 wk)).setCell (p:=⟨q6,6,none⟩) hqW (.slice av nv cv)).setCell (p:=⟨q6,7,none⟩) hqW (.slice ai ni ci)) (And.intro ((((((((HQ.out.set 0 (.string ⟨#[k.toNat.toUInt8]⟩)).set 1 (.slice (some ⟨gr4,0,none⟩) nn nn)).set 2 (.string ⟨#[]⟩)).set 3 (.int .i64 vm)).set 4 (.int .i64 vx)).set 5 (.int .i64 wk)).set 6 (.slice av nv cv)).set 7 (.slice ai ni ci)) ((((((((HR.out.far (fun e=>hgq e.symm) 0 (.string ⟨#[k.toNat.toUInt8]⟩)).far (fun e=>hgq e.symm) 1 (.slice (some ⟨gr4,0,none⟩) nn nn)).far (fun e=>hgq e.symm) 2 (.string ⟨#[]⟩)).far (fun e=>hgq e.symm) 3 (.int .i64 vm)).far (fun e=>hgq e.symm) 4 (.int .i64 vx)).far (fun e=>hgq e.symm) 5 (.int .i64 wk)).far (fun e=>hgq e.symm) 6 (.slice av nv cv)).far (fun e=>hgq e.symm) 7 (.slice ai ni ci))))
     refine rdy 14 fun K hK=>?_
     go_simp
     refine hK.out _ _ (by
      have hz:=sS.out _ (show Kept W _ from((((((((KT.setCell (p:=⟨q6,0,none⟩) hqW (.string ⟨#[k.toNat.toUInt8]⟩)).setCell (p:=⟨q6,1,none⟩) hqW (.slice (some ⟨gr4,0,none⟩) nn nn)).setCell (p:=⟨q6,2,none⟩) hqW (.string ⟨#[]⟩)).setCell (p:=⟨q6,3,none⟩) hqW (.int .i64 vm)).setCell (p:=⟨q6,4,none⟩) hqW (.int .i64 vx)).setCell (p:=⟨q6,5,none⟩) hqW (.int .i64 wk)).setCell (p:=⟨q6,6,none⟩) hqW (.slice av nv cv)).setCell (p:=⟨q6,7,none⟩) hqW (.slice ai ni ci)))
      exact hz) (fun hHeld=>?_)
     clear hK K
     refine _root_.Go.Proofs.YtdjhmgmjiglcbaaGreatDoor.dn ?_
     go_wp2_with fail
     go_meet
     case rel=>exact⟨q6,gr4,rfl,HF.out.1,HF.out.2.1,HF.out.2.2,hqW,hgW⟩
    ·go_simp
     refine hK.out _ _ (sS.out _ (KT.alloc _)) (fun hHeld=>?_)
     clear hK K
     have hq:=RowL.alloc 110 WB1 [.string ⟨#[]⟩,.slice none 0 0,.string ⟨#[]⟩,.int .i64 0,.int .i64 0,.int .i64 0,.slice none 0 0,.slice none 0 0]
     have kk:=(Kept.refl WB1).alloc (.cells #[.string ⟨#[]⟩,.slice none 0 0,.string ⟨#[]⟩,.int .i64 0,.int .i64 0,.int .i64 0,.slice none 0 0,.slice none 0 0] 110)
     have hqW:W.heap.size<=WB1.heap.size:=KT.size
     have KT:=KT.trans kk
     obtain⟨q8,hqq⟩:∃q,q=WB1.heap.size:=⟨_,rfl⟩
     rw[<-hqq]at hq hqW  ⊢
     generalize WB1.alloc (.cells #[.string ⟨#[]⟩,.slice none 0 0,.string ⟨#[]⟩,.int .i64 0,.int .i64 0,.int .i64 0,.slice none 0 0,.slice none 0 0] 110)=WQ7 at KT hq hHeld  ⊢
     have HQ:=hid' hq
     clear hq hqq kk
     refine rdy 7 fun K hK=>?_
     go_simp
     refine(HGR.out _).mono ?_
     rintro e wg9 ⟨hkg,gr10,rfl,hr,hgs⟩
     have hgq:¬q8=gr10:=by have:=HQ.out.lt;omega
     have HQ:=hid' (HQ.out.kept hkg)
     have HR:=hid' hr
     have hgW:W.heap.size<=gr10:=Nat.le_trans KT.size hgs
     have KT:=KT.trans hkg
     refine hK.out _ _ (sS.out _ KT) (fun hHeld=>?_)
     clear hK K hkg hr hgs
     refine tk 12 hHeld ?_
     have d0:=HQ.out.cell 0 (.string ⟨#[]⟩)
     have d1:=HQ.out.cell 1 (.slice none 0 0)
     have d2:=HQ.out.cell 2 (.string ⟨#[]⟩)
     have d3:=HQ.out.cell 3 (.int .i64 0)
     have d4:=HQ.out.cell 4 (.int .i64 0)
     have d5:=HQ.out.cell 5 (.int .i64 0)
     have d6:=HQ.out.cell 6 (.slice none 0 0)
     have d7:=HQ.out.cell 7 (.slice none 0 0)
     have zd:=HQ.out.fz
     have HF:=hid' (And.intro ((((((((KT.setCell (p:=⟨q8,0,none⟩) hqW (.string ⟨#[k.toNat.toUInt8]⟩)).setCell (p:=⟨q8,1,none⟩) hqW (.slice (some ⟨gr10,0,none⟩) nn nn)).setCell (p:=⟨q8,2,none⟩) hqW (.string ⟨#[]⟩)).setCell (p:=⟨q8,3,none⟩) hqW (.int .i64 vm)).setCell (p:=⟨q8,4,none⟩) hqW (.int .i64 vx)).setCell (p:=⟨q8,5,none⟩) hqW (.int .i64 wk)).setCell (p:=⟨q8,6,none⟩) hqW (.slice av nv cv)).setCell (p:=⟨q8,7,none⟩) hqW (.slice ai ni ci)) (And.intro ((((((((HQ.out.set 0 (.string ⟨#[k.toNat.toUInt8]⟩)).set 1 (.slice (some ⟨gr10,0,none⟩) nn nn)).set 2 (.string ⟨#[]⟩)).set 3 (.int .i64 vm)).set 4 (.int .i64 vx)).set 5 (.int .i64 wk)).set 6 (.slice av nv cv)).set 7 (.slice ai ni ci)) ((((((((HR.out.far (fun e=>hgq e.symm) 0 (.string ⟨#[k.toNat.toUInt8]⟩)).far (fun e=>hgq e.symm) 1 (.slice (some ⟨gr10,0,none⟩) nn nn)).far (fun e=>hgq e.symm) 2 (.string ⟨#[]⟩)).far (fun e=>hgq e.symm) 3 (.int .i64 vm)).far (fun e=>hgq e.symm) 4 (.int .i64 vx)).far (fun e=>hgq e.symm) 5 (.int .i64 wk)).far (fun e=>hgq e.symm) 6 (.slice av nv cv)).far (fun e=>hgq e.symm) 7 (.slice ai ni ci))))
     refine rdy 14 fun K hK=>?_
     go_simp
     refine hK.out _ _ (by
      have hz:=sS.out _ (show Kept W _ from((((((((KT.setCell (p:=⟨q8,0,none⟩) hqW (.string ⟨#[k.toNat.toUInt8]⟩)).setCell (p:=⟨q8,1,none⟩) hqW (.slice (some ⟨gr10,0,none⟩) nn nn)).setCell (p:=⟨q8,2,none⟩) hqW (.string ⟨#[]⟩)).setCell (p:=⟨q8,3,none⟩) hqW (.int .i64 vm)).setCell (p:=⟨q8,4,none⟩) hqW (.int .i64 vx)).setCell (p:=⟨q8,5,none⟩) hqW (.int .i64 wk)).setCell (p:=⟨q8,6,none⟩) hqW (.slice av nv cv)).setCell (p:=⟨q8,7,none⟩) hqW (.slice ai ni ci)))
      exact hz) (fun hHeld=>?_)
     clear hK K
     refine _root_.Go.Proofs.YtdjhmgmjiglcbaaGreatDoor.dn ?_
     go_wp2_with fail
     go_meet
     case rel=>exact⟨q8,gr10,rfl,HF.out.1,HF.out.2.1,HF.out.2.2,hqW,hgW⟩
   ·go_simp
    refine(HGR.out _).mono ?_
    rintro e wg11 ⟨hkg,gr12,rfl,hr,hgs⟩
    have HBc:=(Below.cell hkg (p:=⟨gb2,0,none⟩) hgl).trans HBc
    have hgl:=Nat.lt_of_lt_of_le hgl hkg.size
    have HR:=hid' hr
    have hgW:W.heap.size<=gr12:=Nat.le_trans KT.size hgs
    have KT:=KT.trans hkg
    refine hK.out _ _ (sS.out _ KT) (fun hHeld=>?_)
    clear hK K hkg hr hgs
    refine wpAnyH_ready (rs:=[3,13]) (by kernel_rfl) (by simp) ?_
    refine(AllReadyH.cons rfl (fun K hK=>?_) (AllReadyH.cons rfl (fun K hK=>?_) AllReadyH.nil))
    ·have hcv:=run_convert_bytes_arg (P:=Tryz.prog) wg11 107 5 Tryz.underlying107 Tryz.underlying5 gb2 0 1 1 [k] rfl (fun j hj=>by
      obtain rfl:j=0:=by omega
      exact HBc) 9 Tryz.underlying9
     rw[str_one]at hcv
     go_simp
     refine hK.out _ _ (sS.out _ KT) (fun hHeld=>?_)
     clear hK K hcv HBc hgl
     refine tk 12 hHeld ?_
     refine rdy 13 fun K hK=>?_
     go_simp
     refine hK.out _ _ (sS.out _ (KT.alloc _)) (fun hHeld=>?_)
     clear hK K
     have hq:=RowL.alloc 110 wg11 [.string ⟨#[]⟩,.slice none 0 0,.string ⟨#[]⟩,.int .i64 0,.int .i64 0,.int .i64 0,.slice none 0 0,.slice none 0 0]
     have kk:=(Kept.refl wg11).alloc (.cells #[.string ⟨#[]⟩,.slice none 0 0,.string ⟨#[]⟩,.int .i64 0,.int .i64 0,.int .i64 0,.slice none 0 0,.slice none 0 0] 110)
     have hqW:W.heap.size<=wg11.heap.size:=KT.size
     have KT:=KT.trans kk
     have hgq:¬wg11.heap.size=gr12:=by have:=HR.out.lt;omega
     have HR:=hid' (HR.out.kept kk)
     obtain⟨q14,hqq⟩:∃q,q=wg11.heap.size:=⟨_,rfl⟩
     rw[<-hqq]at hq hqW hgq ⊢
     generalize wg11.alloc (.cells #[.string ⟨#[]⟩,.slice none 0 0,.string ⟨#[]⟩,.int .i64 0,.int .i64 0,.int .i64 0,.slice none 0 0,.slice none 0 0] 110)=WQ13 at KT hq hHeld HR ⊢
     have HQ:=hid' hq
     clear hq hqq kk
     have d0:=HQ.out.cell 0 (.string ⟨#[]⟩)
     have d1:=HQ.out.cell 1 (.slice none 0 0)
     have d2:=HQ.out.cell 2 (.string ⟨#[]⟩)
     have d3:=HQ.out.cell 3 (.int .i64 0)
     have d4:=HQ.out.cell 4 (.int .i64 0)
     have d5:=HQ.out.cell 5 (.int .i64 0)
     have d6:=HQ.out.cell 6 (.slice none 0 0)
     have d7:=HQ.out.cell 7 (.slice none 0 0)
     have zd:=HQ.out.fz
     have HF:=hid' (And.intro ((((((((KT.setCell (p:=⟨q14,0,none⟩) hqW (.string ⟨#[k.toNat.toUInt8]⟩)).setCell (p:=⟨q14,1,none⟩) hqW (.slice (some ⟨gr12,0,none⟩) nn nn)).setCell (p:=⟨q14,2,none⟩) hqW (.string ⟨#[]⟩)).setCell (p:=⟨q14,3,none⟩) hqW (.int .i64 vm)).setCell (p:=⟨q14,4,none⟩) hqW (.int .i64 vx)).setCell (p:=⟨q14,5,none⟩) hqW (.int .i64 wk)).setCell (p:=⟨q14,6,none⟩) hqW (.slice av nv cv)).setCell (p:=⟨q14,7,none⟩) hqW (.slice ai ni ci)) (And.intro ((((((((HQ.out.set 0 (.string ⟨#[k.toNat.toUInt8]⟩)).set 1 (.slice (some ⟨gr12,0,none⟩) nn nn)).set 2 (.string ⟨#[]⟩)).set 3 (.int .i64 vm)).set 4 (.int .i64 vx)).set 5 (.int .i64 wk)).set 6 (.slice av nv cv)).set 7 (.slice ai ni ci)) ((((((((HR.out.far (fun e=>hgq e.symm) 0 (.string ⟨#[k.toNat.toUInt8]⟩)).far (fun e=>hgq e.symm) 1 (.slice (some ⟨gr12,0,none⟩) nn nn)).far (fun e=>hgq e.symm) 2 (.string ⟨#[]⟩)).far (fun e=>hgq e.symm) 3 (.int .i64 vm)).far (fun e=>hgq e.symm) 4 (.int .i64 vx)).far (fun e=>hgq e.symm) 5 (.int .i64 wk)).far (fun e=>hgq e.symm) 6 (.slice av nv cv)).far (fun e=>hgq e.symm) 7 (.slice ai ni ci))))
     refine rdy 14 fun K hK=>?_
     go_simp
     refine hK.out _ _ (by
      have hz:=sS.out _ (show Kept W _ from((((((((KT.setCell (p:=⟨q14,0,none⟩) hqW (.string ⟨#[k.toNat.toUInt8]⟩)).setCell (p:=⟨q14,1,none⟩) hqW (.slice (some ⟨gr12,0,none⟩) nn nn)).setCell (p:=⟨q14,2,none⟩) hqW (.string ⟨#[]⟩)).setCell (p:=⟨q14,3,none⟩) hqW (.int .i64 vm)).setCell (p:=⟨q14,4,none⟩) hqW (.int .i64 vx)).setCell (p:=⟨q14,5,none⟩) hqW (.int .i64 wk)).setCell (p:=⟨q14,6,none⟩) hqW (.slice av nv cv)).setCell (p:=⟨q14,7,none⟩) hqW (.slice ai ni ci)))
      exact hz) (fun hHeld=>?_)
     clear hK K
     refine _root_.Go.Proofs.YtdjhmgmjiglcbaaGreatDoor.dn ?_
     go_wp2_with fail
     go_meet
     case rel=>exact⟨q14,gr12,rfl,HF.out.1,HF.out.2.1,HF.out.2.2,hqW,hgW⟩
    ·go_simp
     refine hK.out _ _ (sS.out _ (KT.alloc _)) (fun hHeld=>?_)
     clear hK K
     have hq:=RowL.alloc 110 wg11 [.string ⟨#[]⟩,.slice none 0 0,.string ⟨#[]⟩,.int .i64 0,.int .i64 0,.int .i64 0,.slice none 0 0,.slice none 0 0]
     have kk:=(Kept.refl wg11).alloc (.cells #[.string ⟨#[]⟩,.slice none 0 0,.string ⟨#[]⟩,.int .i64 0,.int .i64 0,.int .i64 0,.slice none 0 0,.slice none 0 0] 110)
     have HBc:=(Below.cell kk (p:=⟨gb2,0,none⟩) hgl).trans HBc
     have hgl:=Nat.lt_of_lt_of_le hgl kk.size
     have hqW:W.heap.size<=wg11.heap.size:=KT.size
     have KT:=KT.trans kk
     have hgq:¬wg11.heap.size=gr12:=by have:=HR.out.lt;omega
     have HR:=hid' (HR.out.kept kk)
     obtain⟨q16,hqq⟩:∃q,q=wg11.heap.size:=⟨_,rfl⟩
     rw[<-hqq]at hq hqW hgq ⊢
     generalize wg11.alloc (.cells #[.string ⟨#[]⟩,.slice none 0 0,.string ⟨#[]⟩,.int .i64 0,.int .i64 0,.int .i64 0,.slice none 0 0,.slice none 0 0] 110)=WQ15 at KT hq hHeld HR HBc hgl ⊢
     have HQ:=hid' hq
     clear hq hqq kk
     refine rdy 3 fun K hK=>?_
     have hcv:=run_convert_bytes_arg (P:=Tryz.prog) WQ15 107 5 Tryz.underlying107 Tryz.underlying5 gb2 0 1 1 [k] rfl (fun j hj=>by
      obtain rfl:j=0:=by omega
      exact HBc) 9 Tryz.underlying9
     rw[str_one]at hcv
     go_simp
     refine hK.out _ _ (sS.out _ KT) (fun hHeld=>?_)
     clear hK K hcv HBc hgl
     refine tk 12 hHeld ?_
     have d0:=HQ.out.cell 0 (.string ⟨#[]⟩)
     have d1:=HQ.out.cell 1 (.slice none 0 0)
     have d2:=HQ.out.cell 2 (.string ⟨#[]⟩)
     have d3:=HQ.out.cell 3 (.int .i64 0)
     have d4:=HQ.out.cell 4 (.int .i64 0)
     have d5:=HQ.out.cell 5 (.int .i64 0)
     have d6:=HQ.out.cell 6 (.slice none 0 0)
     have d7:=HQ.out.cell 7 (.slice none 0 0)
     have zd:=HQ.out.fz
     have HF:=hid' (And.intro ((((((((KT.setCell (p:=⟨q16,0,none⟩) hqW (.string ⟨#[k.toNat.toUInt8]⟩)).setCell (p:=⟨q16,1,none⟩) hqW (.slice (some ⟨gr12,0,none⟩) nn nn)).setCell (p:=⟨q16,2,none⟩) hqW (.string ⟨#[]⟩)).setCell (p:=⟨q16,3,none⟩) hqW (.int .i64 vm)).setCell (p:=⟨q16,4,none⟩) hqW (.int .i64 vx)).setCell (p:=⟨q16,5,none⟩) hqW (.int .i64 wk)).setCell (p:=⟨q16,6,none⟩) hqW (.slice av nv cv)).setCell (p:=⟨q16,7,none⟩) hqW (.slice ai ni ci)) (And.intro ((((((((HQ.out.set 0 (.string ⟨#[k.toNat.toUInt8]⟩)).set 1 (.slice (some ⟨gr12,0,none⟩) nn nn)).set 2 (.string ⟨#[]⟩)).set 3 (.int .i64 vm)).set 4 (.int .i64 vx)).set 5 (.int .i64 wk)).set 6 (.slice av nv cv)).set 7 (.slice ai ni ci)) ((((((((HR.out.far (fun e=>hgq e.symm) 0 (.string ⟨#[k.toNat.toUInt8]⟩)).far (fun e=>hgq e.symm) 1 (.slice (some ⟨gr12,0,none⟩) nn nn)).far (fun e=>hgq e.symm) 2 (.string ⟨#[]⟩)).far (fun e=>hgq e.symm) 3 (.int .i64 vm)).far (fun e=>hgq e.symm) 4 (.int .i64 vx)).far (fun e=>hgq e.symm) 5 (.int .i64 wk)).far (fun e=>hgq e.symm) 6 (.slice av nv cv)).far (fun e=>hgq e.symm) 7 (.slice ai ni ci))))
     refine rdy 14 fun K hK=>?_
     go_simp
     refine hK.out _ _ (by
      have hz:=sS.out _ (show Kept W _ from((((((((KT.setCell (p:=⟨q16,0,none⟩) hqW (.string ⟨#[k.toNat.toUInt8]⟩)).setCell (p:=⟨q16,1,none⟩) hqW (.slice (some ⟨gr12,0,none⟩) nn nn)).setCell (p:=⟨q16,2,none⟩) hqW (.string ⟨#[]⟩)).setCell (p:=⟨q16,3,none⟩) hqW (.int .i64 vm)).setCell (p:=⟨q16,4,none⟩) hqW (.int .i64 vx)).setCell (p:=⟨q16,5,none⟩) hqW (.int .i64 wk)).setCell (p:=⟨q16,6,none⟩) hqW (.slice av nv cv)).setCell (p:=⟨q16,7,none⟩) hqW (.slice ai ni ci)))
      exact hz) (fun hHeld=>?_)
     clear hK K
     refine _root_.Go.Proofs.YtdjhmgmjiglcbaaGreatDoor.dn ?_
     go_wp2_with fail
     go_meet
     case rel=>exact⟨q16,gr12,rfl,HF.out.1,HF.out.2.1,HF.out.2.2,hqW,hgW⟩
   ·go_simp
    refine hK.out _ _ (sS.out _ (KT.alloc _)) (fun hHeld=>?_)
    clear hK K
    have hq:=RowL.alloc 110 WB1 [.string ⟨#[]⟩,.slice none 0 0,.string ⟨#[]⟩,.int .i64 0,.int .i64 0,.int .i64 0,.slice none 0 0,.slice none 0 0]
    have kk:=(Kept.refl WB1).alloc (.cells #[.string ⟨#[]⟩,.slice none 0 0,.string ⟨#[]⟩,.int .i64 0,.int .i64 0,.int .i64 0,.slice none 0 0,.slice none 0 0] 110)
    have HBc:=(Below.cell kk (p:=⟨gb2,0,none⟩) hgl).trans HBc
    have hgl:=Nat.lt_of_lt_of_le hgl kk.size
    have hqW:W.heap.size<=WB1.heap.size:=KT.size
    have KT:=KT.trans kk
    obtain⟨q18,hqq⟩:∃q,q=WB1.heap.size:=⟨_,rfl⟩
    rw[<-hqq]at hq hqW  ⊢
    generalize WB1.alloc (.cells #[.string ⟨#[]⟩,.slice none 0 0,.string ⟨#[]⟩,.int .i64 0,.int .i64 0,.int .i64 0,.slice none 0 0,.slice none 0 0] 110)=WQ17 at KT hq hHeld HBc hgl ⊢
    have HQ:=hid' hq
    clear hq hqq kk
    refine wpAnyH_ready (rs:=[3,7]) (by kernel_rfl) (by simp) ?_
    refine(AllReadyH.cons rfl (fun K hK=>?_) (AllReadyH.cons rfl (fun K hK=>?_) AllReadyH.nil))
    ·have hcv:=run_convert_bytes_arg (P:=Tryz.prog) WQ17 107 5 Tryz.underlying107 Tryz.underlying5 gb2 0 1 1 [k] rfl (fun j hj=>by
      obtain rfl:j=0:=by omega
      exact HBc) 9 Tryz.underlying9
     rw[str_one]at hcv
     go_simp
     refine hK.out _ _ (sS.out _ KT) (fun hHeld=>?_)
     clear hK K hcv HBc hgl
     refine rdy 7 fun K hK=>?_
     go_simp
     refine(HGR.out _).mono ?_
     rintro e wg19 ⟨hkg,gr20,rfl,hr,hgs⟩
     have hgq:¬q18=gr20:=by have:=HQ.out.lt;omega
     have HQ:=hid' (HQ.out.kept hkg)
     have HR:=hid' hr
     have hgW:W.heap.size<=gr20:=Nat.le_trans KT.size hgs
     have KT:=KT.trans hkg
     refine hK.out _ _ (sS.out _ KT) (fun hHeld=>?_)
     clear hK K hkg hr hgs
     refine tk 12 hHeld ?_
     have d0:=HQ.out.cell 0 (.string ⟨#[]⟩)
     have d1:=HQ.out.cell 1 (.slice none 0 0)
     have d2:=HQ.out.cell 2 (.string ⟨#[]⟩)
     have d3:=HQ.out.cell 3 (.int .i64 0)
     have d4:=HQ.out.cell 4 (.int .i64 0)
     have d5:=HQ.out.cell 5 (.int .i64 0)
     have d6:=HQ.out.cell 6 (.slice none 0 0)
     have d7:=HQ.out.cell 7 (.slice none 0 0)
     have zd:=HQ.out.fz
     have HF:=hid' (And.intro ((((((((KT.setCell (p:=⟨q18,0,none⟩) hqW (.string ⟨#[k.toNat.toUInt8]⟩)).setCell (p:=⟨q18,1,none⟩) hqW (.slice (some ⟨gr20,0,none⟩) nn nn)).setCell (p:=⟨q18,2,none⟩) hqW (.string ⟨#[]⟩)).setCell (p:=⟨q18,3,none⟩) hqW (.int .i64 vm)).setCell (p:=⟨q18,4,none⟩) hqW (.int .i64 vx)).setCell (p:=⟨q18,5,none⟩) hqW (.int .i64 wk)).setCell (p:=⟨q18,6,none⟩) hqW (.slice av nv cv)).setCell (p:=⟨q18,7,none⟩) hqW (.slice ai ni ci)) (And.intro ((((((((HQ.out.set 0 (.string ⟨#[k.toNat.toUInt8]⟩)).set 1 (.slice (some ⟨gr20,0,none⟩) nn nn)).set 2 (.string ⟨#[]⟩)).set 3 (.int .i64 vm)).set 4 (.int .i64 vx)).set 5 (.int .i64 wk)).set 6 (.slice av nv cv)).set 7 (.slice ai ni ci)) ((((((((HR.out.far (fun e=>hgq e.symm) 0 (.string ⟨#[k.toNat.toUInt8]⟩)).far (fun e=>hgq e.symm) 1 (.slice (some ⟨gr20,0,none⟩) nn nn)).far (fun e=>hgq e.symm) 2 (.string ⟨#[]⟩)).far (fun e=>hgq e.symm) 3 (.int .i64 vm)).far (fun e=>hgq e.symm) 4 (.int .i64 vx)).far (fun e=>hgq e.symm) 5 (.int .i64 wk)).far (fun e=>hgq e.symm) 6 (.slice av nv cv)).far (fun e=>hgq e.symm) 7 (.slice ai ni ci))))
     refine rdy 14 fun K hK=>?_
     go_simp
     refine hK.out _ _ (by
      have hz:=sS.out _ (show Kept W _ from((((((((KT.setCell (p:=⟨q18,0,none⟩) hqW (.string ⟨#[k.toNat.toUInt8]⟩)).setCell (p:=⟨q18,1,none⟩) hqW (.slice (some ⟨gr20,0,none⟩) nn nn)).setCell (p:=⟨q18,2,none⟩) hqW (.string ⟨#[]⟩)).setCell (p:=⟨q18,3,none⟩) hqW (.int .i64 vm)).setCell (p:=⟨q18,4,none⟩) hqW (.int .i64 vx)).setCell (p:=⟨q18,5,none⟩) hqW (.int .i64 wk)).setCell (p:=⟨q18,6,none⟩) hqW (.slice av nv cv)).setCell (p:=⟨q18,7,none⟩) hqW (.slice ai ni ci)))
      exact hz) (fun hHeld=>?_)
     clear hK K
     refine _root_.Go.Proofs.YtdjhmgmjiglcbaaGreatDoor.dn ?_
     go_wp2_with fail
     go_meet
     case rel=>exact⟨q18,gr20,rfl,HF.out.1,HF.out.2.1,HF.out.2.2,hqW,hgW⟩
    ·go_simp
     refine(HGR.out _).mono ?_
     rintro e wg21 ⟨hkg,gr22,rfl,hr,hgs⟩
     have HBc:=(Below.cell hkg (p:=⟨gb2,0,none⟩) hgl).trans HBc
     have hgl:=Nat.lt_of_lt_of_le hgl hkg.size
     have hgq:¬q18=gr22:=by have:=HQ.out.lt;omega
     have HQ:=hid' (HQ.out.kept hkg)
     have HR:=hid' hr
     have hgW:W.heap.size<=gr22:=Nat.le_trans KT.size hgs
     have KT:=KT.trans hkg
     refine hK.out _ _ (sS.out _ KT) (fun hHeld=>?_)
     clear hK K hkg hr hgs
     refine rdy 3 fun K hK=>?_
     have hcv:=run_convert_bytes_arg (P:=Tryz.prog) wg21 107 5 Tryz.underlying107 Tryz.underlying5 gb2 0 1 1 [k] rfl (fun j hj=>by
      obtain rfl:j=0:=by omega
      exact HBc) 9 Tryz.underlying9
     rw[str_one]at hcv
     go_simp
     refine hK.out _ _ (sS.out _ KT) (fun hHeld=>?_)
     clear hK K hcv HBc hgl
     refine tk 12 hHeld ?_
     have d0:=HQ.out.cell 0 (.string ⟨#[]⟩)
     have d1:=HQ.out.cell 1 (.slice none 0 0)
     have d2:=HQ.out.cell 2 (.string ⟨#[]⟩)
     have d3:=HQ.out.cell 3 (.int .i64 0)
     have d4:=HQ.out.cell 4 (.int .i64 0)
     have d5:=HQ.out.cell 5 (.int .i64 0)
     have d6:=HQ.out.cell 6 (.slice none 0 0)
     have d7:=HQ.out.cell 7 (.slice none 0 0)
     have zd:=HQ.out.fz
     have HF:=hid' (And.intro ((((((((KT.setCell (p:=⟨q18,0,none⟩) hqW (.string ⟨#[k.toNat.toUInt8]⟩)).setCell (p:=⟨q18,1,none⟩) hqW (.slice (some ⟨gr22,0,none⟩) nn nn)).setCell (p:=⟨q18,2,none⟩) hqW (.string ⟨#[]⟩)).setCell (p:=⟨q18,3,none⟩) hqW (.int .i64 vm)).setCell (p:=⟨q18,4,none⟩) hqW (.int .i64 vx)).setCell (p:=⟨q18,5,none⟩) hqW (.int .i64 wk)).setCell (p:=⟨q18,6,none⟩) hqW (.slice av nv cv)).setCell (p:=⟨q18,7,none⟩) hqW (.slice ai ni ci)) (And.intro ((((((((HQ.out.set 0 (.string ⟨#[k.toNat.toUInt8]⟩)).set 1 (.slice (some ⟨gr22,0,none⟩) nn nn)).set 2 (.string ⟨#[]⟩)).set 3 (.int .i64 vm)).set 4 (.int .i64 vx)).set 5 (.int .i64 wk)).set 6 (.slice av nv cv)).set 7 (.slice ai ni ci)) ((((((((HR.out.far (fun e=>hgq e.symm) 0 (.string ⟨#[k.toNat.toUInt8]⟩)).far (fun e=>hgq e.symm) 1 (.slice (some ⟨gr22,0,none⟩) nn nn)).far (fun e=>hgq e.symm) 2 (.string ⟨#[]⟩)).far (fun e=>hgq e.symm) 3 (.int .i64 vm)).far (fun e=>hgq e.symm) 4 (.int .i64 vx)).far (fun e=>hgq e.symm) 5 (.int .i64 wk)).far (fun e=>hgq e.symm) 6 (.slice av nv cv)).far (fun e=>hgq e.symm) 7 (.slice ai ni ci))))
     refine rdy 14 fun K hK=>?_
     go_simp
     refine hK.out _ _ (by
      have hz:=sS.out _ (show Kept W _ from((((((((KT.setCell (p:=⟨q18,0,none⟩) hqW (.string ⟨#[k.toNat.toUInt8]⟩)).setCell (p:=⟨q18,1,none⟩) hqW (.slice (some ⟨gr22,0,none⟩) nn nn)).setCell (p:=⟨q18,2,none⟩) hqW (.string ⟨#[]⟩)).setCell (p:=⟨q18,3,none⟩) hqW (.int .i64 vm)).setCell (p:=⟨q18,4,none⟩) hqW (.int .i64 vx)).setCell (p:=⟨q18,5,none⟩) hqW (.int .i64 wk)).setCell (p:=⟨q18,6,none⟩) hqW (.slice av nv cv)).setCell (p:=⟨q18,7,none⟩) hqW (.slice ai ni ci)))
      exact hz) (fun hHeld=>?_)
     clear hK K
     refine _root_.Go.Proofs.YtdjhmgmjiglcbaaGreatDoor.dn ?_
     go_wp2_with fail
     go_meet
     case rel=>exact⟨q18,gr22,rfl,HF.out.1,HF.out.2.1,HF.out.2.2,hqW,hgW⟩
  ·go_simp
   refine(HGR.out _).mono ?_
   rintro e wg23 ⟨hkg,gr24,rfl,hr,hgs⟩
   have HR:=hid' hr
   have hgW:W.heap.size<=gr24:=Nat.le_trans KT.size hgs
   have KT:=KT.trans hkg
   refine hK.out _ _ (sS.out _ KT) (fun hHeld=>?_)
   clear hK K hkg hr hgs
   refine wpAnyH_ready (rs:=[2,13]) (by kernel_rfl) (by simp) ?_
   refine(AllReadyH.cons rfl (fun K hK=>?_) (AllReadyH.cons rfl (fun K hK=>?_) AllReadyH.nil))
   ·go_simp
    refine hK.out _ _ (sS.out _ (KT.alloc _)) (fun hHeld=>?_)
    clear hK K
    have HBc:(wg23.alloc (.cells #[.int .u8 k] 5)).cell? ⟨wg23.heap.size,0,none⟩=some (.int .u8 k):=by simp
    have hgl:wg23.heap.size<(wg23.alloc (.cells #[.int .u8 k] 5)).heap.size:=by simp
    have kk:=(Kept.refl wg23).alloc (.cells #[.int .u8 k] 5)
    have KT:=KT.trans kk
    have HR:=hid' (HR.out.kept kk)
    obtain⟨gb26,hgb⟩:∃q,q=wg23.heap.size:=⟨_,rfl⟩
    rw[<-hgb]at HBc hgl ⊢
    generalize wg23.alloc (.cells #[.int .u8 k] 5)=WB25 at KT HBc hgl hHeld HR ⊢
    clear hgb kk
    refine wpAnyH_ready (rs:=[3,13]) (by kernel_rfl) (by simp) ?_
    refine(AllReadyH.cons rfl (fun K hK=>?_) (AllReadyH.cons rfl (fun K hK=>?_) AllReadyH.nil))
    ·have hcv:=run_convert_bytes_arg (P:=Tryz.prog) WB25 107 5 Tryz.underlying107 Tryz.underlying5 gb26 0 1 1 [k] rfl (fun j hj=>by
      obtain rfl:j=0:=by omega
      exact HBc) 9 Tryz.underlying9
     rw[str_one]at hcv
     go_simp
     refine hK.out _ _ (sS.out _ KT) (fun hHeld=>?_)
     clear hK K hcv HBc hgl
     refine tk 12 hHeld ?_
     refine rdy 13 fun K hK=>?_
     go_simp
     refine hK.out _ _ (sS.out _ (KT.alloc _)) (fun hHeld=>?_)
     clear hK K
     have hq:=RowL.alloc 110 WB25 [.string ⟨#[]⟩,.slice none 0 0,.string ⟨#[]⟩,.int .i64 0,.int .i64 0,.int .i64 0,.slice none 0 0,.slice none 0 0]
     have kk:=(Kept.refl WB25).alloc (.cells #[.string ⟨#[]⟩,.slice none 0 0,.string ⟨#[]⟩,.int .i64 0,.int .i64 0,.int .i64 0,.slice none 0 0,.slice none 0 0] 110)
     have hqW:W.heap.size<=WB25.heap.size:=KT.size
     have KT:=KT.trans kk
     have hgq:¬WB25.heap.size=gr24:=by have:=HR.out.lt;omega
     have HR:=hid' (HR.out.kept kk)
     obtain⟨q28,hqq⟩:∃q,q=WB25.heap.size:=⟨_,rfl⟩
     rw[<-hqq]at hq hqW hgq ⊢
     generalize WB25.alloc (.cells #[.string ⟨#[]⟩,.slice none 0 0,.string ⟨#[]⟩,.int .i64 0,.int .i64 0,.int .i64 0,.slice none 0 0,.slice none 0 0] 110)=WQ27 at KT hq hHeld HR ⊢
     have HQ:=hid' hq
     clear hq hqq kk
     have d0:=HQ.out.cell 0 (.string ⟨#[]⟩)
     have d1:=HQ.out.cell 1 (.slice none 0 0)
     have d2:=HQ.out.cell 2 (.string ⟨#[]⟩)
     have d3:=HQ.out.cell 3 (.int .i64 0)
     have d4:=HQ.out.cell 4 (.int .i64 0)
     have d5:=HQ.out.cell 5 (.int .i64 0)
     have d6:=HQ.out.cell 6 (.slice none 0 0)
     have d7:=HQ.out.cell 7 (.slice none 0 0)
     have zd:=HQ.out.fz
     have HF:=hid' (And.intro ((((((((KT.setCell (p:=⟨q28,0,none⟩) hqW (.string ⟨#[k.toNat.toUInt8]⟩)).setCell (p:=⟨q28,1,none⟩) hqW (.slice (some ⟨gr24,0,none⟩) nn nn)).setCell (p:=⟨q28,2,none⟩) hqW (.string ⟨#[]⟩)).setCell (p:=⟨q28,3,none⟩) hqW (.int .i64 vm)).setCell (p:=⟨q28,4,none⟩) hqW (.int .i64 vx)).setCell (p:=⟨q28,5,none⟩) hqW (.int .i64 wk)).setCell (p:=⟨q28,6,none⟩) hqW (.slice av nv cv)).setCell (p:=⟨q28,7,none⟩) hqW (.slice ai ni ci)) (And.intro ((((((((HQ.out.set 0 (.string ⟨#[k.toNat.toUInt8]⟩)).set 1 (.slice (some ⟨gr24,0,none⟩) nn nn)).set 2 (.string ⟨#[]⟩)).set 3 (.int .i64 vm)).set 4 (.int .i64 vx)).set 5 (.int .i64 wk)).set 6 (.slice av nv cv)).set 7 (.slice ai ni ci)) ((((((((HR.out.far (fun e=>hgq e.symm) 0 (.string ⟨#[k.toNat.toUInt8]⟩)).far (fun e=>hgq e.symm) 1 (.slice (some ⟨gr24,0,none⟩) nn nn)).far (fun e=>hgq e.symm) 2 (.string ⟨#[]⟩)).far (fun e=>hgq e.symm) 3 (.int .i64 vm)).far (fun e=>hgq e.symm) 4 (.int .i64 vx)).far (fun e=>hgq e.symm) 5 (.int .i64 wk)).far (fun e=>hgq e.symm) 6 (.slice av nv cv)).far (fun e=>hgq e.symm) 7 (.slice ai ni ci))))
     refine rdy 14 fun K hK=>?_
     go_simp
     refine hK.out _ _ (by
      have hz:=sS.out _ (show Kept W _ from((((((((KT.setCell (p:=⟨q28,0,none⟩) hqW (.string ⟨#[k.toNat.toUInt8]⟩)).setCell (p:=⟨q28,1,none⟩) hqW (.slice (some ⟨gr24,0,none⟩) nn nn)).setCell (p:=⟨q28,2,none⟩) hqW (.string ⟨#[]⟩)).setCell (p:=⟨q28,3,none⟩) hqW (.int .i64 vm)).setCell (p:=⟨q28,4,none⟩) hqW (.int .i64 vx)).setCell (p:=⟨q28,5,none⟩) hqW (.int .i64 wk)).setCell (p:=⟨q28,6,none⟩) hqW (.slice av nv cv)).setCell (p:=⟨q28,7,none⟩) hqW (.slice ai ni ci)))
      exact hz) (fun hHeld=>?_)
     clear hK K
     refine _root_.Go.Proofs.YtdjhmgmjiglcbaaGreatDoor.dn ?_
     go_wp2_with fail
     go_meet
     case rel=>exact⟨q28,gr24,rfl,HF.out.1,HF.out.2.1,HF.out.2.2,hqW,hgW⟩
    ·go_simp
     refine hK.out _ _ (sS.out _ (KT.alloc _)) (fun hHeld=>?_)
     clear hK K
     have hq:=RowL.alloc 110 WB25 [.string ⟨#[]⟩,.slice none 0 0,.string ⟨#[]⟩,.int .i64 0,.int .i64 0,.int .i64 0,.slice none 0 0,.slice none 0 0]
     have kk:=(Kept.refl WB25).alloc (.cells #[.string ⟨#[]⟩,.slice none 0 0,.string ⟨#[]⟩,.int .i64 0,.int .i64 0,.int .i64 0,.slice none 0 0,.slice none 0 0] 110)
     have HBc:=(Below.cell kk (p:=⟨gb26,0,none⟩) hgl).trans HBc
     have hgl:=Nat.lt_of_lt_of_le hgl kk.size
     have hqW:W.heap.size<=WB25.heap.size:=KT.size
     have KT:=KT.trans kk
     have hgq:¬WB25.heap.size=gr24:=by have:=HR.out.lt;omega
     have HR:=hid' (HR.out.kept kk)
     obtain⟨q30,hqq⟩:∃q,q=WB25.heap.size:=⟨_,rfl⟩
     rw[<-hqq]at hq hqW hgq ⊢
     generalize WB25.alloc (.cells #[.string ⟨#[]⟩,.slice none 0 0,.string ⟨#[]⟩,.int .i64 0,.int .i64 0,.int .i64 0,.slice none 0 0,.slice none 0 0] 110)=WQ29 at KT hq hHeld HR HBc hgl ⊢
     have HQ:=hid' hq
     clear hq hqq kk
     refine rdy 3 fun K hK=>?_
     have hcv:=run_convert_bytes_arg (P:=Tryz.prog) WQ29 107 5 Tryz.underlying107 Tryz.underlying5 gb26 0 1 1 [k] rfl (fun j hj=>by
      obtain rfl:j=0:=by omega
      exact HBc) 9 Tryz.underlying9
     rw[str_one]at hcv
     go_simp
     refine hK.out _ _ (sS.out _ KT) (fun hHeld=>?_)
     clear hK K hcv HBc hgl
     refine tk 12 hHeld ?_
     have d0:=HQ.out.cell 0 (.string ⟨#[]⟩)
     have d1:=HQ.out.cell 1 (.slice none 0 0)
     have d2:=HQ.out.cell 2 (.string ⟨#[]⟩)
     have d3:=HQ.out.cell 3 (.int .i64 0)
     have d4:=HQ.out.cell 4 (.int .i64 0)
     have d5:=HQ.out.cell 5 (.int .i64 0)
     have d6:=HQ.out.cell 6 (.slice none 0 0)
     have d7:=HQ.out.cell 7 (.slice none 0 0)
     have zd:=HQ.out.fz
     have HF:=hid' (And.intro ((((((((KT.setCell (p:=⟨q30,0,none⟩) hqW (.string ⟨#[k.toNat.toUInt8]⟩)).setCell (p:=⟨q30,1,none⟩) hqW (.slice (some ⟨gr24,0,none⟩) nn nn)).setCell (p:=⟨q30,2,none⟩) hqW (.string ⟨#[]⟩)).setCell (p:=⟨q30,3,none⟩) hqW (.int .i64 vm)).setCell (p:=⟨q30,4,none⟩) hqW (.int .i64 vx)).setCell (p:=⟨q30,5,none⟩) hqW (.int .i64 wk)).setCell (p:=⟨q30,6,none⟩) hqW (.slice av nv cv)).setCell (p:=⟨q30,7,none⟩) hqW (.slice ai ni ci)) (And.intro ((((((((HQ.out.set 0 (.string ⟨#[k.toNat.toUInt8]⟩)).set 1 (.slice (some ⟨gr24,0,none⟩) nn nn)).set 2 (.string ⟨#[]⟩)).set 3 (.int .i64 vm)).set 4 (.int .i64 vx)).set 5 (.int .i64 wk)).set 6 (.slice av nv cv)).set 7 (.slice ai ni ci)) ((((((((HR.out.far (fun e=>hgq e.symm) 0 (.string ⟨#[k.toNat.toUInt8]⟩)).far (fun e=>hgq e.symm) 1 (.slice (some ⟨gr24,0,none⟩) nn nn)).far (fun e=>hgq e.symm) 2 (.string ⟨#[]⟩)).far (fun e=>hgq e.symm) 3 (.int .i64 vm)).far (fun e=>hgq e.symm) 4 (.int .i64 vx)).far (fun e=>hgq e.symm) 5 (.int .i64 wk)).far (fun e=>hgq e.symm) 6 (.slice av nv cv)).far (fun e=>hgq e.symm) 7 (.slice ai ni ci))))
     refine rdy 14 fun K hK=>?_
     go_simp
     refine hK.out _ _ (by
      have hz:=sS.out _ (show Kept W _ from((((((((KT.setCell (p:=⟨q30,0,none⟩) hqW (.string ⟨#[k.toNat.toUInt8]⟩)).setCell (p:=⟨q30,1,none⟩) hqW (.slice (some ⟨gr24,0,none⟩) nn nn)).setCell (p:=⟨q30,2,none⟩) hqW (.string ⟨#[]⟩)).setCell (p:=⟨q30,3,none⟩) hqW (.int .i64 vm)).setCell (p:=⟨q30,4,none⟩) hqW (.int .i64 vx)).setCell (p:=⟨q30,5,none⟩) hqW (.int .i64 wk)).setCell (p:=⟨q30,6,none⟩) hqW (.slice av nv cv)).setCell (p:=⟨q30,7,none⟩) hqW (.slice ai ni ci)))
      exact hz) (fun hHeld=>?_)
     clear hK K
     refine _root_.Go.Proofs.YtdjhmgmjiglcbaaGreatDoor.dn ?_
     go_wp2_with fail
     go_meet
     case rel=>exact⟨q30,gr24,rfl,HF.out.1,HF.out.2.1,HF.out.2.2,hqW,hgW⟩
   ·go_simp
    refine hK.out _ _ (sS.out _ (KT.alloc _)) (fun hHeld=>?_)
    clear hK K
    have hq:=RowL.alloc 110 wg23 [.string ⟨#[]⟩,.slice none 0 0,.string ⟨#[]⟩,.int .i64 0,.int .i64 0,.int .i64 0,.slice none 0 0,.slice none 0 0]
    have kk:=(Kept.refl wg23).alloc (.cells #[.string ⟨#[]⟩,.slice none 0 0,.string ⟨#[]⟩,.int .i64 0,.int .i64 0,.int .i64 0,.slice none 0 0,.slice none 0 0] 110)
    have hqW:W.heap.size<=wg23.heap.size:=KT.size
    have KT:=KT.trans kk
    have hgq:¬wg23.heap.size=gr24:=by have:=HR.out.lt;omega
    have HR:=hid' (HR.out.kept kk)
    obtain⟨q32,hqq⟩:∃q,q=wg23.heap.size:=⟨_,rfl⟩
    rw[<-hqq]at hq hqW hgq ⊢
    generalize wg23.alloc (.cells #[.string ⟨#[]⟩,.slice none 0 0,.string ⟨#[]⟩,.int .i64 0,.int .i64 0,.int .i64 0,.slice none 0 0,.slice none 0 0] 110)=WQ31 at KT hq hHeld HR ⊢
    have HQ:=hid' hq
    clear hq hqq kk
    refine rdy 2 fun K hK=>?_
    go_simp
    refine hK.out _ _ (sS.out _ (KT.alloc _)) (fun hHeld=>?_)
    clear hK K
    have HBc:(WQ31.alloc (.cells #[.int .u8 k] 5)).cell? ⟨WQ31.heap.size,0,none⟩=some (.int .u8 k):=by simp
    have hgl:WQ31.heap.size<(WQ31.alloc (.cells #[.int .u8 k] 5)).heap.size:=by simp
    have kk:=(Kept.refl WQ31).alloc (.cells #[.int .u8 k] 5)
    have KT:=KT.trans kk
    have HR:=hid' (HR.out.kept kk)
    have HQ:=hid' (HQ.out.kept kk)
    obtain⟨gb34,hgb⟩:∃q,q=WQ31.heap.size:=⟨_,rfl⟩
    rw[<-hgb]at HBc hgl ⊢
    generalize WQ31.alloc (.cells #[.int .u8 k] 5)=WB33 at KT HBc hgl hHeld HR HQ ⊢
    clear hgb kk
    refine rdy 3 fun K hK=>?_
    have hcv:=run_convert_bytes_arg (P:=Tryz.prog) WB33 107 5 Tryz.underlying107 Tryz.underlying5 gb34 0 1 1 [k] rfl (fun j hj=>by
     obtain rfl:j=0:=by omega
     exact HBc) 9 Tryz.underlying9
    rw[str_one]at hcv
    go_simp
    refine hK.out _ _ (sS.out _ KT) (fun hHeld=>?_)
    clear hK K hcv HBc hgl
    refine tk 12 hHeld ?_
    have d0:=HQ.out.cell 0 (.string ⟨#[]⟩)
    have d1:=HQ.out.cell 1 (.slice none 0 0)
    have d2:=HQ.out.cell 2 (.string ⟨#[]⟩)
    have d3:=HQ.out.cell 3 (.int .i64 0)
    have d4:=HQ.out.cell 4 (.int .i64 0)
    have d5:=HQ.out.cell 5 (.int .i64 0)
    have d6:=HQ.out.cell 6 (.slice none 0 0)
    have d7:=HQ.out.cell 7 (.slice none 0 0)
    have zd:=HQ.out.fz
    have HF:=hid' (And.intro ((((((((KT.setCell (p:=⟨q32,0,none⟩) hqW (.string ⟨#[k.toNat.toUInt8]⟩)).setCell (p:=⟨q32,1,none⟩) hqW (.slice (some ⟨gr24,0,none⟩) nn nn)).setCell (p:=⟨q32,2,none⟩) hqW (.string ⟨#[]⟩)).setCell (p:=⟨q32,3,none⟩) hqW (.int .i64 vm)).setCell (p:=⟨q32,4,none⟩) hqW (.int .i64 vx)).setCell (p:=⟨q32,5,none⟩) hqW (.int .i64 wk)).setCell (p:=⟨q32,6,none⟩) hqW (.slice av nv cv)).setCell (p:=⟨q32,7,none⟩) hqW (.slice ai ni ci)) (And.intro ((((((((HQ.out.set 0 (.string ⟨#[k.toNat.toUInt8]⟩)).set 1 (.slice (some ⟨gr24,0,none⟩) nn nn)).set 2 (.string ⟨#[]⟩)).set 3 (.int .i64 vm)).set 4 (.int .i64 vx)).set 5 (.int .i64 wk)).set 6 (.slice av nv cv)).set 7 (.slice ai ni ci)) ((((((((HR.out.far (fun e=>hgq e.symm) 0 (.string ⟨#[k.toNat.toUInt8]⟩)).far (fun e=>hgq e.symm) 1 (.slice (some ⟨gr24,0,none⟩) nn nn)).far (fun e=>hgq e.symm) 2 (.string ⟨#[]⟩)).far (fun e=>hgq e.symm) 3 (.int .i64 vm)).far (fun e=>hgq e.symm) 4 (.int .i64 vx)).far (fun e=>hgq e.symm) 5 (.int .i64 wk)).far (fun e=>hgq e.symm) 6 (.slice av nv cv)).far (fun e=>hgq e.symm) 7 (.slice ai ni ci))))
    refine rdy 14 fun K hK=>?_
    go_simp
    refine hK.out _ _ (by
     have hz:=sS.out _ (show Kept W _ from((((((((KT.setCell (p:=⟨q32,0,none⟩) hqW (.string ⟨#[k.toNat.toUInt8]⟩)).setCell (p:=⟨q32,1,none⟩) hqW (.slice (some ⟨gr24,0,none⟩) nn nn)).setCell (p:=⟨q32,2,none⟩) hqW (.string ⟨#[]⟩)).setCell (p:=⟨q32,3,none⟩) hqW (.int .i64 vm)).setCell (p:=⟨q32,4,none⟩) hqW (.int .i64 vx)).setCell (p:=⟨q32,5,none⟩) hqW (.int .i64 wk)).setCell (p:=⟨q32,6,none⟩) hqW (.slice av nv cv)).setCell (p:=⟨q32,7,none⟩) hqW (.slice ai ni ci)))
     exact hz) (fun hHeld=>?_)
    clear hK K
    refine _root_.Go.Proofs.YtdjhmgmjiglcbaaGreatDoor.dn ?_
    go_wp2_with fail
    go_meet
    case rel=>exact⟨q32,gr24,rfl,HF.out.1,HF.out.2.1,HF.out.2.2,hqW,hgW⟩
  ·go_simp
   refine hK.out _ _ (sS.out _ (KT.alloc _)) (fun hHeld=>?_)
   clear hK K
   have hq:=RowL.alloc 110 Wd [.string ⟨#[]⟩,.slice none 0 0,.string ⟨#[]⟩,.int .i64 0,.int .i64 0,.int .i64 0,.slice none 0 0,.slice none 0 0]
   have kk:=(Kept.refl Wd).alloc (.cells #[.string ⟨#[]⟩,.slice none 0 0,.string ⟨#[]⟩,.int .i64 0,.int .i64 0,.int .i64 0,.slice none 0 0,.slice none 0 0] 110)
   have hqW:W.heap.size<=Wd.heap.size:=KT.size
   have KT:=KT.trans kk
   obtain⟨q36,hqq⟩:∃q,q=Wd.heap.size:=⟨_,rfl⟩
   rw[<-hqq]at hq hqW  ⊢
   generalize Wd.alloc (.cells #[.string ⟨#[]⟩,.slice none 0 0,.string ⟨#[]⟩,.int .i64 0,.int .i64 0,.int .i64 0,.slice none 0 0,.slice none 0 0] 110)=WQ35 at KT hq hHeld  ⊢
   have HQ:=hid' hq
   clear hq hqq kk
   refine wpAnyH_ready (rs:=[2,7]) (by kernel_rfl) (by simp) ?_
   refine(AllReadyH.cons rfl (fun K hK=>?_) (AllReadyH.cons rfl (fun K hK=>?_) AllReadyH.nil))
   ·go_simp
    refine hK.out _ _ (sS.out _ (KT.alloc _)) (fun hHeld=>?_)
    clear hK K
    have HBc:(WQ35.alloc (.cells #[.int .u8 k] 5)).cell? ⟨WQ35.heap.size,0,none⟩=some (.int .u8 k):=by simp
    have hgl:WQ35.heap.size<(WQ35.alloc (.cells #[.int .u8 k] 5)).heap.size:=by simp
    have kk:=(Kept.refl WQ35).alloc (.cells #[.int .u8 k] 5)
    have KT:=KT.trans kk
    have HQ:=hid' (HQ.out.kept kk)
    obtain⟨gb38,hgb⟩:∃q,q=WQ35.heap.size:=⟨_,rfl⟩
    rw[<-hgb]at HBc hgl ⊢
    generalize WQ35.alloc (.cells #[.int .u8 k] 5)=WB37 at KT HBc hgl hHeld HQ ⊢
    clear hgb kk
    refine wpAnyH_ready (rs:=[3,7]) (by kernel_rfl) (by simp) ?_
    refine(AllReadyH.cons rfl (fun K hK=>?_) (AllReadyH.cons rfl (fun K hK=>?_) AllReadyH.nil))
    ·have hcv:=run_convert_bytes_arg (P:=Tryz.prog) WB37 107 5 Tryz.underlying107 Tryz.underlying5 gb38 0 1 1 [k] rfl (fun j hj=>by
      obtain rfl:j=0:=by omega
      exact HBc) 9 Tryz.underlying9
     rw[str_one]at hcv
     go_simp
     refine hK.out _ _ (sS.out _ KT) (fun hHeld=>?_)
     clear hK K hcv HBc hgl
     refine rdy 7 fun K hK=>?_
     go_simp
     refine(HGR.out _).mono ?_
     rintro e wg39 ⟨hkg,gr40,rfl,hr,hgs⟩
     have hgq:¬q36=gr40:=by have:=HQ.out.lt;omega
     have HQ:=hid' (HQ.out.kept hkg)
     have HR:=hid' hr
     have hgW:W.heap.size<=gr40:=Nat.le_trans KT.size hgs
     have KT:=KT.trans hkg
     refine hK.out _ _ (sS.out _ KT) (fun hHeld=>?_)
     clear hK K hkg hr hgs
     refine tk 12 hHeld ?_
     have d0:=HQ.out.cell 0 (.string ⟨#[]⟩)
     have d1:=HQ.out.cell 1 (.slice none 0 0)
     have d2:=HQ.out.cell 2 (.string ⟨#[]⟩)
     have d3:=HQ.out.cell 3 (.int .i64 0)
     have d4:=HQ.out.cell 4 (.int .i64 0)
     have d5:=HQ.out.cell 5 (.int .i64 0)
     have d6:=HQ.out.cell 6 (.slice none 0 0)
     have d7:=HQ.out.cell 7 (.slice none 0 0)
     have zd:=HQ.out.fz
     have HF:=hid' (And.intro ((((((((KT.setCell (p:=⟨q36,0,none⟩) hqW (.string ⟨#[k.toNat.toUInt8]⟩)).setCell (p:=⟨q36,1,none⟩) hqW (.slice (some ⟨gr40,0,none⟩) nn nn)).setCell (p:=⟨q36,2,none⟩) hqW (.string ⟨#[]⟩)).setCell (p:=⟨q36,3,none⟩) hqW (.int .i64 vm)).setCell (p:=⟨q36,4,none⟩) hqW (.int .i64 vx)).setCell (p:=⟨q36,5,none⟩) hqW (.int .i64 wk)).setCell (p:=⟨q36,6,none⟩) hqW (.slice av nv cv)).setCell (p:=⟨q36,7,none⟩) hqW (.slice ai ni ci)) (And.intro ((((((((HQ.out.set 0 (.string ⟨#[k.toNat.toUInt8]⟩)).set 1 (.slice (some ⟨gr40,0,none⟩) nn nn)).set 2 (.string ⟨#[]⟩)).set 3 (.int .i64 vm)).set 4 (.int .i64 vx)).set 5 (.int .i64 wk)).set 6 (.slice av nv cv)).set 7 (.slice ai ni ci)) ((((((((HR.out.far (fun e=>hgq e.symm) 0 (.string ⟨#[k.toNat.toUInt8]⟩)).far (fun e=>hgq e.symm) 1 (.slice (some ⟨gr40,0,none⟩) nn nn)).far (fun e=>hgq e.symm) 2 (.string ⟨#[]⟩)).far (fun e=>hgq e.symm) 3 (.int .i64 vm)).far (fun e=>hgq e.symm) 4 (.int .i64 vx)).far (fun e=>hgq e.symm) 5 (.int .i64 wk)).far (fun e=>hgq e.symm) 6 (.slice av nv cv)).far (fun e=>hgq e.symm) 7 (.slice ai ni ci))))
     refine rdy 14 fun K hK=>?_
     go_simp
     refine hK.out _ _ (by
      have hz:=sS.out _ (show Kept W _ from((((((((KT.setCell (p:=⟨q36,0,none⟩) hqW (.string ⟨#[k.toNat.toUInt8]⟩)).setCell (p:=⟨q36,1,none⟩) hqW (.slice (some ⟨gr40,0,none⟩) nn nn)).setCell (p:=⟨q36,2,none⟩) hqW (.string ⟨#[]⟩)).setCell (p:=⟨q36,3,none⟩) hqW (.int .i64 vm)).setCell (p:=⟨q36,4,none⟩) hqW (.int .i64 vx)).setCell (p:=⟨q36,5,none⟩) hqW (.int .i64 wk)).setCell (p:=⟨q36,6,none⟩) hqW (.slice av nv cv)).setCell (p:=⟨q36,7,none⟩) hqW (.slice ai ni ci)))
      exact hz) (fun hHeld=>?_)
     clear hK K
     refine _root_.Go.Proofs.YtdjhmgmjiglcbaaGreatDoor.dn ?_
     go_wp2_with fail
     go_meet
     case rel=>exact⟨q36,gr40,rfl,HF.out.1,HF.out.2.1,HF.out.2.2,hqW,hgW⟩
    ·go_simp
     refine(HGR.out _).mono ?_
     rintro e wg41 ⟨hkg,gr42,rfl,hr,hgs⟩
     have HBc:=(Below.cell hkg (p:=⟨gb38,0,none⟩) hgl).trans HBc
     have hgl:=Nat.lt_of_lt_of_le hgl hkg.size
     have hgq:¬q36=gr42:=by have:=HQ.out.lt;omega
     have HQ:=hid' (HQ.out.kept hkg)
     have HR:=hid' hr
     have hgW:W.heap.size<=gr42:=Nat.le_trans KT.size hgs
     have KT:=KT.trans hkg
     refine hK.out _ _ (sS.out _ KT) (fun hHeld=>?_)
     clear hK K hkg hr hgs
     refine rdy 3 fun K hK=>?_
     have hcv:=run_convert_bytes_arg (P:=Tryz.prog) wg41 107 5 Tryz.underlying107 Tryz.underlying5 gb38 0 1 1 [k] rfl (fun j hj=>by
      obtain rfl:j=0:=by omega
      exact HBc) 9 Tryz.underlying9
     rw[str_one]at hcv
     go_simp
     refine hK.out _ _ (sS.out _ KT) (fun hHeld=>?_)
     clear hK K hcv HBc hgl
     refine tk 12 hHeld ?_
     have d0:=HQ.out.cell 0 (.string ⟨#[]⟩)
     have d1:=HQ.out.cell 1 (.slice none 0 0)
     have d2:=HQ.out.cell 2 (.string ⟨#[]⟩)
     have d3:=HQ.out.cell 3 (.int .i64 0)
     have d4:=HQ.out.cell 4 (.int .i64 0)
     have d5:=HQ.out.cell 5 (.int .i64 0)
     have d6:=HQ.out.cell 6 (.slice none 0 0)
     have d7:=HQ.out.cell 7 (.slice none 0 0)
     have zd:=HQ.out.fz
     have HF:=hid' (And.intro ((((((((KT.setCell (p:=⟨q36,0,none⟩) hqW (.string ⟨#[k.toNat.toUInt8]⟩)).setCell (p:=⟨q36,1,none⟩) hqW (.slice (some ⟨gr42,0,none⟩) nn nn)).setCell (p:=⟨q36,2,none⟩) hqW (.string ⟨#[]⟩)).setCell (p:=⟨q36,3,none⟩) hqW (.int .i64 vm)).setCell (p:=⟨q36,4,none⟩) hqW (.int .i64 vx)).setCell (p:=⟨q36,5,none⟩) hqW (.int .i64 wk)).setCell (p:=⟨q36,6,none⟩) hqW (.slice av nv cv)).setCell (p:=⟨q36,7,none⟩) hqW (.slice ai ni ci)) (And.intro ((((((((HQ.out.set 0 (.string ⟨#[k.toNat.toUInt8]⟩)).set 1 (.slice (some ⟨gr42,0,none⟩) nn nn)).set 2 (.string ⟨#[]⟩)).set 3 (.int .i64 vm)).set 4 (.int .i64 vx)).set 5 (.int .i64 wk)).set 6 (.slice av nv cv)).set 7 (.slice ai ni ci)) ((((((((HR.out.far (fun e=>hgq e.symm) 0 (.string ⟨#[k.toNat.toUInt8]⟩)).far (fun e=>hgq e.symm) 1 (.slice (some ⟨gr42,0,none⟩) nn nn)).far (fun e=>hgq e.symm) 2 (.string ⟨#[]⟩)).far (fun e=>hgq e.symm) 3 (.int .i64 vm)).far (fun e=>hgq e.symm) 4 (.int .i64 vx)).far (fun e=>hgq e.symm) 5 (.int .i64 wk)).far (fun e=>hgq e.symm) 6 (.slice av nv cv)).far (fun e=>hgq e.symm) 7 (.slice ai ni ci))))
     refine rdy 14 fun K hK=>?_
     go_simp
     refine hK.out _ _ (by
      have hz:=sS.out _ (show Kept W _ from((((((((KT.setCell (p:=⟨q36,0,none⟩) hqW (.string ⟨#[k.toNat.toUInt8]⟩)).setCell (p:=⟨q36,1,none⟩) hqW (.slice (some ⟨gr42,0,none⟩) nn nn)).setCell (p:=⟨q36,2,none⟩) hqW (.string ⟨#[]⟩)).setCell (p:=⟨q36,3,none⟩) hqW (.int .i64 vm)).setCell (p:=⟨q36,4,none⟩) hqW (.int .i64 vx)).setCell (p:=⟨q36,5,none⟩) hqW (.int .i64 wk)).setCell (p:=⟨q36,6,none⟩) hqW (.slice av nv cv)).setCell (p:=⟨q36,7,none⟩) hqW (.slice ai ni ci)))
      exact hz) (fun hHeld=>?_)
     clear hK K
     refine _root_.Go.Proofs.YtdjhmgmjiglcbaaGreatDoor.dn ?_
     go_wp2_with fail
     go_meet
     case rel=>exact⟨q36,gr42,rfl,HF.out.1,HF.out.2.1,HF.out.2.2,hqW,hgW⟩
   ·go_simp
    refine(HGR.out _).mono ?_
    rintro e wg43 ⟨hkg,gr44,rfl,hr,hgs⟩
    have hgq:¬q36=gr44:=by have:=HQ.out.lt;omega
    have HQ:=hid' (HQ.out.kept hkg)
    have HR:=hid' hr
    have hgW:W.heap.size<=gr44:=Nat.le_trans KT.size hgs
    have KT:=KT.trans hkg
    refine hK.out _ _ (sS.out _ KT) (fun hHeld=>?_)
    clear hK K hkg hr hgs
    refine rdy 2 fun K hK=>?_
    go_simp
    refine hK.out _ _ (sS.out _ (KT.alloc _)) (fun hHeld=>?_)
    clear hK K
    have HBc:(wg43.alloc (.cells #[.int .u8 k] 5)).cell? ⟨wg43.heap.size,0,none⟩=some (.int .u8 k):=by simp
    have hgl:wg43.heap.size<(wg43.alloc (.cells #[.int .u8 k] 5)).heap.size:=by simp
    have kk:=(Kept.refl wg43).alloc (.cells #[.int .u8 k] 5)
    have KT:=KT.trans kk
    have HR:=hid' (HR.out.kept kk)
    have HQ:=hid' (HQ.out.kept kk)
    obtain⟨gb46,hgb⟩:∃q,q=wg43.heap.size:=⟨_,rfl⟩
    rw[<-hgb]at HBc hgl ⊢
    generalize wg43.alloc (.cells #[.int .u8 k] 5)=WB45 at KT HBc hgl hHeld HR HQ ⊢
    clear hgb kk
    refine rdy 3 fun K hK=>?_
    have hcv:=run_convert_bytes_arg (P:=Tryz.prog) WB45 107 5 Tryz.underlying107 Tryz.underlying5 gb46 0 1 1 [k] rfl (fun j hj=>by
     obtain rfl:j=0:=by omega
     exact HBc) 9 Tryz.underlying9
    rw[str_one]at hcv
    go_simp
    refine hK.out _ _ (sS.out _ KT) (fun hHeld=>?_)
    clear hK K hcv HBc hgl
    refine tk 12 hHeld ?_
    have d0:=HQ.out.cell 0 (.string ⟨#[]⟩)
    have d1:=HQ.out.cell 1 (.slice none 0 0)
    have d2:=HQ.out.cell 2 (.string ⟨#[]⟩)
    have d3:=HQ.out.cell 3 (.int .i64 0)
    have d4:=HQ.out.cell 4 (.int .i64 0)
    have d5:=HQ.out.cell 5 (.int .i64 0)
    have d6:=HQ.out.cell 6 (.slice none 0 0)
    have d7:=HQ.out.cell 7 (.slice none 0 0)
    have zd:=HQ.out.fz
    have HF:=hid' (And.intro ((((((((KT.setCell (p:=⟨q36,0,none⟩) hqW (.string ⟨#[k.toNat.toUInt8]⟩)).setCell (p:=⟨q36,1,none⟩) hqW (.slice (some ⟨gr44,0,none⟩) nn nn)).setCell (p:=⟨q36,2,none⟩) hqW (.string ⟨#[]⟩)).setCell (p:=⟨q36,3,none⟩) hqW (.int .i64 vm)).setCell (p:=⟨q36,4,none⟩) hqW (.int .i64 vx)).setCell (p:=⟨q36,5,none⟩) hqW (.int .i64 wk)).setCell (p:=⟨q36,6,none⟩) hqW (.slice av nv cv)).setCell (p:=⟨q36,7,none⟩) hqW (.slice ai ni ci)) (And.intro ((((((((HQ.out.set 0 (.string ⟨#[k.toNat.toUInt8]⟩)).set 1 (.slice (some ⟨gr44,0,none⟩) nn nn)).set 2 (.string ⟨#[]⟩)).set 3 (.int .i64 vm)).set 4 (.int .i64 vx)).set 5 (.int .i64 wk)).set 6 (.slice av nv cv)).set 7 (.slice ai ni ci)) ((((((((HR.out.far (fun e=>hgq e.symm) 0 (.string ⟨#[k.toNat.toUInt8]⟩)).far (fun e=>hgq e.symm) 1 (.slice (some ⟨gr44,0,none⟩) nn nn)).far (fun e=>hgq e.symm) 2 (.string ⟨#[]⟩)).far (fun e=>hgq e.symm) 3 (.int .i64 vm)).far (fun e=>hgq e.symm) 4 (.int .i64 vx)).far (fun e=>hgq e.symm) 5 (.int .i64 wk)).far (fun e=>hgq e.symm) 6 (.slice av nv cv)).far (fun e=>hgq e.symm) 7 (.slice ai ni ci))))
    refine rdy 14 fun K hK=>?_
    go_simp
    refine hK.out _ _ (by
     have hz:=sS.out _ (show Kept W _ from((((((((KT.setCell (p:=⟨q36,0,none⟩) hqW (.string ⟨#[k.toNat.toUInt8]⟩)).setCell (p:=⟨q36,1,none⟩) hqW (.slice (some ⟨gr44,0,none⟩) nn nn)).setCell (p:=⟨q36,2,none⟩) hqW (.string ⟨#[]⟩)).setCell (p:=⟨q36,3,none⟩) hqW (.int .i64 vm)).setCell (p:=⟨q36,4,none⟩) hqW (.int .i64 vx)).setCell (p:=⟨q36,5,none⟩) hqW (.int .i64 wk)).setCell (p:=⟨q36,6,none⟩) hqW (.slice av nv cv)).setCell (p:=⟨q36,7,none⟩) hqW (.slice ai ni ci)))
     exact hz) (fun hHeld=>?_)
    clear hK K
    refine _root_.Go.Proofs.YtdjhmgmjiglcbaaGreatDoor.dn ?_
    go_wp2_with fail
    go_meet
    case rel=>exact⟨q36,gr44,rfl,HF.out.1,HF.out.2.1,HF.out.2.2,hqW,hgW⟩
 case rest=>
  obtain⟨q,g,rfl,HC⟩:=hcut
  have HA:=hid' (HA.out.kept HC.out.1)
  have HB:=hid' (HB.out.kept HC.out.1)
  have HKw:=hid' (HK.out.trans HC.out.1)
  have HX:=hid' HC.out.2.1
  have HGr:=hid' HC.out.2.2.1
  have hpW:=HBW.out
  have hqW:=HC.out.2.2.2.1
  obtain⟨i0,hi,hz0,hz1,hz2⟩:=info_parts info_card
  have e0:=HA.out.cell 0 (.slice fa fn fc)
  have e1:=HA.out.cell 1 (.slice da dn dc)
  have e2:=HA.out.cell 2 (.int .i64 fm)
  have e3:=HA.out.cell 3 (.int .i64 fx)
  have e4:=HA.out.cell 4 (.int .i64 fk)
  go_wp2_with fail
  refine(bare_any fa fn fc da dn dc fm fx fk _).mono ?_
  rintro e w2 ⟨hk2,rfl⟩
  have HB:=hid' (HB.out.kept hk2)
  have HX:=hid' (HX.out.kept hk2)
  have HGr:=hid' (HGr.out.kept hk2)
  have HKw:=hid' (HKw.out.trans hk2)
  have hqc:=HX.out.lt
  have hgc:=HGr.out.lt
  have hwW:=HK.out.size
  clear hk2 e0 e1 e2 e3 e4 HC HA HK
  have kC:=(Kept.refl w2).alloc (.cells #[.int .i64 fm,.int .i64 fx,.int .i64 fk,.slice none 0 0,.slice none 0 0,.slice none 0 0] 92)
  have hC:=RowL.alloc 92 w2 [.int .i64 fm,.int .i64 fx,.int .i64 fk,.slice none 0 0,.slice none 0 0,.slice none 0 0]
  go_upto_region 3 with fail
  have HC6:=hid' (show w.heap.size<=w2.heap.size from HKw.out.size)
  have HB:=hid' (HB.out.kept kC)
  have HX:=hid' (HX.out.kept kC)
  have HGr:=hid' (HGr.out.kept kC)
  have HKw:=hid' (HKw.out.trans kC)
  generalize w2.alloc (.cells #[.int .i64 fm,.int .i64 fx,.int .i64 fk,.slice none 0 0,.slice none 0 0,.slice none 0 0] 92)=W3 at HB HX HGr HKw hC ⊢
  obtain⟨c6,hc6⟩:∃q,q=w2.heap.size:=⟨_,rfl⟩
  rw[<-hc6]at hC hqc hgc HC6 ⊢
  have HCi:=hid' hC
  clear hc6 kC hC
  have hpq1:¬p3=q:=by omega
  have hpq2:¬q=p3:=by omega
  have hqc1:¬q=c6:=by omega
  have hqc2:¬c6=q:=by omega
  have hpc1:¬p3=c6:=by omega
  have hpc2:¬c6=p3:=by omega
  have hgc6:¬g=c6:=by omega
  have hgq:¬g=q:=rowL_ne HGr.out HX.out (by decide)
  have hMo:=fun V=>hasModel_any k V
  have hRe:=fun V=>hasRef_any k V
  have f0:=HB.out.cell 0 (.int .u8 k)
  go_wp2_with fail
  refine(hMo _).mono ?_
  rintro e w4 ⟨rfl,rfl⟩
  cases hmv:hasMd k with
  |true=>
   have HMD:=hid' hmv
   clear hMo hRe hmv
   have f9:=HB.out.cell 9 (.string ms)
   have f10:=HB.out.cell 10 (.int .u8 mk)
   have f11:=HB.out.cell 11 (.slice a1 n1 c1)
   have f12:=HB.out.cell 12 (.slice a2 n2 c2)
   have x2:=HX.out.cell 2 (.string ⟨#[]⟩)
   have xz:=HX.out.fz
   have hq9:=HX.out.lt
   have hc9:=HCi.out.lt
   have y1:¬c6=w4.heap.size:=by omega
   have y2:¬w4.heap.size=c6:=by omega
   have y3:¬q=w4.heap.size:=by omega
   have y4:¬w4.heap.size=q:=by omega
   have hmw:w.heap.size<=w4.heap.size:=HKw.out.size
   have c3:=HCi.out.cell 3 (.slice none 0 0)
   have cz:=HCi.out.fz
   have HRL:=hid' (show md.name.length<=9223372036854775807 from HSZ.out.1.1)
   have HBS:=hid' (show X.bs md.name=ms by rw[HMDE.out];rfl)
   have kM:=(Kept.refl ((w4.setCell ⟨q,2,none⟩ (.string ms)).setCell ⟨c6,3,none⟩ (.slice (some ⟨w4.heap.size,0,none⟩) 1 1))).alloc (.cells #[.string ms,.int .u8 mk,.slice a1 n1 c1,.slice a2 n2 c2] 46)
   have hM:=(RowL.alloc 46 ((w4.setCell ⟨q,2,none⟩ (.string ms)).setCell ⟨c6,3,none⟩ (.slice (some ⟨w4.heap.size,0,none⟩) 1 1)) [.string ms,.int .u8 mk,.slice a1 n1 c1,.slice a2 n2 c2])
   rw[World.size_setCell,World.size_setCell]at hM
   have HMo:=hid' hM
   have HKw:=hid' (((HKw.out.setCell (p:=⟨q,2,none⟩) (Nat.le_trans hwW hqW) (.string ms)).setCell (p:=⟨c6,3,none⟩) HC6.out (.slice (some ⟨w4.heap.size,0,none⟩) 1 1)).trans kM)
   have HX:=hid' (((HX.out.set 2 (.string ms)).far (fun e=>hqc1 e) 3 (.slice (some ⟨w4.heap.size,0,none⟩) 1 1)).kept kM)
   have HGr:=hid' (((HGr.out.far (fun e=>hgq e) 2 (.string ms)).far (fun e=>hgc6 e) 3 (.slice (some ⟨w4.heap.size,0,none⟩) 1 1)).kept kM)
   have HCi:=hid' (((HCi.out.far (fun e=>hqc2 e) 2 (.string ms)).set 3 (.slice (some ⟨w4.heap.size,0,none⟩) 1 1)).kept kM)
   go_upto_region 9 with fail
   clear kM hM HB
   generalize ((w4.setCell ⟨q,2,none⟩ (.string ms)).setCell ⟨c6,3,none⟩ (.slice (some ⟨w4.heap.size,0,none⟩) 1 1)).alloc (.cells #[.string ms,.int .u8 mk,.slice a1 n1 c1,.slice a2 n2 c2] 46)=W5 at HMo HKw HX HGr HCi ⊢
   obtain⟨mb,hmb⟩:∃q,q=w4.heap.size:=⟨_,rfl⟩
   rw[<-hmb]at HMo HCi y2 hmw ⊢
   have HMoc:¬mb=c6:=y2
   clear f0 f9 f10 f11 f12 x2 xz c3 cz y1 y2 y3 y4 hmb hq9 hc9
   have x0:=HX.out.cell 0 (.string ⟨#[k.toNat.toUInt8]⟩)
   have x1:=HX.out.cell 1 (.slice (some ⟨g,0,none⟩) nn nn)
   have x2:=HX.out.cell 2 (.string ms)
   have x3:=HX.out.cell 3 (.int .i64 vm)
   have x4:=HX.out.cell 4 (.int .i64 vx)
   have x5:=HX.out.cell 5 (.int .i64 wk)
   have x6:=HX.out.cell 6 (.slice av nv cv)
   have x7:=HX.out.cell 7 (.slice ai ni ci)
   have c5:=HCi.out.cell 5 (.slice none 0 0)
   have KA:=(Kept.refl W5).alloc (.cells #[.string ⟨#[k.toNat.toUInt8]⟩,.slice (some ⟨g,0,none⟩) nn nn,.string ms,.int .i64 vm,.int .i64 vx,.int .i64 wk,.slice av nv cv,.slice ai ni ci] 110)
   have own0:(W5.alloc (.cells #[.string ⟨#[k.toNat.toUInt8]⟩,.slice (some ⟨g,0,none⟩) nn nn,.string ms,.int .i64 vm,.int .i64 vx,.int .i64 wk,.slice av nv cv,.slice ai ni ci] 110)).ownsRow (c6+1) 110 8 (.slice none 0 0) 0 []:=World.ownsRow_nil _ _ _ _
   go_wp2_with (at_builtin;refine wpList_append_lies _ rfl (.tmp 46) (.tmp 48) 90 rfl (c6+1) 110 i0 (.agg #[.string ⟨#[]⟩,.slice none 0 0,.string ⟨#[]⟩,.int .i64 0,.int .i64 0,.int .i64 0,.slice none 0 0,.slice none 0 0]) 8 128 und_cards hi hz0 hz1 hz2 rfl (by decide) (.slice none 0 0) 0 [] rfl own0 ⟨W5.heap.size,0,none⟩ 1 1 [.string ⟨#[k.toNat.toUInt8]⟩,.slice (some ⟨g,0,none⟩) nn nn,.string ms,.int .i64 vm,.int .i64 vx,.int .i64 wk,.slice av nv cv,.slice ai ni ci] rfl rfl (cell_eight W5 _ _ _ _ _ _ _ _ _) (fun u hu=>by simp at hu;rcases hu with rfl|rfl|rfl|rfl|rfl|rfl|rfl|rfl <;> rfl) (by omega) (by unfold maxLen;omega) (by omega) (by have:=HCi.out.lt;simp;omega) _ rfl ?_)
   intro g4 cap4 W6 own4 hg4 hgg _
   have hcw:w.heap.size<=c6:=HC6.out
   have HKw:=hid' (show Kept w W6 from Below.grown (HKw.out.trans KA) hg4 (HKw.out.trans KA).size (fun k hk=>by have:=(own0.lt k hk).1;omega))
   have nc:=own_row own0 (HCi.out.kept KA) (by decide)
   have HCi:=hid' ((HCi.out.kept KA).block (hg4.block _ (HCi.out.kept KA).lt (fun e=>nc e.symm)))
   have ng:=own_row own0 (HGr.out.kept KA) (by decide)
   have HGr:=hid' ((HGr.out.kept KA).block (hg4.block _ (HGr.out.kept KA).lt (fun e=>ng e.symm)))
   have ng:=own_row own0 (HMo.out.kept KA) (by decide)
   have HMo:=hid' ((HMo.out.kept KA).block (hg4.block _ (HMo.out.kept KA).lt (fun e=>ng e.symm)))
   have n4:=own_row own4 HCi.out (by decide)
   have c5':=HCi.out.cell 5 (.slice none 0 0)
   have cz:=HCi.out.fz
   have HCi:=hid' (HCi.out.set 5 (.slice (some ⟨g4,0,none⟩) (0+1) cap4))
   have HKw:=hid' (HKw.out.setCell (p:=⟨c6,5,none⟩) hcw (.slice (some ⟨g4,0,none⟩) (0+1) cap4))
   have HGr:=hid' (HGr.out.far (fun e=>hgc6 e) 5 (.slice (some ⟨g4,0,none⟩) (0+1) cap4))
   have HMo:=hid' (HMo.out.far (fun e=>HMoc e) 5 (.slice (some ⟨g4,0,none⟩) (0+1) cap4))
   have HO:=hid' (show (W6.setCell ⟨c6,5,none⟩ (.slice (some ⟨g4,0,none⟩) (0+1) cap4)).ownsRow (c6+1) 110 8 (.slice (some ⟨g4,0,none⟩) (0+1) cap4) (0+1) _ from own_kept own4 (fun b hb=>Deep.blk_setCell_other _ ⟨c6,5,none⟩ _ b (by intro e;exact n4 (by rw[hb];exact congrArg some e))))
   have hcap:=own_cap8 HO.out
   clear own4 hg4 hgg own0 KA nc ng n4 c5 x0 x1 x2 x3 x4 x5 x6 x7
   go_upto_region 10 with fail
   generalize W6.setCell ⟨c6,5,none⟩ (.slice (some ⟨g4,0,none⟩) (0+1) cap4)=W7 at HKw HCi HGr HO HMo ⊢
   clear c5' cz
   have hC:Ci.ok W7 ⟨fm,fx,fk,[⟨md,a1,c1,a2,c2⟩],some ⟨mb,0,none⟩,1,[],none,0,[⟨⟨[k.toNat.toUInt8],gnd,md.name,(vm,vx),wk,wvl,wsl⟩,some ⟨g,0,none⟩,nn,av,cv,ai,ci⟩],some ⟨g4,0,none⟩,cap4⟩:=by
    refine⟨⟨by have h9:=rows_one HMo.out;rw[HMDE.out];show RowsR 4 W7 _ [[.string ms,.int .u8 mk,.slice a1 gs.length c1,.slice a2 vs.length c2]];rw[<-HNN.out.2.2.2.1,<-HNN.out.2.2.2.2];exact h9,fun e he=>by obtain rfl:=List.mem_singleton.1 he;rw[HMDE.out];exact⟨by show NSl W7 (.slice a1 gs.length c1) gs;rw[<-HNN.out.2.2.2.1];exact HAR.out.2.2.1.kept HKw.out,by show NSl W7 (.slice a2 vs.length c2) vs;rw[<-HNN.out.2.2.2.2];exact HAR.out.2.2.2.kept HKw.out⟩⟩,⟨⟨none,0,rfl,fun h=>absurd h (Nat.lt_irrefl 0)⟩,fun e h=>(by cases h)⟩,⟨?_,?_⟩⟩
    ·refine own_cards (B:=c6+1) ?_ rfl (fun x hx=>(cells_c _ x hx).len)
     show W7.ownsRow (c6+1) 110 8 (.slice (some ⟨g4,0,none⟩) (0+1) cap4) (0+1) [.string ⟨#[k.toNat.toUInt8]⟩,.slice (some ⟨g,0,none⟩) gnd.length nn,.string (X.bs md.name),.int .i64 vm,.int .i64 vx,.int .i64 wk,.slice av wvl.length cv,.slice ai wsl.length ci]
     rw[HBS.out,<-HNN.out.1,<-HNN.out.2.1,<-HNN.out.2.2.1]
     exact HO.out
    ·intro e he
     obtain rfl:=List.mem_singleton.1 he
     exact⟨by show RS W7 (.slice (some ⟨g,0,none⟩) gnd.length nn) gnd;rw[<-HNN.out.2.2.1];exact HRS.out _ _ HGr.out,by have:=HAR.out.1.kept HKw.out;rw[HNN.out.1]at this;exact this,by have:=HAR.out.2.1.kept HKw.out;rw[HNN.out.2.1]at this;exact this⟩
   have hZ:Ci.sz ⟨fm,fx,fk,[⟨md,a1,c1,a2,c2⟩],some ⟨mb,0,none⟩,1,[],none,0,[⟨⟨[k.toNat.toUInt8],gnd,md.name,(vm,vx),wk,wvl,wsl⟩,some ⟨g,0,none⟩,nn,av,cv,ai,ci⟩],some ⟨g4,0,none⟩,cap4⟩:=⟨⟨Nat.le_refl _,(by decide:(1:Nat)<=_)⟩,fun e he=>(by first|(cases he;done)|(obtain rfl:=List.mem_singleton.1 he;exact HSZ.out.1)),⟨Nat.le_refl _,Nat.zero_le _⟩,fun e he=>(by cases he),Nat.zero_le _,⟨hcap.1,hcap.2,fun e he=>(by first|(obtain rfl:=List.mem_singleton.1 he;exact HSZ.out.2 _ HRL.out _)|(rcases List.mem_cons.1 he with rfl|he;exact vCd_sz _ _ _ _ _ _;obtain rfl:=List.mem_singleton.1 he;exact HSZ.out.2 _ HRL.out _))⟩⟩
   have hCk:=ncheck_any _ W7 (HLE.out.1.kept HKw.out) (HLE.out.2.1.kept HKw.out) (HLE.out.2.2.kept HKw.out) hC hZ
   have HER:=hid' (show Ci.er ⟨fm,fx,fk,[⟨md,a1,c1,a2,c2⟩],some ⟨mb,0,none⟩,1,[],none,0,[⟨⟨[k.toNat.toUInt8],gnd,md.name,(vm,vx),wk,wvl,wsl⟩,some ⟨g,0,none⟩,nn,av,cv,ai,ci⟩],some ⟨g4,0,none⟩,cap4⟩=aloneC fm fx fk gnd k vm vx wk wvl wsl md by unfold aloneC;rw[HMD.out];rfl)
   obtain⟨cc,hcc⟩:∃c:Ci,c=⟨fm,fx,fk,[⟨md,a1,c1,a2,c2⟩],some ⟨mb,0,none⟩,1,[],none,0,[⟨⟨[k.toNat.toUInt8],gnd,md.name,(vm,vx),wk,wvl,wsl⟩,some ⟨g,0,none⟩,nn,av,cv,ai,ci⟩],some ⟨g4,0,none⟩,cap4⟩:=⟨_,rfl⟩
   have hCk2:Calls Tryz.prog 54 #[.agg #[.int .i64 fm,.int .i64 fx,.int .i64 fk,.slice (some ⟨mb,0,none⟩) 1 1,.slice none 0 0,.slice (some ⟨g4,0,none⟩) (0+1) cap4]] W7 fun r w'=>Kept W7 w'/\r=.returned (.int .i64 (chkC cc)):=by rw[hcc];exact hCk
   rw[<-hcc]at HER
   obtain⟨z,hz⟩:∃z,z=chkC cc:=⟨_,rfl⟩
   rw[<-hz]at hCk2
   have HZZ:=hid' hz
   clear hC hZ hCk hcc hz
   have d0:=HCi.out.cell 0 (.int .i64 fm)
   have d1:=HCi.out.cell 1 (.int .i64 fx)
   have d2:=HCi.out.cell 2 (.int .i64 fk)
   have d3:=HCi.out.cell 3 (.slice (some ⟨mb,0,none⟩) 1 1)
   have d4:=HCi.out.cell 4 (.slice none 0 0)
   have d5:=HCi.out.cell 5 (.slice (some ⟨g4,0,none⟩) (0+1) cap4)
   go_wp2_with fail
   refine hCk2.mono ?_
   rintro e w9 ⟨hk9,rfl⟩
   have HKw:=hid' (HKw.out.trans hk9)
   clear hk9 hCk2
   go_wp2_with fail
   go_ret
   exact⟨HKw.out,cc,HER.out,by rw[<-HZZ.out];rfl⟩
  |false=>
   have HMD:=hid' hmv
   clear hMo hmv
   go_wp2_with fail
   refine(hRe _).mono ?_
   rintro e w5 ⟨rfl,rfl⟩
   cases hrv:hasRf k with
   |true=>
    have HRF:=hid' hrv
    clear hRe hrv
    have x2:=HX.out.cell 2 (.string ⟨#[]⟩)
    have xz:=HX.out.fz
    have HRL:=hid' (show ([118]:List UInt8).length<=9223372036854775807 by decide)
    have HKw:=hid' (HKw.out.setCell (p:=⟨q,2,none⟩) (Nat.le_trans hwW hqW) (.string ⟨#[118]⟩))
    have HX:=hid' (HX.out.set 2 (.string ⟨#[118]⟩))
    have HGr:=hid' (HGr.out.far (fun e=>hgq e) 2 (.string ⟨#[118]⟩))
    have HCi:=hid' (HCi.out.far (fun e=>hqc2 e) 2 (.string ⟨#[118]⟩))
    go_upto_region 8 with fail
    generalize w5.setCell ⟨q,2,none⟩ (.string ⟨#[118]⟩)=W5 at HKw HX HGr HCi ⊢
    clear x2 xz f0 HB
    have hmk:=fun V=>make_one V
    have HG2:=hid' (fun V=>grounds_2 V)
    have KT:Kept W5 W5.drew:=(Kept.refl _).drew
    refine wp_region_held_drew (S:=fun w'=>True) (by kernel_rfl) trivial (fun hHeld=>?_)
    generalize W5.drew=Wd at KT hHeld ⊢
    refine wpAnyH_ready (rs:=[0,1]) (by kernel_rfl) (by simp) ?_
    refine(AllReadyH.cons rfl (fun K hK=>?_) (AllReadyH.cons rfl (fun K hK=>?_) AllReadyH.nil))
    ·go_simp
     refine(HG2.out _).mono ?_
     rintro e wg ⟨hkg,g2,rfl,hr,hgs⟩
     have HR:=hid' hr
     have hgW:W5.heap.size<=g2:=Nat.le_trans KT.size hgs
     have KT:=KT.trans hkg
     refine hK.out _ _ trivial (fun hHeld=>?_)
     clear hK K hkg hr hgs
     refine rdy 1 fun K hK=>?_
     go_simp
     refine hK.out _ _ trivial (fun hHeld=>?_)
     clear hK K
     have hn:=RowL.alloc 25 wg [.int .i64 0,.int .i64 0]
     have kk:=(Kept.refl wg).alloc (.cells #[.int .i64 0,.int .i64 0] 25)
     have hnW:W5.heap.size<=wg.heap.size:=KT.size
     have KT:=KT.trans kk
     have HR:=hid' (HR.out.kept kk)
     obtain⟨nb,hnb⟩:∃q,q=wg.heap.size:=⟨_,rfl⟩
     rw[<-hnb]at hn hnW ⊢
     generalize wg.alloc (.cells #[.int .i64 0,.int .i64 0] 25)=Wn at KT hn hHeld HR ⊢
     have HNb:=hid' hn
     clear hn hnb kk
     refine tk 2 hHeld ?_
     refine tk 3 hHeld ?_
     refine rdy 4 fun K hK=>?_
     go_simp
     refine hK.out _ _ trivial (fun hHeld=>?_)
     clear hK K
     have hc0:=HCi.out.lt
     have hcv:c6+1<=Wn.heap.size:=Nat.le_trans hc0 KT.size
     have own1:=World.ownsRow_lit (base:=c6+1) (e:=110) (size:=8) Wn #[.string ⟨#[118]⟩,.slice (some ⟨g2,0,none⟩) 2 2,.string ⟨#[]⟩,.int .i64 0,.int .i64 0,.int .i64 1,.slice (some ⟨nb,0,none⟩) 1 1,.slice none 0 0] 1 hcv (by unfold maxLen;omega) rfl
     have kk:=(Kept.refl Wn).alloc (.cells #[.string ⟨#[118]⟩,.slice (some ⟨g2,0,none⟩) 2 2,.string ⟨#[]⟩,.int .i64 0,.int .i64 0,.int .i64 1,.slice (some ⟨nb,0,none⟩) 1 1,.slice none 0 0] 110)
     have KT:=KT.trans kk
     have HR:=hid' (HR.out.kept kk)
     have HNb:=hid' (HNb.out.kept kk)
     obtain⟨vb,hvb⟩:∃q,q=Wn.heap.size:=⟨_,rfl⟩
     rw[<-hvb]at own1 hcv ⊢
     generalize Wn.alloc (.cells #[.string ⟨#[118]⟩,.slice (some ⟨g2,0,none⟩) 2 2,.string ⟨#[]⟩,.int .i64 0,.int .i64 0,.int .i64 1,.slice (some ⟨nb,0,none⟩) 1 1,.slice none 0 0] 110)=W8 at KT own1 hHeld HR HNb ⊢
     clear hvb kk
     refine tk 5 hHeld ?_
     have HKw:=hid' (HKw.out.trans KT)
     have HX:=hid' (HX.out.kept KT)
     have HGr:=hid' (HGr.out.kept KT)
     have HCi:=hid' (HCi.out.kept KT)
     have HRc:¬g2=c6:=by omega
     have HNbc:¬nb=c6:=by omega
     have hvc:¬vb=c6:=by omega
     have c5:=HCi.out.cell 5 (.slice none 0 0)
     have cz:=HCi.out.fz
     have HKw:=hid' (HKw.out.setCell (p:=⟨c6,5,none⟩) HC6.out (.slice (some ⟨vb,0,none⟩) 1 1))
     have HX:=hid' (HX.out.far (fun e=>hqc1 e) 5 (.slice (some ⟨vb,0,none⟩) 1 1))
     have HGr:=hid' (HGr.out.far (fun e=>hgc6 e) 5 (.slice (some ⟨vb,0,none⟩) 1 1))
     have HR:=hid' (HR.out.far (fun e=>HRc e) 5 (.slice (some ⟨vb,0,none⟩) 1 1))
     have HNb:=hid' (HNb.out.far (fun e=>HNbc e) 5 (.slice (some ⟨vb,0,none⟩) 1 1))
     have HCi:=hid' (HCi.out.set 5 (.slice (some ⟨vb,0,none⟩) 1 1))
     have HOW:=hid' (show (W8.setCell ⟨c6,5,none⟩ (.slice (some ⟨vb,0,none⟩) 1 1)).ownsRow (c6+1) 110 8 (.slice (some ⟨vb,0,none⟩) 1 1) 1 [.string ⟨#[118]⟩,.slice (some ⟨g2,0,none⟩) 2 2,.string ⟨#[]⟩,.int .i64 0,.int .i64 0,.int .i64 1,.slice (some ⟨nb,0,none⟩) 1 1,.slice none 0 0] from own_kept own1 (fun b hb=>Deep.blk_setCell_other _ ⟨c6,5,none⟩ _ b (by intro e;obtain rfl:vb=b:=(by simpa[Value.ownBlock]using hb);exact hvc e)))
     clear own1
     refine rdy 6 fun K hK=>?_
     go_simp
     refine hK.out _ _ trivial (fun hHeld=>?_)
     clear hK K
     refine _root_.Go.Proofs.YtdjhmgmjiglcbaaGreatDoor.dn ?_
     go_upto_region 9 with fail
     generalize W8.setCell ⟨c6,5,none⟩ (.slice (some ⟨vb,0,none⟩) 1 1)=W9 at HKw HX HGr HR HNb HCi HOW ⊢
     clear c5 cz KT hHeld hmk
     have x0:=HX.out.cell 0 (.string ⟨#[k.toNat.toUInt8]⟩)
     have x1:=HX.out.cell 1 (.slice (some ⟨g,0,none⟩) nn nn)
     have x2:=HX.out.cell 2 (.string ⟨#[118]⟩)
     have x3:=HX.out.cell 3 (.int .i64 vm)
     have x4:=HX.out.cell 4 (.int .i64 vx)
     have x5:=HX.out.cell 5 (.int .i64 wk)
     have x6:=HX.out.cell 6 (.slice av nv cv)
     have x7:=HX.out.cell 7 (.slice ai ni ci)
     have c5:=HCi.out.cell 5 (.slice (some ⟨vb,0,none⟩) 1 1)
     have KA:=(Kept.refl W9).alloc (.cells #[.string ⟨#[k.toNat.toUInt8]⟩,.slice (some ⟨g,0,none⟩) nn nn,.string ⟨#[118]⟩,.int .i64 vm,.int .i64 vx,.int .i64 wk,.slice av nv cv,.slice ai ni ci] 110)
     have own0:(W9.alloc (.cells #[.string ⟨#[k.toNat.toUInt8]⟩,.slice (some ⟨g,0,none⟩) nn nn,.string ⟨#[118]⟩,.int .i64 vm,.int .i64 vx,.int .i64 wk,.slice av nv cv,.slice ai ni ci] 110)).ownsRow (c6+1) 110 8 (.slice (some ⟨vb,0,none⟩) 1 1) 1 [.string ⟨#[118]⟩,.slice (some ⟨g2,0,none⟩) 2 2,.string ⟨#[]⟩,.int .i64 0,.int .i64 0,.int .i64 1,.slice (some ⟨nb,0,none⟩) 1 1,.slice none 0 0]:=HOW.out.alloc _
     go_wp2_with (at_builtin;refine wpList_append_lies _ rfl (.tmp 46) (.tmp 48) 90 rfl (c6+1) 110 i0 (.agg #[.string ⟨#[]⟩,.slice none 0 0,.string ⟨#[]⟩,.int .i64 0,.int .i64 0,.int .i64 0,.slice none 0 0,.slice none 0 0]) 8 128 und_cards hi hz0 hz1 hz2 rfl (by decide) (.slice (some ⟨vb,0,none⟩) 1 1) 1 [.string ⟨#[118]⟩,.slice (some ⟨g2,0,none⟩) 2 2,.string ⟨#[]⟩,.int .i64 0,.int .i64 0,.int .i64 1,.slice (some ⟨nb,0,none⟩) 1 1,.slice none 0 0] rfl own0 ⟨W9.heap.size,0,none⟩ 1 1 [.string ⟨#[k.toNat.toUInt8]⟩,.slice (some ⟨g,0,none⟩) nn nn,.string ⟨#[118]⟩,.int .i64 vm,.int .i64 vx,.int .i64 wk,.slice av nv cv,.slice ai ni ci] rfl rfl (cell_eight W9 _ _ _ _ _ _ _ _ _) (fun u hu=>by simp at hu;rcases hu with rfl|rfl|rfl|rfl|rfl|rfl|rfl|rfl <;> rfl) (by omega) (by unfold maxLen;omega) (by omega) (by have:=HCi.out.lt;simp;omega) _ rfl ?_)
     intro g4 cap4 W6 own4 hg4 hgg _
     have hcw:w.heap.size<=c6:=HC6.out
     have HKw:=hid' (show Kept w W6 from Below.grown (HKw.out.trans KA) hg4 (HKw.out.trans KA).size (fun k hk=>by have:=(own0.lt k hk).1;omega))
     have nc:=own_row own0 (HCi.out.kept KA) (by decide)
     have HCi:=hid' ((HCi.out.kept KA).block (hg4.block _ (HCi.out.kept KA).lt (fun e=>nc e.symm)))
     have ng:=own_row own0 (HGr.out.kept KA) (by decide)
     have HGr:=hid' ((HGr.out.kept KA).block (hg4.block _ (HGr.out.kept KA).lt (fun e=>ng e.symm)))
     have ng:=own_row own0 (HR.out.kept KA) (by decide)
     have HR:=hid' ((HR.out.kept KA).block (hg4.block _ (HR.out.kept KA).lt (fun e=>ng e.symm)))
     have ng:=own_row own0 (HNb.out.kept KA) (by decide)
     have HNb:=hid' ((HNb.out.kept KA).block (hg4.block _ (HNb.out.kept KA).lt (fun e=>ng e.symm)))
     have n4:=own_row own4 HCi.out (by decide)
     have c5':=HCi.out.cell 5 (.slice (some ⟨vb,0,none⟩) 1 1)
     have cz:=HCi.out.fz
     have HCi:=hid' (HCi.out.set 5 (.slice (some ⟨g4,0,none⟩) (1+1) cap4))
     have HKw:=hid' (HKw.out.setCell (p:=⟨c6,5,none⟩) hcw (.slice (some ⟨g4,0,none⟩) (1+1) cap4))
     have HGr:=hid' (HGr.out.far (fun e=>hgc6 e) 5 (.slice (some ⟨g4,0,none⟩) (1+1) cap4))
     have HR:=hid' (HR.out.far (fun e=>HRc e) 5 (.slice (some ⟨g4,0,none⟩) (1+1) cap4))
     have HNb:=hid' (HNb.out.far (fun e=>HNbc e) 5 (.slice (some ⟨g4,0,none⟩) (1+1) cap4))
     have HO:=hid' (show (W6.setCell ⟨c6,5,none⟩ (.slice (some ⟨g4,0,none⟩) (1+1) cap4)).ownsRow (c6+1) 110 8 (.slice (some ⟨g4,0,none⟩) (1+1) cap4) (1+1) _ from own_kept own4 (fun b hb=>Deep.blk_setCell_other _ ⟨c6,5,none⟩ _ b (by intro e;exact n4 (by rw[hb];exact congrArg some e))))
     have hcap:=own_cap8 HO.out
     clear own4 hg4 hgg own0 KA nc ng n4 c5 x0 x1 x2 x3 x4 x5 x6 x7
     go_upto_region 10 with fail
     generalize W6.setCell ⟨c6,5,none⟩ (.slice (some ⟨g4,0,none⟩) (1+1) cap4)=W7 at HKw HCi HGr HO HR HNb ⊢
     clear c5' cz
     have hC:Ci.ok W7 ⟨fm,fx,fk,[],none,0,[],none,0,[⟨vCd,some ⟨g2,0,none⟩,2,some ⟨nb,0,none⟩,1,none,0⟩,⟨⟨[k.toNat.toUInt8],gnd,[118],(vm,vx),wk,wvl,wsl⟩,some ⟨g,0,none⟩,nn,av,cv,ai,ci⟩],some ⟨g4,0,none⟩,cap4⟩:=by
      refine⟨⟨⟨none,0,rfl,fun h=>absurd h (Nat.lt_irrefl 0)⟩,fun e h=>(by cases h)⟩,⟨⟨none,0,rfl,fun h=>absurd h (Nat.lt_irrefl 0)⟩,fun e h=>(by cases h)⟩,⟨?_,?_⟩⟩
      ·refine own_cards (B:=c6+1) ?_ rfl (fun x hx=>(cells_c _ x hx).len)
       show W7.ownsRow (c6+1) 110 8 (.slice (some ⟨g4,0,none⟩) (1+1) cap4) (1+1) [.string ⟨#[118]⟩,.slice (some ⟨g2,0,none⟩) 2 2,.string ⟨#[]⟩,.int .i64 0,.int .i64 0,.int .i64 1,.slice (some ⟨nb,0,none⟩) 1 1,.slice none 0 0,.string ⟨#[k.toNat.toUInt8]⟩,.slice (some ⟨g,0,none⟩) gnd.length nn,.string ⟨#[118]⟩,.int .i64 vm,.int .i64 vx,.int .i64 wk,.slice av wvl.length cv,.slice ai wsl.length ci]
       rw[<-HNN.out.1,<-HNN.out.2.1,<-HNN.out.2.2.1]
       exact HO.out
      ·intro e he
       rcases List.mem_cons.1 he with rfl|he
       ·exact⟨row_rs2 HR.out,row_nsl1 HNb.out,⟨none,0,rfl,fun h=>absurd h (Nat.lt_irrefl 0)⟩⟩
       ·obtain rfl:=List.mem_singleton.1 he
        exact⟨by show RS W7 (.slice (some ⟨g,0,none⟩) gnd.length nn) gnd;rw[<-HNN.out.2.2.1];exact HRS.out _ _ HGr.out,by have:=HAR.out.1.kept HKw.out;rw[HNN.out.1]at this;exact this,by have:=HAR.out.2.1.kept HKw.out;rw[HNN.out.2.1]at this;exact this⟩
     have hZ:Ci.sz ⟨fm,fx,fk,[],none,0,[],none,0,[⟨vCd,some ⟨g2,0,none⟩,2,some ⟨nb,0,none⟩,1,none,0⟩,⟨⟨[k.toNat.toUInt8],gnd,[118],(vm,vx),wk,wvl,wsl⟩,some ⟨g,0,none⟩,nn,av,cv,ai,ci⟩],some ⟨g4,0,none⟩,cap4⟩:=⟨⟨Nat.le_refl _,Nat.zero_le _⟩,fun e he=>(by first|(cases he;done)|(obtain rfl:=List.mem_singleton.1 he;exact HSZ.out.1)),⟨Nat.le_refl _,Nat.zero_le _⟩,fun e he=>(by cases he),Nat.zero_le _,⟨hcap.1,hcap.2,fun e he=>(by first|(obtain rfl:=List.mem_singleton.1 he;exact HSZ.out.2 _ HRL.out _)|(rcases List.mem_cons.1 he with rfl|he;exact vCd_sz _ _ _ _ _ _;obtain rfl:=List.mem_singleton.1 he;exact HSZ.out.2 _ HRL.out _))⟩⟩
     have hCk:=ncheck_any _ W7 (HLE.out.1.kept HKw.out) (HLE.out.2.1.kept HKw.out) (HLE.out.2.2.kept HKw.out) hC hZ
     have HER:=hid' (show Ci.er ⟨fm,fx,fk,[],none,0,[],none,0,[⟨vCd,some ⟨g2,0,none⟩,2,some ⟨nb,0,none⟩,1,none,0⟩,⟨⟨[k.toNat.toUInt8],gnd,[118],(vm,vx),wk,wvl,wsl⟩,some ⟨g,0,none⟩,nn,av,cv,ai,ci⟩],some ⟨g4,0,none⟩,cap4⟩=aloneC fm fx fk gnd k vm vx wk wvl wsl md by unfold aloneC;rw[HMD.out,HRF.out];rfl)
     obtain⟨cc,hcc⟩:∃c:Ci,c=⟨fm,fx,fk,[],none,0,[],none,0,[⟨vCd,some ⟨g2,0,none⟩,2,some ⟨nb,0,none⟩,1,none,0⟩,⟨⟨[k.toNat.toUInt8],gnd,[118],(vm,vx),wk,wvl,wsl⟩,some ⟨g,0,none⟩,nn,av,cv,ai,ci⟩],some ⟨g4,0,none⟩,cap4⟩:=⟨_,rfl⟩
     have hCk2:Calls Tryz.prog 54 #[.agg #[.int .i64 fm,.int .i64 fx,.int .i64 fk,.slice none 0 0,.slice none 0 0,.slice (some ⟨g4,0,none⟩) (1+1) cap4]] W7 fun r w'=>Kept W7 w'/\r=.returned (.int .i64 (chkC cc)):=by rw[hcc];exact hCk
     rw[<-hcc]at HER
     obtain⟨z,hz⟩:∃z,z=chkC cc:=⟨_,rfl⟩
     rw[<-hz]at hCk2
     have HZZ:=hid' hz
     clear hC hZ hCk hcc hz
     have d0:=HCi.out.cell 0 (.int .i64 fm)
     have d1:=HCi.out.cell 1 (.int .i64 fx)
     have d2:=HCi.out.cell 2 (.int .i64 fk)
     have d3:=HCi.out.cell 3 (.slice none 0 0)
     have d4:=HCi.out.cell 4 (.slice none 0 0)
     have d5:=HCi.out.cell 5 (.slice (some ⟨g4,0,none⟩) (1+1) cap4)
     go_wp2_with fail
     refine hCk2.mono ?_
     rintro e w9 ⟨hk9,rfl⟩
     have HKw:=hid' (HKw.out.trans hk9)
     clear hk9 hCk2
     go_wp2_with fail
     go_ret
     exact⟨HKw.out,cc,HER.out,by rw[<-HZZ.out];rfl⟩
    ·go_simp
     refine hK.out _ _ trivial (fun hHeld=>?_)
     clear hK K
     have hn:=RowL.alloc 25 Wd [.int .i64 0,.int .i64 0]
     have kk:=(Kept.refl Wd).alloc (.cells #[.int .i64 0,.int .i64 0] 25)
     have hnW:W5.heap.size<=Wd.heap.size:=KT.size
     have KT:=KT.trans kk
     obtain⟨nb,hnb⟩:∃q,q=Wd.heap.size:=⟨_,rfl⟩
     rw[<-hnb]at hn hnW ⊢
     generalize Wd.alloc (.cells #[.int .i64 0,.int .i64 0] 25)=Wn at KT hn hHeld  ⊢
     have HNb:=hid' hn
     clear hn hnb kk
     refine tk 2 hHeld ?_
     refine rdy 0 fun K hK=>?_
     go_simp
     refine(HG2.out _).mono ?_
     rintro e wg ⟨hkg,g2,rfl,hr,hgs⟩
     have HR:=hid' hr
     have hgW:W5.heap.size<=g2:=Nat.le_trans KT.size hgs
     have KT:=KT.trans hkg
     have HNb:=hid' (HNb.out.kept hkg)
     refine hK.out _ _ trivial (fun hHeld=>?_)
     clear hK K hkg hr hgs
     refine tk 3 hHeld ?_
     refine rdy 4 fun K hK=>?_
     go_simp
     refine hK.out _ _ trivial (fun hHeld=>?_)
     clear hK K
     have hc0:=HCi.out.lt
     have hcv:c6+1<=wg.heap.size:=Nat.le_trans hc0 KT.size
     have own1:=World.ownsRow_lit (base:=c6+1) (e:=110) (size:=8) wg #[.string ⟨#[118]⟩,.slice (some ⟨g2,0,none⟩) 2 2,.string ⟨#[]⟩,.int .i64 0,.int .i64 0,.int .i64 1,.slice (some ⟨nb,0,none⟩) 1 1,.slice none 0 0] 1 hcv (by unfold maxLen;omega) rfl
     have kk:=(Kept.refl wg).alloc (.cells #[.string ⟨#[118]⟩,.slice (some ⟨g2,0,none⟩) 2 2,.string ⟨#[]⟩,.int .i64 0,.int .i64 0,.int .i64 1,.slice (some ⟨nb,0,none⟩) 1 1,.slice none 0 0] 110)
     have KT:=KT.trans kk
     have HR:=hid' (HR.out.kept kk)
     have HNb:=hid' (HNb.out.kept kk)
     obtain⟨vb,hvb⟩:∃q,q=wg.heap.size:=⟨_,rfl⟩
     rw[<-hvb]at own1 hcv ⊢
     generalize wg.alloc (.cells #[.string ⟨#[118]⟩,.slice (some ⟨g2,0,none⟩) 2 2,.string ⟨#[]⟩,.int .i64 0,.int .i64 0,.int .i64 1,.slice (some ⟨nb,0,none⟩) 1 1,.slice none 0 0] 110)=W8 at KT own1 hHeld HR HNb ⊢
     clear hvb kk
     refine tk 5 hHeld ?_
     have HKw:=hid' (HKw.out.trans KT)
     have HX:=hid' (HX.out.kept KT)
     have HGr:=hid' (HGr.out.kept KT)
     have HCi:=hid' (HCi.out.kept KT)
     have HRc:¬g2=c6:=by omega
     have HNbc:¬nb=c6:=by omega
     have hvc:¬vb=c6:=by omega
     have c5:=HCi.out.cell 5 (.slice none 0 0)
     have cz:=HCi.out.fz
     have HKw:=hid' (HKw.out.setCell (p:=⟨c6,5,none⟩) HC6.out (.slice (some ⟨vb,0,none⟩) 1 1))
     have HX:=hid' (HX.out.far (fun e=>hqc1 e) 5 (.slice (some ⟨vb,0,none⟩) 1 1))
     have HGr:=hid' (HGr.out.far (fun e=>hgc6 e) 5 (.slice (some ⟨vb,0,none⟩) 1 1))
     have HR:=hid' (HR.out.far (fun e=>HRc e) 5 (.slice (some ⟨vb,0,none⟩) 1 1))
     have HNb:=hid' (HNb.out.far (fun e=>HNbc e) 5 (.slice (some ⟨vb,0,none⟩) 1 1))
     have HCi:=hid' (HCi.out.set 5 (.slice (some ⟨vb,0,none⟩) 1 1))
     have HOW:=hid' (show (W8.setCell ⟨c6,5,none⟩ (.slice (some ⟨vb,0,none⟩) 1 1)).ownsRow (c6+1) 110 8 (.slice (some ⟨vb,0,none⟩) 1 1) 1 [.string ⟨#[118]⟩,.slice (some ⟨g2,0,none⟩) 2 2,.string ⟨#[]⟩,.int .i64 0,.int .i64 0,.int .i64 1,.slice (some ⟨nb,0,none⟩) 1 1,.slice none 0 0] from own_kept own1 (fun b hb=>Deep.blk_setCell_other _ ⟨c6,5,none⟩ _ b (by intro e;obtain rfl:vb=b:=(by simpa[Value.ownBlock]using hb);exact hvc e)))
     clear own1
     refine rdy 6 fun K hK=>?_
     go_simp
     refine hK.out _ _ trivial (fun hHeld=>?_)
     clear hK K
     refine _root_.Go.Proofs.YtdjhmgmjiglcbaaGreatDoor.dn ?_
     go_upto_region 9 with fail
     generalize W8.setCell ⟨c6,5,none⟩ (.slice (some ⟨vb,0,none⟩) 1 1)=W9 at HKw HX HGr HR HNb HCi HOW ⊢
     clear c5 cz KT hHeld hmk
     have x0:=HX.out.cell 0 (.string ⟨#[k.toNat.toUInt8]⟩)
     have x1:=HX.out.cell 1 (.slice (some ⟨g,0,none⟩) nn nn)
     have x2:=HX.out.cell 2 (.string ⟨#[118]⟩)
     have x3:=HX.out.cell 3 (.int .i64 vm)
     have x4:=HX.out.cell 4 (.int .i64 vx)
     have x5:=HX.out.cell 5 (.int .i64 wk)
     have x6:=HX.out.cell 6 (.slice av nv cv)
     have x7:=HX.out.cell 7 (.slice ai ni ci)
     have c5:=HCi.out.cell 5 (.slice (some ⟨vb,0,none⟩) 1 1)
     have KA:=(Kept.refl W9).alloc (.cells #[.string ⟨#[k.toNat.toUInt8]⟩,.slice (some ⟨g,0,none⟩) nn nn,.string ⟨#[118]⟩,.int .i64 vm,.int .i64 vx,.int .i64 wk,.slice av nv cv,.slice ai ni ci] 110)
     have own0:(W9.alloc (.cells #[.string ⟨#[k.toNat.toUInt8]⟩,.slice (some ⟨g,0,none⟩) nn nn,.string ⟨#[118]⟩,.int .i64 vm,.int .i64 vx,.int .i64 wk,.slice av nv cv,.slice ai ni ci] 110)).ownsRow (c6+1) 110 8 (.slice (some ⟨vb,0,none⟩) 1 1) 1 [.string ⟨#[118]⟩,.slice (some ⟨g2,0,none⟩) 2 2,.string ⟨#[]⟩,.int .i64 0,.int .i64 0,.int .i64 1,.slice (some ⟨nb,0,none⟩) 1 1,.slice none 0 0]:=HOW.out.alloc _
     go_wp2_with (at_builtin;refine wpList_append_lies _ rfl (.tmp 46) (.tmp 48) 90 rfl (c6+1) 110 i0 (.agg #[.string ⟨#[]⟩,.slice none 0 0,.string ⟨#[]⟩,.int .i64 0,.int .i64 0,.int .i64 0,.slice none 0 0,.slice none 0 0]) 8 128 und_cards hi hz0 hz1 hz2 rfl (by decide) (.slice (some ⟨vb,0,none⟩) 1 1) 1 [.string ⟨#[118]⟩,.slice (some ⟨g2,0,none⟩) 2 2,.string ⟨#[]⟩,.int .i64 0,.int .i64 0,.int .i64 1,.slice (some ⟨nb,0,none⟩) 1 1,.slice none 0 0] rfl own0 ⟨W9.heap.size,0,none⟩ 1 1 [.string ⟨#[k.toNat.toUInt8]⟩,.slice (some ⟨g,0,none⟩) nn nn,.string ⟨#[118]⟩,.int .i64 vm,.int .i64 vx,.int .i64 wk,.slice av nv cv,.slice ai ni ci] rfl rfl (cell_eight W9 _ _ _ _ _ _ _ _ _) (fun u hu=>by simp at hu;rcases hu with rfl|rfl|rfl|rfl|rfl|rfl|rfl|rfl <;> rfl) (by omega) (by unfold maxLen;omega) (by omega) (by have:=HCi.out.lt;simp;omega) _ rfl ?_)
     intro g4 cap4 W6 own4 hg4 hgg _
     have hcw:w.heap.size<=c6:=HC6.out
     have HKw:=hid' (show Kept w W6 from Below.grown (HKw.out.trans KA) hg4 (HKw.out.trans KA).size (fun k hk=>by have:=(own0.lt k hk).1;omega))
     have nc:=own_row own0 (HCi.out.kept KA) (by decide)
     have HCi:=hid' ((HCi.out.kept KA).block (hg4.block _ (HCi.out.kept KA).lt (fun e=>nc e.symm)))
     have ng:=own_row own0 (HGr.out.kept KA) (by decide)
     have HGr:=hid' ((HGr.out.kept KA).block (hg4.block _ (HGr.out.kept KA).lt (fun e=>ng e.symm)))
     have ng:=own_row own0 (HR.out.kept KA) (by decide)
     have HR:=hid' ((HR.out.kept KA).block (hg4.block _ (HR.out.kept KA).lt (fun e=>ng e.symm)))
     have ng:=own_row own0 (HNb.out.kept KA) (by decide)
     have HNb:=hid' ((HNb.out.kept KA).block (hg4.block _ (HNb.out.kept KA).lt (fun e=>ng e.symm)))
     have n4:=own_row own4 HCi.out (by decide)
     have c5':=HCi.out.cell 5 (.slice (some ⟨vb,0,none⟩) 1 1)
     have cz:=HCi.out.fz
     have HCi:=hid' (HCi.out.set 5 (.slice (some ⟨g4,0,none⟩) (1+1) cap4))
     have HKw:=hid' (HKw.out.setCell (p:=⟨c6,5,none⟩) hcw (.slice (some ⟨g4,0,none⟩) (1+1) cap4))
     have HGr:=hid' (HGr.out.far (fun e=>hgc6 e) 5 (.slice (some ⟨g4,0,none⟩) (1+1) cap4))
     have HR:=hid' (HR.out.far (fun e=>HRc e) 5 (.slice (some ⟨g4,0,none⟩) (1+1) cap4))
     have HNb:=hid' (HNb.out.far (fun e=>HNbc e) 5 (.slice (some ⟨g4,0,none⟩) (1+1) cap4))
     have HO:=hid' (show (W6.setCell ⟨c6,5,none⟩ (.slice (some ⟨g4,0,none⟩) (1+1) cap4)).ownsRow (c6+1) 110 8 (.slice (some ⟨g4,0,none⟩) (1+1) cap4) (1+1) _ from own_kept own4 (fun b hb=>Deep.blk_setCell_other _ ⟨c6,5,none⟩ _ b (by intro e;exact n4 (by rw[hb];exact congrArg some e))))
     have hcap:=own_cap8 HO.out
     clear own4 hg4 hgg own0 KA nc ng n4 c5 x0 x1 x2 x3 x4 x5 x6 x7
     go_upto_region 10 with fail
     generalize W6.setCell ⟨c6,5,none⟩ (.slice (some ⟨g4,0,none⟩) (1+1) cap4)=W7 at HKw HCi HGr HO HR HNb ⊢
     clear c5' cz
     have hC:Ci.ok W7 ⟨fm,fx,fk,[],none,0,[],none,0,[⟨vCd,some ⟨g2,0,none⟩,2,some ⟨nb,0,none⟩,1,none,0⟩,⟨⟨[k.toNat.toUInt8],gnd,[118],(vm,vx),wk,wvl,wsl⟩,some ⟨g,0,none⟩,nn,av,cv,ai,ci⟩],some ⟨g4,0,none⟩,cap4⟩:=by
      refine⟨⟨⟨none,0,rfl,fun h=>absurd h (Nat.lt_irrefl 0)⟩,fun e h=>(by cases h)⟩,⟨⟨none,0,rfl,fun h=>absurd h (Nat.lt_irrefl 0)⟩,fun e h=>(by cases h)⟩,⟨?_,?_⟩⟩
      ·refine own_cards (B:=c6+1) ?_ rfl (fun x hx=>(cells_c _ x hx).len)
       show W7.ownsRow (c6+1) 110 8 (.slice (some ⟨g4,0,none⟩) (1+1) cap4) (1+1) [.string ⟨#[118]⟩,.slice (some ⟨g2,0,none⟩) 2 2,.string ⟨#[]⟩,.int .i64 0,.int .i64 0,.int .i64 1,.slice (some ⟨nb,0,none⟩) 1 1,.slice none 0 0,.string ⟨#[k.toNat.toUInt8]⟩,.slice (some ⟨g,0,none⟩) gnd.length nn,.string ⟨#[118]⟩,.int .i64 vm,.int .i64 vx,.int .i64 wk,.slice av wvl.length cv,.slice ai wsl.length ci]
       rw[<-HNN.out.1,<-HNN.out.2.1,<-HNN.out.2.2.1]
       exact HO.out
      ·intro e he
       rcases List.mem_cons.1 he with rfl|he
       ·exact⟨row_rs2 HR.out,row_nsl1 HNb.out,⟨none,0,rfl,fun h=>absurd h (Nat.lt_irrefl 0)⟩⟩
       ·obtain rfl:=List.mem_singleton.1 he
        exact⟨by show RS W7 (.slice (some ⟨g,0,none⟩) gnd.length nn) gnd;rw[<-HNN.out.2.2.1];exact HRS.out _ _ HGr.out,by have:=HAR.out.1.kept HKw.out;rw[HNN.out.1]at this;exact this,by have:=HAR.out.2.1.kept HKw.out;rw[HNN.out.2.1]at this;exact this⟩
     have hZ:Ci.sz ⟨fm,fx,fk,[],none,0,[],none,0,[⟨vCd,some ⟨g2,0,none⟩,2,some ⟨nb,0,none⟩,1,none,0⟩,⟨⟨[k.toNat.toUInt8],gnd,[118],(vm,vx),wk,wvl,wsl⟩,some ⟨g,0,none⟩,nn,av,cv,ai,ci⟩],some ⟨g4,0,none⟩,cap4⟩:=⟨⟨Nat.le_refl _,Nat.zero_le _⟩,fun e he=>(by first|(cases he;done)|(obtain rfl:=List.mem_singleton.1 he;exact HSZ.out.1)),⟨Nat.le_refl _,Nat.zero_le _⟩,fun e he=>(by cases he),Nat.zero_le _,⟨hcap.1,hcap.2,fun e he=>(by first|(obtain rfl:=List.mem_singleton.1 he;exact HSZ.out.2 _ HRL.out _)|(rcases List.mem_cons.1 he with rfl|he;exact vCd_sz _ _ _ _ _ _;obtain rfl:=List.mem_singleton.1 he;exact HSZ.out.2 _ HRL.out _))⟩⟩
     have hCk:=ncheck_any _ W7 (HLE.out.1.kept HKw.out) (HLE.out.2.1.kept HKw.out) (HLE.out.2.2.kept HKw.out) hC hZ
     have HER:=hid' (show Ci.er ⟨fm,fx,fk,[],none,0,[],none,0,[⟨vCd,some ⟨g2,0,none⟩,2,some ⟨nb,0,none⟩,1,none,0⟩,⟨⟨[k.toNat.toUInt8],gnd,[118],(vm,vx),wk,wvl,wsl⟩,some ⟨g,0,none⟩,nn,av,cv,ai,ci⟩],some ⟨g4,0,none⟩,cap4⟩=aloneC fm fx fk gnd k vm vx wk wvl wsl md by unfold aloneC;rw[HMD.out,HRF.out];rfl)
     obtain⟨cc,hcc⟩:∃c:Ci,c=⟨fm,fx,fk,[],none,0,[],none,0,[⟨vCd,some ⟨g2,0,none⟩,2,some ⟨nb,0,none⟩,1,none,0⟩,⟨⟨[k.toNat.toUInt8],gnd,[118],(vm,vx),wk,wvl,wsl⟩,some ⟨g,0,none⟩,nn,av,cv,ai,ci⟩],some ⟨g4,0,none⟩,cap4⟩:=⟨_,rfl⟩
     have hCk2:Calls Tryz.prog 54 #[.agg #[.int .i64 fm,.int .i64 fx,.int .i64 fk,.slice none 0 0,.slice none 0 0,.slice (some ⟨g4,0,none⟩) (1+1) cap4]] W7 fun r w'=>Kept W7 w'/\r=.returned (.int .i64 (chkC cc)):=by rw[hcc];exact hCk
     rw[<-hcc]at HER
     obtain⟨z,hz⟩:∃z,z=chkC cc:=⟨_,rfl⟩
     rw[<-hz]at hCk2
     have HZZ:=hid' hz
     clear hC hZ hCk hcc hz
     have d0:=HCi.out.cell 0 (.int .i64 fm)
     have d1:=HCi.out.cell 1 (.int .i64 fx)
     have d2:=HCi.out.cell 2 (.int .i64 fk)
     have d3:=HCi.out.cell 3 (.slice none 0 0)
     have d4:=HCi.out.cell 4 (.slice none 0 0)
     have d5:=HCi.out.cell 5 (.slice (some ⟨g4,0,none⟩) (1+1) cap4)
     go_wp2_with fail
     refine hCk2.mono ?_
     rintro e w9 ⟨hk9,rfl⟩
     have HKw:=hid' (HKw.out.trans hk9)
     clear hk9 hCk2
     go_wp2_with fail
     go_ret
     exact⟨HKw.out,cc,HER.out,by rw[<-HZZ.out];rfl⟩
   |false=>
    have HRF:=hid' hrv
    clear hRe hrv
    have HRL:=hid' (show ([]:List UInt8).length<=9223372036854775807 by decide)
    go_upto_region 9 with fail
    have x0:=HX.out.cell 0 (.string ⟨#[k.toNat.toUInt8]⟩)
    have x1:=HX.out.cell 1 (.slice (some ⟨g,0,none⟩) nn nn)
    have x2:=HX.out.cell 2 (.string ⟨#[]⟩)
    have x3:=HX.out.cell 3 (.int .i64 vm)
    have x4:=HX.out.cell 4 (.int .i64 vx)
    have x5:=HX.out.cell 5 (.int .i64 wk)
    have x6:=HX.out.cell 6 (.slice av nv cv)
    have x7:=HX.out.cell 7 (.slice ai ni ci)
    have c5:=HCi.out.cell 5 (.slice none 0 0)
    have KA:=(Kept.refl w5).alloc (.cells #[.string ⟨#[k.toNat.toUInt8]⟩,.slice (some ⟨g,0,none⟩) nn nn,.string ⟨#[]⟩,.int .i64 vm,.int .i64 vx,.int .i64 wk,.slice av nv cv,.slice ai ni ci] 110)
    have own0:(w5.alloc (.cells #[.string ⟨#[k.toNat.toUInt8]⟩,.slice (some ⟨g,0,none⟩) nn nn,.string ⟨#[]⟩,.int .i64 vm,.int .i64 vx,.int .i64 wk,.slice av nv cv,.slice ai ni ci] 110)).ownsRow (c6+1) 110 8 (.slice none 0 0) 0 []:=World.ownsRow_nil _ _ _ _
    go_wp2_with (at_builtin;refine wpList_append_lies _ rfl (.tmp 46) (.tmp 48) 90 rfl (c6+1) 110 i0 (.agg #[.string ⟨#[]⟩,.slice none 0 0,.string ⟨#[]⟩,.int .i64 0,.int .i64 0,.int .i64 0,.slice none 0 0,.slice none 0 0]) 8 128 und_cards hi hz0 hz1 hz2 rfl (by decide) (.slice none 0 0) 0 [] rfl own0 ⟨w5.heap.size,0,none⟩ 1 1 [.string ⟨#[k.toNat.toUInt8]⟩,.slice (some ⟨g,0,none⟩) nn nn,.string ⟨#[]⟩,.int .i64 vm,.int .i64 vx,.int .i64 wk,.slice av nv cv,.slice ai ni ci] rfl rfl (cell_eight w5 _ _ _ _ _ _ _ _ _) (fun u hu=>by simp at hu;rcases hu with rfl|rfl|rfl|rfl|rfl|rfl|rfl|rfl <;> rfl) (by omega) (by unfold maxLen;omega) (by omega) (by have:=HCi.out.lt;simp;omega) _ rfl ?_)
    intro g4 cap4 W6 own4 hg4 hgg _
    have hcw:w.heap.size<=c6:=HC6.out
    have HKw:=hid' (show Kept w W6 from Below.grown (HKw.out.trans KA) hg4 (HKw.out.trans KA).size (fun k hk=>by have:=(own0.lt k hk).1;omega))
    have nc:=own_row own0 (HCi.out.kept KA) (by decide)
    have HCi:=hid' ((HCi.out.kept KA).block (hg4.block _ (HCi.out.kept KA).lt (fun e=>nc e.symm)))
    have ng:=own_row own0 (HGr.out.kept KA) (by decide)
    have HGr:=hid' ((HGr.out.kept KA).block (hg4.block _ (HGr.out.kept KA).lt (fun e=>ng e.symm)))
    have n4:=own_row own4 HCi.out (by decide)
    have c5':=HCi.out.cell 5 (.slice none 0 0)
    have cz:=HCi.out.fz
    have HCi:=hid' (HCi.out.set 5 (.slice (some ⟨g4,0,none⟩) (0+1) cap4))
    have HKw:=hid' (HKw.out.setCell (p:=⟨c6,5,none⟩) hcw (.slice (some ⟨g4,0,none⟩) (0+1) cap4))
    have HGr:=hid' (HGr.out.far (fun e=>hgc6 e) 5 (.slice (some ⟨g4,0,none⟩) (0+1) cap4))
    have HO:=hid' (show (W6.setCell ⟨c6,5,none⟩ (.slice (some ⟨g4,0,none⟩) (0+1) cap4)).ownsRow (c6+1) 110 8 (.slice (some ⟨g4,0,none⟩) (0+1) cap4) (0+1) _ from own_kept own4 (fun b hb=>Deep.blk_setCell_other _ ⟨c6,5,none⟩ _ b (by intro e;exact n4 (by rw[hb];exact congrArg some e))))
    have hcap:=own_cap8 HO.out
    clear own4 hg4 hgg own0 KA nc ng n4 c5 x0 x1 x2 x3 x4 x5 x6 x7
    go_upto_region 10 with fail
    generalize W6.setCell ⟨c6,5,none⟩ (.slice (some ⟨g4,0,none⟩) (0+1) cap4)=W7 at HKw HCi HGr HO  ⊢
    clear c5' cz
    have hC:Ci.ok W7 ⟨fm,fx,fk,[],none,0,[],none,0,[⟨⟨[k.toNat.toUInt8],gnd,[],(vm,vx),wk,wvl,wsl⟩,some ⟨g,0,none⟩,nn,av,cv,ai,ci⟩],some ⟨g4,0,none⟩,cap4⟩:=by
     refine⟨⟨⟨none,0,rfl,fun h=>absurd h (Nat.lt_irrefl 0)⟩,fun e h=>(by cases h)⟩,⟨⟨none,0,rfl,fun h=>absurd h (Nat.lt_irrefl 0)⟩,fun e h=>(by cases h)⟩,⟨?_,?_⟩⟩
     ·refine own_cards (B:=c6+1) ?_ rfl (fun x hx=>(cells_c _ x hx).len)
      show W7.ownsRow (c6+1) 110 8 (.slice (some ⟨g4,0,none⟩) (0+1) cap4) (0+1) [.string ⟨#[k.toNat.toUInt8]⟩,.slice (some ⟨g,0,none⟩) gnd.length nn,.string ⟨#[]⟩,.int .i64 vm,.int .i64 vx,.int .i64 wk,.slice av wvl.length cv,.slice ai wsl.length ci]
      rw[<-HNN.out.1,<-HNN.out.2.1,<-HNN.out.2.2.1]
      exact HO.out
     ·intro e he
      obtain rfl:=List.mem_singleton.1 he
      exact⟨by show RS W7 (.slice (some ⟨g,0,none⟩) gnd.length nn) gnd;rw[<-HNN.out.2.2.1];exact HRS.out _ _ HGr.out,by have:=HAR.out.1.kept HKw.out;rw[HNN.out.1]at this;exact this,by have:=HAR.out.2.1.kept HKw.out;rw[HNN.out.2.1]at this;exact this⟩
    have hZ:Ci.sz ⟨fm,fx,fk,[],none,0,[],none,0,[⟨⟨[k.toNat.toUInt8],gnd,[],(vm,vx),wk,wvl,wsl⟩,some ⟨g,0,none⟩,nn,av,cv,ai,ci⟩],some ⟨g4,0,none⟩,cap4⟩:=⟨⟨Nat.le_refl _,Nat.zero_le _⟩,fun e he=>(by first|(cases he;done)|(obtain rfl:=List.mem_singleton.1 he;exact HSZ.out.1)),⟨Nat.le_refl _,Nat.zero_le _⟩,fun e he=>(by cases he),Nat.zero_le _,⟨hcap.1,hcap.2,fun e he=>(by first|(obtain rfl:=List.mem_singleton.1 he;exact HSZ.out.2 _ HRL.out _)|(rcases List.mem_cons.1 he with rfl|he;exact vCd_sz _ _ _ _ _ _;obtain rfl:=List.mem_singleton.1 he;exact HSZ.out.2 _ HRL.out _))⟩⟩
    have hCk:=ncheck_any _ W7 (HLE.out.1.kept HKw.out) (HLE.out.2.1.kept HKw.out) (HLE.out.2.2.kept HKw.out) hC hZ
    have HER:=hid' (show Ci.er ⟨fm,fx,fk,[],none,0,[],none,0,[⟨⟨[k.toNat.toUInt8],gnd,[],(vm,vx),wk,wvl,wsl⟩,some ⟨g,0,none⟩,nn,av,cv,ai,ci⟩],some ⟨g4,0,none⟩,cap4⟩=aloneC fm fx fk gnd k vm vx wk wvl wsl md by unfold aloneC;rw[HMD.out,HRF.out];rfl)
    obtain⟨cc,hcc⟩:∃c:Ci,c=⟨fm,fx,fk,[],none,0,[],none,0,[⟨⟨[k.toNat.toUInt8],gnd,[],(vm,vx),wk,wvl,wsl⟩,some ⟨g,0,none⟩,nn,av,cv,ai,ci⟩],some ⟨g4,0,none⟩,cap4⟩:=⟨_,rfl⟩
    have hCk2:Calls Tryz.prog 54 #[.agg #[.int .i64 fm,.int .i64 fx,.int .i64 fk,.slice none 0 0,.slice none 0 0,.slice (some ⟨g4,0,none⟩) (0+1) cap4]] W7 fun r w'=>Kept W7 w'/\r=.returned (.int .i64 (chkC cc)):=by rw[hcc];exact hCk
    rw[<-hcc]at HER
    obtain⟨z,hz⟩:∃z,z=chkC cc:=⟨_,rfl⟩
    rw[<-hz]at hCk2
    have HZZ:=hid' hz
    clear hC hZ hCk hcc hz
    have d0:=HCi.out.cell 0 (.int .i64 fm)
    have d1:=HCi.out.cell 1 (.int .i64 fx)
    have d2:=HCi.out.cell 2 (.int .i64 fk)
    have d3:=HCi.out.cell 3 (.slice none 0 0)
    have d4:=HCi.out.cell 4 (.slice none 0 0)
    have d5:=HCi.out.cell 5 (.slice (some ⟨g4,0,none⟩) (0+1) cap4)
    go_wp2_with fail
    refine hCk2.mono ?_
    rintro e w9 ⟨hk9,rfl⟩
    have HKw:=hid' (HKw.out.trans hk9)
    clear hk9 hCk2
    go_wp2_with fail
    go_ret
    exact⟨HKw.out,cc,HER.out,by rw[<-HZZ.out];rfl⟩
open Q (hid' Lett ErrV Tab)
open X (RS)
def SCE.er (s:SCE):SCE:=⟨s.cd.map CE.er,none,0,s.ms.map ME.er,none,0,s.ss.map SE.er,none,0⟩
theorem scTail_er (c:Ci):∀(l:List SE) (i:Nat),scTail c.er i (l.map SE.er)=(scTail c i l).map SCE.er
 | [],_=>rfl
 |s::t,i=>by
  show scAt c.er i (SE.er s)::scTail c.er (i+1) (t.map SE.er)=SCE.er (scAt c i s)::(scTail c (i+1) t).map SCE.er
  rw[scTail_er c t (i+1)]
  congr 1
  show (⟨s.cards.map CE.er,none,0,c.ms.map ME.er,none,0,(c.ss.map SE.er).take i,none,0⟩:SCE)=⟨s.cards.map CE.er,none,0,c.ms.map ME.er,none,0,(c.ss.take i).map SE.er,none,0⟩
  rw[List.map_take]
theorem scOf_er (c:Ci):scOf c.er=(scOf c).map SCE.er:=by
 show _::scTail c.er 0 (c.ss.map SE.er)=_::(scTail c 0 c.ss).map SCE.er
 rw[scTail_er]
 rfl
theorem tw_er {α:Type}(f g:α->List Value)(l:List α)(h:∀x,nameC (f x)=nameC (g x)):twiceB (fun j=>nameC ((l.map f).getD j [])) l.length=twiceB (fun j=>nameC ((l.map g).getD j [])) l.length:=by
 have e:(fun j=>nameC ((l.map f).getD j []))=(fun j=>nameC ((l.map g).getD j [])):=by
  funext j
  rw[List.getD_eq_getElem?_getD,List.getD_eq_getElem?_getD,List.getElem?_map,List.getElem?_map]
  cases l[j]? with
  |none=>rfl
  |some x=>exact h x
 rw[e]
theorem twM_er (l:List ME):twM (l.map ME.er)=twM l:=by
 unfold twM
 rw[List.map_map,List.length_map]
 exact tw_er _ _ l (fun _=>rfl)
theorem twS_er (l:List SE):twS (l.map SE.er)=twS l:=by
 unfold twS
 rw[List.map_map,List.length_map]
 exact tw_er _ _ l (fun _=>rfl)
theorem twC_er (l:List CE):twC (l.map CE.er)=twC l:=by
 unfold twC
 rw[List.map_map,List.length_map]
 exact tw_er _ _ l (fun _=>rfl)
theorem any_er {α:Type}(er:α->α)(p:α->Bool)(l:List α)(h:∀x,p (er x)=p x):(l.map er).any p=l.any p:=by
 rw[List.any_map]
 exact congrArg (fun q=>List.any l q) (funext h)
theorem at_er {α β:Type}(er:α->α)(p:α->Bool)(l:List α)(h:∀x,p (er x)=p x)(F:Option α->β)(hF:∀o,F (Option.map er o)=F o):F ((l.map er)[(l.map er).findIdx p]?)=F (l[l.findIdx p]?):=by
 have e:(l.map er).findIdx p=l.findIdx p:=by
  rw[List.findIdx_map]
  exact congrArg (fun q=>List.findIdx q l) (funext h)
 rw[e,List.getElem?_map]
 exact hF _
theorem rfF_er (s:SCE)(x:Cd):rfF s.er x=rfF s x:=by
 unfold rfF
 have h1:rfM (x.name.getD 0 0) s.er.ms[s.er.ms.findIdx fun e=>e.m.name == x.ref]?=rfM (x.name.getD 0 0) s.ms[s.ms.findIdx fun e=>e.m.name == x.ref]?:=at_er ME.er (fun e=>e.m.name == x.ref) s.ms (fun _=>rfl) (rfM (x.name.getD 0 0)) (fun o=>by cases o <;> rfl)
 have h2:(s.er.cd.any fun e=>e.c.name == x.ref)=s.cd.any fun e=>e.c.name == x.ref:=any_er CE.er _ s.cd (fun _=>rfl)
 have h3:rfS x.nodes.length s.er.ss[s.er.ss.findIdx fun e=>e.name == x.ref]?=rfS x.nodes.length s.ss[s.ss.findIdx fun e=>e.name == x.ref]?:=at_er SE.er (fun e=>e.name == x.ref) s.ss (fun _=>rfl) (rfS x.nodes.length) (fun o=>by cases o <;> rfl)
 rw[h1,h2,h3]
theorem hasR_er (r:Int)(s:SCE):hasR r s.er=hasR r s:=by
 show ((s.cd.map CE.er).any fun x=>rfF s.er x.c == r)=s.cd.any fun x=>rfF s x.c == r
 rw[List.any_map]
 refine congrArg (fun q=>List.any s.cd q) (funext fun x=>?_)
 show (rfF s.er x.c == r)=(rfF s x.c == r)
 rw[rfF_er]
theorem chkC_er (c:Ci):chkC c.er=chkC c:=by
 have h1:(c.er.ms.any fun e=>!modB e)=c.ms.any fun e=>!modB e:=any_er ME.er _ c.ms (fun _=>rfl)
 have h2:(c.er.ss.any fun e=>!subB e)=c.ss.any fun e=>!subB e:=any_er SE.er _ c.ss (fun _=>rfl)
 have h3:(scOf c.er).any scBad=(scOf c).any scBad:=by
  rw[scOf_er]
  exact any_er SCE.er _ _ (fun s=>any_er CE.er _ s.cd (fun _=>rfl))
 have h4:manyB c.er=manyB c:=by
  unfold manyB
  rw[scOf_er,any_er SCE.er _ _ (fun s=>show decide (64<(s.cd.map CE.er).length)=_ by rw[List.length_map])]
  show (decide (16<(c.ms.map ME.er).length)||(decide (8<(c.ss.map SE.er).length)||_))=_
  rw[List.length_map,List.length_map]
 have h5:twoB c.er=twoB c:=by
  unfold twoB
  rw[scOf_er,any_er SCE.er _ _ (fun s=>twC_er s.cd)]
  show (twM (c.ms.map ME.er)||(twS (c.ss.map SE.er)||((c.ss.map SE.er).any (fun s=>twP s.ports)||_)))=_
  rw[twM_er,twS_er,any_er SE.er (fun s=>twP s.ports) c.ss (fun _=>rfl)]
 have h6:refsF c.er=refsF c:=by
  unfold refsF
  rw[scOf_er,any_er SCE.er _ _ (hasR_er 81),any_er SCE.er _ _ (hasR_er 82)]
 have h0:setB c.er=setB c:=rfl
 unfold chkC
 rw[h0,h1,h2,h3,h4,h5,h6]
theorem chkC_of_er {c d:Ci}(h:c.er=d):chkC c=chkC d:=by rw[<-h,chkC_er]
open Q (hid' Lett ErrV Tab)
open X (RS OwnS strs)
def gndL (n:Nat):List (List UInt8):=if n=4 then [[48],[48],[48],[48]] else [[48],[48]]
theorem alone_de (fa:Option Addr)(fn fc:Nat)(da:Option Addr)(dn dc:Nat)(fm fx fk:Int)(k:Int)(s:ByteArray)(an:Option Addr)(nn cn:Nat)(rf vm vx wk:Int)(av:Option Addr)(nv cv:Nat)(ai:Option Addr)(ni ci:Nat)(ms:ByteArray)(mk:Int)(a1:Option Addr)(n1 c1:Nat)(a2:Option Addr)(n2 c2:Nat)(w:World)(hnn:nn=2∨nn=4)(wvl:List (Int×Int))(wsl:List Int)(gs vs:List (Int×Int))(hL:Lett w)(hE:ErrV w)(hT:Tab w)(hwv:NSl w (.slice av nv cv) wvl)(hws:ISl w (.slice ai ni ci) wsl)(hgs:NSl w (.slice a1 n1 c1) gs)(hvs:NSl w (.slice a2 n2 c2) vs)(hms:ms.size<=9223372036854775807)(hn1:n1<=4611686018427387903)(hn2:n2<=4611686018427387903) :
  Calls Tryz.prog 60 #[.agg #[.slice fa fn fc,.slice da dn dc,.int .i64 fm,.int .i64 fx,.int .i64 fk],.agg #[.int .u8 k,.string s,.slice an nn cn,.int .i64 rf,.int .i64 vm,.int .i64 vx,.int .i64 wk,.slice av nv cv,.slice ai ni ci,.string ms,.int .u8 mk,.slice a1 n1 c1,.slice a2 n2 c2]] w fun e w'=>Kept w w'/\e=.returned (.bool (chkC (aloneC fm fx fk (gndL nn) k vm vx wk wvl wsl ⟨ms.data.toList,mk,gs,vs⟩) == 0)):=by
 rcases hnn with rfl|rfl
 ·refine(alone_any fa fn fc da dn dc fm fx fk k s an 2 cn rf vm vx wk av nv cv ai ni ci ms mk a1 n1 c1 a2 n2 c2 [.string ⟨#[48]⟩,.string ⟨#[48]⟩] w (fun V=>grounds_2 V) [[48],[48]] (fun V g h=>row_rs2 h) (fun x hx=>?_) rfl (by omega) wvl wsl gs vs hL hE hT hwv hws hgs hvs hms hn1 hn2).mono ?_
  ·have:x=[48]:=by simpa using hx
   rw[this]
   decide
  ·rintro e w' ⟨hk,c,hc,rfl⟩
   exact⟨hk,by rw[chkC_of_er hc];rfl⟩
 ·refine(alone_any fa fn fc da dn dc fm fx fk k s an 4 cn rf vm vx wk av nv cv ai ni ci ms mk a1 n1 c1 a2 n2 c2 [.string ⟨#[48]⟩,.string ⟨#[48]⟩,.string ⟨#[48]⟩,.string ⟨#[48]⟩] w (fun V=>grounds_4 V) [[48],[48],[48],[48]] (fun V g h=>row_rs4 h) (fun x hx=>?_) rfl (by omega) wvl wsl gs vs hL hE hT hwv hws hgs hvs hms hn1 hn2).mono ?_
  ·have:x=[48]:=by simpa using hx
   rw[this]
   decide
  ·rintro e w' ⟨hk,c,hc,rfl⟩
   exact⟨hk,by rw[chkC_of_er hc];rfl⟩
structure DE.sz (d:DE):Prop where
 nodes:d.nodes.length<=9223372036854775807
 name:d.name.length<=4611686018427387903
 md:d.md.name.length<=9223372036854775807
 gs:d.md.gs.length<=4611686018427387903
 vs:d.md.vs.length<=4611686018427387903
def fdevB (fn:Nat)(fm fx fk:Int)(ds:List DE)(d:DE):Bool :=
 endsB fn d.kind d.nodes&&(refB ds d.kind d.ref&&(!strayB d.kind d.md.name d.md.kind d.md.gs.length d.md.vs.length&&(chkC (aloneC fm fx fk (gndL d.nodes.length) d.kind d.vm d.vx d.wk d.wv d.ws d.md) == 0)))
def fdevsB (fn:Nat)(fm fx fk:Int)(ds:List DE):Bool:=decide (ds.length<=64)&&(ds.all (fdevB fn fm fx fk ds)&&namesB (ds.map DE.name))
theorem ends_two {fn:Nat}{k:Int}{l:List Int}(h:endsB fn k l=true):l.length=2∨l.length=4:=by
 unfold endsB at h
 rw[Bool.and_eq_true,decide_eq_true_eq]at h
 have h1:=h.1
 unfold endsN at h1
 split at h1
 ·omega
 ·split at h1 <;> omega
theorem bs_size (l:List UInt8):(X.bs l).size=l.length:=by
 show (X.bs l).data.size=_
 rw[<-Array.length_toList,X.bs_list]
theorem rightDevs_any (fa:Option Addr)(fn fc:Nat)(da:Option Addr)(dn dc:Nat)(fm fx fk:Int)(ds:List DE)(w:World)(h:DsR w (.slice da dn dc) ds)(hz:∀d∈ds,d.sz)(hL:Lett w)(hE:ErrV w)(hT:Tab w) :
  Calls Tryz.prog 47 #[.agg #[.slice fa fn fc,.slice da dn dc,.int .i64 fm,.int .i64 fx,.int .i64 fk]] w fun e w'=>Kept w w'/\e=.returned (.bool (fdevsB fn fm fx fk ds)):=by
 have hn:dn=ds.length:=by have:=h.1.len;rw[List.length_map]at this;exact this
 obtain⟨i0,hi,hz0,hz1,hz2⟩:=info_parts X.info_str
 have HL:=hid' h
 have HN:=hid' hn
 have HSZ:=hid' hz
 have HLE:=hid' (And.intro hL (And.intro hE hT))
 clear h hn hz hL hE hT
 have kA:=(Kept.refl w).alloc (.cells #[.slice fa fn fc,.slice da dn dc,.int .i64 fm,.int .i64 fx,.int .i64 fk] 27)
 have hA:=RowL.alloc 27 w [.slice fa fn fc,.slice da dn dc,.int .i64 fm,.int .i64 fx,.int .i64 fk]
 go_enter Tryz.func47,Tryz.ntmps47
 go_upto_region 1 with fail
 generalize w.alloc (.cells #[.slice fa fn fc,.slice da dn dc,.int .i64 fm,.int .i64 fx,.int .i64 fk] 27)=W at kA hA ⊢
 obtain⟨p,hp⟩:∃q,q=w.heap.size:=⟨_,rfl⟩
 rw[<-hp]at hA ⊢
 have HP:=hid' hp
 have HI:=hid' (And.intro kA hA)
 have f1:=hA.cell 1 (.slice da dn dc)
 clear kA hA hp
 by_cases h64:64<dn
 ·have hc:(64:Int)<(dn:Int):=by omega
  have HR:=hid' (show fdevsB fn fm fx fk ds=false by
   unfold fdevsB
   rw[show decide (ds.length<=64)=false by rw[decide_eq_false_iff_not];have:=HN.out;omega]
   rfl)
  clear h64
  go_wp2_with fail
  go_ret
  exact⟨HI.out.1,by rw[HR.out];rfl⟩
 have hc:¬(64:Int)<(dn:Int):=by omega
 have HDB:=hid' (show fdevsB fn fm fx fk ds=(ds.all (fdevB fn fm fx fk ds)&&namesB (ds.map DE.name)) by
  unfold fdevsB
  rw[show decide (ds.length<=64)=true by rw[decide_eq_true_eq];have:=HN.out;omega,Bool.true_and])
 go_wp2_with fail
 clear f1 hc
 go_loopw [3,13] (fun v3 v13 wr=>∃(i:Nat) (bv:Value),i<=dn/\v3=bv/\v13=.int .i64 (i:Int)/\Hid (Kept w wr/\OwnS (p+1) wr bv ((ds.take i).map DE.name)/\RowL 27 wr p [.slice fa fn fc,.slice da dn dc,.int .i64 fm,.int .i64 fx,.int .i64 fk]/\(ds.take i).all (fdevB fn fm fx fk ds)=true)) (fun _ v13 _=>dn-(intOf v13).toNat)
 case atStart=>exact⟨0,_,Nat.zero_le _,rfl,rfl,HI.out.1,OwnS.nil _ _,HI.out.2,rfl⟩
 case round=>
  obtain⟨i,bv,hil,rfl,rfl,H⟩:=hrel
  clear HI
  by_cases hit:i<dn
  ·have hii:(i:Int)<(dn:Int):=by omega
   have hi0:(0:Int)<=(i:Int):=by omega
   have hiL:i<ds.length:=by have:=HN.out;omega
   obtain⟨ao',cap',hv,hx⟩:=HL.out.1.kept H.out.1
   simp only[Value.slice.injEq]at hv
   obtain⟨rfl,hnn,rfl⟩:=hv
   obtain⟨b,off,rfl,hb',hc⟩:=hx (by omega)
   have hxx:=map_getD DE.cells ds i hiL
   have HTK:=hid' (show ds.take (i+1)=ds.take i++[ds[i]] from List.take_succ_eq_append_getElem hiL)
   have hmem:ds[i]∈ds:=List.getElem_mem hiL
   have HOK:=hid' ((HL.out.2 _ hmem).kept H.out.1)
   have HS1:=hid' (HSZ.out _ hmem)
   have HNO:=hid' (fun (hf:fdevB fn fm fx fk ds ds[i]=false)=>show fdevsB fn fm fx fk ds=false by
    rw[HDB.out,show ds.all (fdevB fn fm fx fk ds)=false by
     rw[List.all_eq_false]
     exact⟨_,hmem,by rw[hf];decide⟩]
    rfl)
   have HDV:=hid' (show fdevB fn fm fx fk ds ds[i]=_ from rfl)
   generalize ds[i]=D at hxx HTK HOK HS1 HNO HDV
   clear hmem
   have e0:=hc i (by omega) 0 (by omega)
   rw[hxx]at e0
   have e1:=hc i (by omega) 1 (by omega)
   rw[hxx]at e1
   have e2:=hc i (by omega) 2 (by omega)
   rw[hxx]at e2
   have e3:=hc i (by omega) 3 (by omega)
   rw[hxx]at e3
   have e4:=hc i (by omega) 4 (by omega)
   rw[hxx]at e4
   have e5:=hc i (by omega) 5 (by omega)
   rw[hxx]at e5
   have e6:=hc i (by omega) 6 (by omega)
   rw[hxx]at e6
   have e7:=hc i (by omega) 7 (by omega)
   rw[hxx]at e7
   have e8:=hc i (by omega) 8 (by omega)
   rw[hxx]at e8
   have e9:=hc i (by omega) 9 (by omega)
   rw[hxx]at e9
   have e10:=hc i (by omega) 10 (by omega)
   rw[hxx]at e10
   have e11:=hc i (by omega) 11 (by omega)
   rw[hxx]at e11
   have e12:=hc i (by omega) 12 (by omega)
   rw[hxx]at e12
   obtain⟨k,nm,nds,an,cn,rf,vm,vx,wk,wvl,av,cv,wsl,ai,ci,⟨mnm,mk,gsl,vsl⟩,a1,c1,a2,c2⟩:=D
   simp only[DE.cells,List.getD_cons_zero]at e0
   simp only[DE.cells,List.getD_cons_zero,List.getD_cons_succ]at e1
   simp only[DE.cells,List.getD_cons_zero,List.getD_cons_succ]at e2
   simp only[DE.cells,List.getD_cons_zero,List.getD_cons_succ]at e3
   simp only[DE.cells,List.getD_cons_zero,List.getD_cons_succ]at e4
   simp only[DE.cells,List.getD_cons_zero,List.getD_cons_succ]at e5
   simp only[DE.cells,List.getD_cons_zero,List.getD_cons_succ]at e6
   simp only[DE.cells,List.getD_cons_zero,List.getD_cons_succ]at e7
   simp only[DE.cells,List.getD_cons_zero,List.getD_cons_succ]at e8
   simp only[DE.cells,List.getD_cons_zero,List.getD_cons_succ]at e9
   simp only[DE.cells,List.getD_cons_zero,List.getD_cons_succ]at e10
   simp only[DE.cells,List.getD_cons_zero,List.getD_cons_succ]at e11
   simp only[DE.cells,List.getD_cons_zero,List.getD_cons_succ]at e12
   rw[Nat.add_zero]at e0
   have HOKn:Hid (ISl wr (.slice an nds.length cn) nds/\NSl wr (.slice av wvl.length cv) wvl/\ISl wr (.slice ai wsl.length ci) wsl/\NSl wr (.slice a1 gsl.length c1) gsl/\NSl wr (.slice a2 vsl.length c2) vsl):=hid' ⟨HOK.out.nodes,HOK.out.wv,HOK.out.ws,HOK.out.gs,HOK.out.vs⟩
   have HSn:Hid (nds.length<=9223372036854775807/\(X.bs mnm).size<=9223372036854775807/\gsl.length<=4611686018427387903/\vsl.length<=4611686018427387903/\nm.length<=4611686018427387903):=hid' ⟨HS1.out.nodes,by rw[bs_size];exact HS1.out.md,HS1.out.gs,HS1.out.vs,HS1.out.name⟩
   have HD4:Hid (fdevB fn fm fx fk ds _=(endsB fn k nds&&(refB ds k rf&&(!strayB k (X.bs mnm).toList mk gsl.length vsl.length&&(chkC (aloneC fm fx fk (gndL nds.length) k vm vx wk wvl wsl ⟨(X.bs mnm).data.toList,mk,gsl,vsl⟩) == 0))))):=hid' (by rw[toL,X.bs_list];exact HDV.out)
   have HTW:=hid' (fun (hf:endsB fn k nds=true)=>ends_two hf)
   have HNM:=hid' (show (ds.take (i+1)).map DE.name=(ds.take i).map DE.name++[nm] by rw[HTK.out,List.map_append];rfl)
   have HAL:=hid' (fun hf=>show (ds.take (i+1)).all (fdevB fn fm fx fk ds)=true by rw[HTK.out,List.all_append,H.out.2.2.2,List.all_cons,List.all_nil,Bool.and_true,Bool.true_and];exact hf)
   have HST:=hid' (show strs [nm]=[.string (X.bs nm)] from rfl)
   have HLN:=hid' (show ((ds.take i).map DE.name).length=i by rw[List.length_map,List.length_take];have:=HN.out;omega)
   clear HOK HS1 HDV HTK
   generalize X.bs nm=s at e1 HST
   generalize X.bs mnm=ms at e9 HSn HD4
   obtain⟨nn,hnn9⟩:∃q,q=nds.length:=⟨_,rfl⟩
   rw[<-hnn9]at e2 HOKn HSn HD4 HTW
   clear hnn9
   generalize wvl.length=nv at e7 HOKn
   generalize wsl.length=ni at e8 HOKn
   generalize gsl.length=n1 at e11 HOKn HSn HD4
   generalize vsl.length=n2 at e12 HOKn HSn HD4
   clear hx hc hnn hb' hxx
   have kD:=(Kept.refl wr).alloc (.cells #[.int .u8 k,.string s,.slice an nn cn,.int .i64 rf,.int .i64 vm,.int .i64 vx,.int .i64 wk,.slice av nv cv,.slice ai ni ci,.string ms,.int .u8 mk,.slice a1 n1 c1,.slice a2 n2 c2] 48)
   have hD:=RowL.alloc 48 wr [.int .u8 k,.string s,.slice an nn cn,.int .i64 rf,.int .i64 vm,.int .i64 vx,.int .i64 wk,.slice av nv cv,.slice ai ni ci,.string ms,.int .u8 mk,.slice a1 n1 c1,.slice a2 n2 c2]
   go_upto_region 7 with fail
   have HF:=hid' (H.out.2.2.1.kept kD)
   have HO:=hid' (H.out.2.1.kept kD)
   have HK:=hid' (H.out.1.trans kD)
   have HOKn:=hid' (show _/\_/\_/\_/\_ from⟨HOKn.out.1.kept kD,HOKn.out.2.1.kept kD,HOKn.out.2.2.1.kept kD,HOKn.out.2.2.2.1.kept kD,HOKn.out.2.2.2.2.kept kD⟩)
   generalize wr.alloc (.cells #[.int .u8 k,.string s,.slice an nn cn,.int .i64 rf,.int .i64 vm,.int .i64 vx,.int .i64 wk,.slice av nv cv,.slice ai ni ci,.string ms,.int .u8 mk,.slice a1 n1 c1,.slice a2 n2 c2] 48)=W2 at kD hD HF HO HK HOKn ⊢
   obtain⟨q,hq⟩:∃q,q=wr.heap.size:=⟨_,rfl⟩
   rw[<-hq]at hD ⊢
   have HD:=hid' hD
   have HKD:=hid' (Kept.refl W2)
   clear kD hD hq e0 e1 e2 e3 e4 e5 e6 e7 e8 e9 e10 e11 e12 H
   have f0:=HF.out.cell 0 (.slice fa fn fc)
   have f1:=HF.out.cell 1 (.slice (some ⟨b,off,none⟩) dn dc)
   have f2:=HF.out.cell 2 (.int .i64 fm)
   have f3:=HF.out.cell 3 (.int .i64 fx)
   have f4:=HF.out.cell 4 (.int .i64 fk)
   have g0:=HD.out.cell 0 (.int .u8 k)
   have g1:=HD.out.cell 1 (.string s)
   have g2:=HD.out.cell 2 (.slice an nn cn)
   have g3:=HD.out.cell 3 (.int .i64 rf)
   have g4:=HD.out.cell 4 (.int .i64 vm)
   have g5:=HD.out.cell 5 (.int .i64 vx)
   have g6:=HD.out.cell 6 (.int .i64 wk)
   have g7:=HD.out.cell 7 (.slice av nv cv)
   have g8:=HD.out.cell 8 (.slice ai ni ci)
   have g9:=HD.out.cell 9 (.string ms)
   have g10:=HD.out.cell 10 (.int .u8 mk)
   have g11:=HD.out.cell 11 (.slice a1 n1 c1)
   have g12:=HD.out.cell 12 (.slice a2 n2 c2)
   go_wp2_with fail
   refine(rightEnds_any fa fn fc (some ⟨b,off,none⟩) dn dc fm fx fk k s an nn cn rf vm vx wk av nv cv ai ni ci ms mk a1 n1 c1 a2 n2 c2 nds _ HOKn.out.1 HSn.out.1).mono ?_
   rintro e w3 ⟨hk,rfl⟩
   have HKD:=hid' (HKD.out.trans hk)
   have HF:=hid' (HF.out.kept hk)
   have HD:=hid' (HD.out.kept hk)
   have HO:=hid' (HO.out.kept hk)
   have HK:=hid' (HK.out.trans hk)
   clear hk f0 f1 f2 f3 f4 g0 g1 g2 g3 g4 g5 g6 g7 g8 g9 g10 g11 g12
   have f0:=HF.out.cell 0 (.slice fa fn fc)
   have f1:=HF.out.cell 1 (.slice (some ⟨b,off,none⟩) dn dc)
   have f2:=HF.out.cell 2 (.int .i64 fm)
   have f3:=HF.out.cell 3 (.int .i64 fx)
   have f4:=HF.out.cell 4 (.int .i64 fk)
   have g0:=HD.out.cell 0 (.int .u8 k)
   have g1:=HD.out.cell 1 (.string s)
   have g2:=HD.out.cell 2 (.slice an nn cn)
   have g3:=HD.out.cell 3 (.int .i64 rf)
   have g4:=HD.out.cell 4 (.int .i64 vm)
   have g5:=HD.out.cell 5 (.int .i64 vx)
   have g6:=HD.out.cell 6 (.int .i64 wk)
   have g7:=HD.out.cell 7 (.slice av nv cv)
   have g8:=HD.out.cell 8 (.slice ai ni ci)
   have g9:=HD.out.cell 9 (.string ms)
   have g10:=HD.out.cell 10 (.int .u8 mk)
   have g11:=HD.out.cell 11 (.slice a1 n1 c1)
   have g12:=HD.out.cell 12 (.slice a2 n2 c2)
   cases hb1:endsB fn k nds with
   |false=>
    rw[hb1]at HD4
    go_wp2_with fail
    go_ret
    exact⟨HK.out,by rw[HNO.out (by rw[HD4.out];rfl)];rfl⟩
   |true=>
   rw[hb1]at HD4
   have HTW:=hid' (HTW.out hb1)
   clear hb1
   go_wp2_with fail
   refine(rightRef_any fa fn fc (some ⟨b,off,none⟩) dn dc fm fx fk k s an nn cn rf vm vx wk av nv cv ai ni ci ms mk a1 n1 c1 a2 n2 c2 ds _ (HL.out.kept HK.out)).mono ?_
   rintro e w4 ⟨hk,rfl⟩
   have HKD:=hid' (HKD.out.trans hk)
   have HF:=hid' (HF.out.kept hk)
   have HD:=hid' (HD.out.kept hk)
   have HO:=hid' (HO.out.kept hk)
   have HK:=hid' (HK.out.trans hk)
   clear hk f0 f1 f2 f3 f4 g0 g1 g2 g3 g4 g5 g6 g7 g8 g9 g10 g11 g12
   have f0:=HF.out.cell 0 (.slice fa fn fc)
   have f1:=HF.out.cell 1 (.slice (some ⟨b,off,none⟩) dn dc)
   have f2:=HF.out.cell 2 (.int .i64 fm)
   have f3:=HF.out.cell 3 (.int .i64 fx)
   have f4:=HF.out.cell 4 (.int .i64 fk)
   have g0:=HD.out.cell 0 (.int .u8 k)
   have g1:=HD.out.cell 1 (.string s)
   have g2:=HD.out.cell 2 (.slice an nn cn)
   have g3:=HD.out.cell 3 (.int .i64 rf)
   have g4:=HD.out.cell 4 (.int .i64 vm)
   have g5:=HD.out.cell 5 (.int .i64 vx)
   have g6:=HD.out.cell 6 (.int .i64 wk)
   have g7:=HD.out.cell 7 (.slice av nv cv)
   have g8:=HD.out.cell 8 (.slice ai ni ci)
   have g9:=HD.out.cell 9 (.string ms)
   have g10:=HD.out.cell 10 (.int .u8 mk)
   have g11:=HD.out.cell 11 (.slice a1 n1 c1)
   have g12:=HD.out.cell 12 (.slice a2 n2 c2)
   cases hb2:refB ds k rf with
   |false=>
    rw[hb2]at HD4
    go_wp2_with fail
    go_ret
    exact⟨HK.out,by rw[HNO.out (by rw[HD4.out];rfl)];rfl⟩
   |true=>
   rw[hb2]at HD4
   clear hb2
   go_wp2_with fail
   refine(stray_any k s an nn cn rf vm vx wk av nv cv ai ni ci ms mk a1 n1 c1 a2 n2 c2 _).mono ?_
   rintro e w5 ⟨hk,rfl⟩
   have HKD:=hid' (HKD.out.trans hk)
   have HF:=hid' (HF.out.kept hk)
   have HD:=hid' (HD.out.kept hk)
   have HO:=hid' (HO.out.kept hk)
   have HK:=hid' (HK.out.trans hk)
   clear hk f0 f1 f2 f3 f4 g0 g1 g2 g3 g4 g5 g6 g7 g8 g9 g10 g11 g12
   have f0:=HF.out.cell 0 (.slice fa fn fc)
   have f1:=HF.out.cell 1 (.slice (some ⟨b,off,none⟩) dn dc)
   have f2:=HF.out.cell 2 (.int .i64 fm)
   have f3:=HF.out.cell 3 (.int .i64 fx)
   have f4:=HF.out.cell 4 (.int .i64 fk)
   have g0:=HD.out.cell 0 (.int .u8 k)
   have g1:=HD.out.cell 1 (.string s)
   have g2:=HD.out.cell 2 (.slice an nn cn)
   have g3:=HD.out.cell 3 (.int .i64 rf)
   have g4:=HD.out.cell 4 (.int .i64 vm)
   have g5:=HD.out.cell 5 (.int .i64 vx)
   have g6:=HD.out.cell 6 (.int .i64 wk)
   have g7:=HD.out.cell 7 (.slice av nv cv)
   have g8:=HD.out.cell 8 (.slice ai ni ci)
   have g9:=HD.out.cell 9 (.string ms)
   have g10:=HD.out.cell 10 (.int .u8 mk)
   have g11:=HD.out.cell 11 (.slice a1 n1 c1)
   have g12:=HD.out.cell 12 (.slice a2 n2 c2)
   cases hb3:strayB k ms.toList mk n1 n2 with
   |true=>
    rw[hb3]at HD4
    go_wp2_with fail
    go_ret
    exact⟨HK.out,by rw[HNO.out (by rw[HD4.out];rfl)];rfl⟩
   |false=>
   rw[hb3]at HD4
   clear hb3
   go_wp2_with fail
   refine(alone_de fa fn fc (some ⟨b,off,none⟩) dn dc fm fx fk k s an nn cn rf vm vx wk av nv cv ai ni ci ms mk a1 n1 c1 a2 n2 c2 _ HTW.out wvl wsl gsl vsl (HLE.out.1.kept HK.out) (HLE.out.2.1.kept HK.out) (HLE.out.2.2.kept HK.out) (HOKn.out.2.1.kept HKD.out) (HOKn.out.2.2.1.kept HKD.out) (HOKn.out.2.2.2.1.kept HKD.out) (HOKn.out.2.2.2.2.kept HKD.out) HSn.out.2.1 HSn.out.2.2.1 HSn.out.2.2.2.1).mono ?_
   rintro e w6 ⟨hk,rfl⟩
   have HF:=hid' (HF.out.kept hk)
   have HD:=hid' (HD.out.kept hk)
   have HO:=hid' (HO.out.kept hk)
   have HK:=hid' (HK.out.trans hk)
   clear hk f0 f1 f2 f3 f4 g0 g1 g2 g3 g4 g5 g6 g7 g8 g9 g10 g11 g12
   have f0:=HF.out.cell 0 (.slice fa fn fc)
   have f1:=HF.out.cell 1 (.slice (some ⟨b,off,none⟩) dn dc)
   have f2:=HF.out.cell 2 (.int .i64 fm)
   have f3:=HF.out.cell 3 (.int .i64 fx)
   have f4:=HF.out.cell 4 (.int .i64 fk)
   have g0:=HD.out.cell 0 (.int .u8 k)
   have g1:=HD.out.cell 1 (.string s)
   have g2:=HD.out.cell 2 (.slice an nn cn)
   have g3:=HD.out.cell 3 (.int .i64 rf)
   have g4:=HD.out.cell 4 (.int .i64 vm)
   have g5:=HD.out.cell 5 (.int .i64 vx)
   have g6:=HD.out.cell 6 (.int .i64 wk)
   have g7:=HD.out.cell 7 (.slice av nv cv)
   have g8:=HD.out.cell 8 (.slice ai ni ci)
   have g9:=HD.out.cell 9 (.string ms)
   have g10:=HD.out.cell 10 (.int .u8 mk)
   have g11:=HD.out.cell 11 (.slice a1 n1 c1)
   have g12:=HD.out.cell 12 (.slice a2 n2 c2)
   generalize (chkC (aloneC fm fx fk (gndL nn) k vm vx wk wvl wsl ⟨ms.data.toList,mk,gsl,vsl⟩) == 0)=b4 at HD4 ⊢
   cases b4 with
   |false=>
    go_wp2_with fail
    go_ret
    exact⟨HK.out,by rw[HNO.out (by rw[HD4.out];rfl)];rfl⟩
   |true=>
   obtain⟨nl,hnl⟩:∃l,l=(ds.take i).map DE.name:=⟨_,rfl⟩
   rw[<-hnl]at HO HNM HLN
   clear hnl
   have KA:=(Kept.refl w6).alloc (.cells #[.string s] 9)
   have own0:=own_kept HO.out (fun b hb=>KA.block b (HO.out.lt b hb).2)
   go_wp2_with (at_builtin;refine wpList_append_lies _ rfl (.tmp 37) (.tmp 40) 22 rfl (p+1) 9 i0 (.string ByteArray.empty) 1 16 X.und_strs hi hz0 hz1 hz2 rfl (by decide) _ nl.length (strs nl) rfl own0 ⟨w6.heap.size,0,none⟩ 1 1 [.string s] rfl rfl (X.cell_new w6 _ _) (fun u hu=>by simp at hu;subst hu;rfl) (by omega) (by have:=HLN.out;unfold maxLen;omega) (by have:=HLN.out;omega) (by have:=HF.out.lt;simp;omega) _ rfl ?_)
   intro g4 cap4 W4 own4 hg4 hgg _
   have ng:=own_row own0 (HF.out.kept KA) (by decide)
   have HNx:=hid' (And.intro (show Kept w W4 from Below.grown (HK.out.trans KA) hg4 (HK.out.trans KA).size (fun k hk=>by have:=(own0.lt k hk).1;have:=HP.out;omega)) (And.intro (show OwnS (p+1) W4 (.slice (some ⟨g4,0,none⟩) (nl.length+1) cap4) ((ds.take (i+1)).map DE.name) by
    unfold OwnS
    rw[HNM.out,List.length_append,List.length_singleton,show strs (nl++[nm])=strs nl++strs [nm] from List.map_append,HST.out]
    exact own4) (And.intro (show RowL 27 W4 p [.slice fa fn fc,.slice (some ⟨b,off,none⟩) dn dc,.int .i64 fm,.int .i64 fx,.int .i64 fk] from(HF.out.kept KA).block (hg4.block _ (HF.out.kept KA).lt (fun e=>ng e.symm))) (HAL.out (by rw[HD4.out];rfl)))))
   clear own4 hg4 hgg own0 KA ng
   go_wp2_with fail
   go_roundw
   case rel=>exact⟨i+1,_,by omega,rfl,by go_num,HNx.out⟩
   case measure=>show dn-((i:Int)+1).toNat<dn-(i:Int).toNat;omega
  ·have hii:¬(i:Int)<(dn:Int):=by omega
   have hl:ds.take i=ds:=List.take_of_length_le (by have:=HN.out;omega)
   have HO:=hid' (show OwnS (p+1) wr _ (ds.map DE.name) by have:=H.out.2.1;rw[hl]at this;exact this)
   have HA:=hid' (show ds.all (fdevB fn fm fx fk ds)=true by have:=H.out.2.2.2;rw[hl]at this;exact this)
   clear hl
   obtain⟨ao,cap,hv,hc1,hc2⟩:=own_cap HO.out
   obtain⟨m,hm⟩:∃m,m=(ds.map DE.name).length:=⟨_,rfl⟩
   rw[<-hm]at hv hc1
   subst hv
   have HCP:=hid' (And.intro hc1 hc2)
   clear hc1 hc2 hm
   go_wp2_with fail
   refine(rightNames_any ao m cap (ds.map DE.name) _ HO.out.rs HCP.out.1 HCP.out.2 (fun x hx=>?_)).mono ?_
   ·obtain⟨d,hd,rfl⟩:=List.mem_map.1 hx
    exact(HSZ.out d hd).name
   rintro e w3 ⟨hk,rfl⟩
   have HK:=hid' (H.out.1.trans hk)
   clear hk
   go_wp2_with fail
   go_ret
   exact⟨HK.out,by rw[HDB.out,HA.out,Bool.true_and];rfl⟩
end V
end Go.Proofs.YtdjhmgmjiglcbaaGreatDoor
