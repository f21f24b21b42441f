/- Lemmas. -/
import Derived.Test.YtdjhmgmjiglcbaaGreatDoorGab
import Derived.Test.YtdjhmgmjiglcbaaGreatDoorGao
import Derived.Deep.MidRow
set_option maxRecDepth 100000
set_option maxHeartbeats 4000000
namespace Go.Proofs.YtdjhmgmjiglcbaaGreatDoor
open Go.RowKit
namespace Q
def lcs:Array Value:=#[.string ⟨#[102]⟩,.int .i64 (-15),.string ⟨#[112]⟩,.int .i64 (-12),.string ⟨#[110]⟩,.int .i64 (-9),.string ⟨#[117]⟩,.int .i64 (-6),.string ⟨#[109]⟩,.int .i64 (-3),.string ⟨#[]⟩,.int .i64 0,.string ⟨#[107]⟩,.int .i64 3,.string ⟨#[109,101,103]⟩,.int .i64 6,.string ⟨#[103]⟩,.int .i64 9,.string ⟨#[116]⟩,.int .i64 12]
def Lett (w:World):Prop:=w.rangeAt 0 0 lcs.toList
theorem Lett.kept {w w':World}(h:Lett w)(k:Kept w w'):Lett w':=fun j v hv=>cell_kept k (h j v hv)
theorem idx (k:Nat)(h:k<10):∃nm x,names[k]?=some (nm,x)/\∀w,(Instr.index 215 (.agg lcs) (.int .i64 (k:Int))).run Tryz.prog w=.ok (.agg #[.string ⟨nm.toArray⟩,.int .i64 x]) w:=by
 match k,h with
 |0,_=>exact⟨_,_,rfl,fun _=>by kernel_rfl⟩
 |1,_=>exact⟨_,_,rfl,fun _=>by kernel_rfl⟩
 |2,_=>exact⟨_,_,rfl,fun _=>by kernel_rfl⟩
 |3,_=>exact⟨_,_,rfl,fun _=>by kernel_rfl⟩
 |4,_=>exact⟨_,_,rfl,fun _=>by kernel_rfl⟩
 |5,_=>exact⟨_,_,rfl,fun _=>by kernel_rfl⟩
 |6,_=>exact⟨_,_,rfl,fun _=>by kernel_rfl⟩
 |7,_=>exact⟨_,_,rfl,fun _=>by kernel_rfl⟩
 |8,_=>exact⟨_,_,rfl,fun _=>by kernel_rfl⟩
 |9,_=>exact⟨_,_,rfl,fun _=>by kernel_rfl⟩
theorem str_eq (nm:List UInt8)(s:ByteArray):(nm == s.toList)=decide (nm=s.data.toList):=by
 rw[Go.ByteArray.toList_eq]
 by_cases h:nm=s.data.toList
 ·rw[decide_eq_true h];simp[h]
 ·rw[decide_eq_false h];simp[h]
theorem bytes_eq {nm:List UInt8}{s:ByteArray}(h:nm=s.data.toList):(⟨nm.toArray⟩:ByteArray)=s:=by subst h;simp
theorem lett_no {L:List UInt8}(h:∀p∈names,¬p.1=L):lettOf L=none:=by
 unfold lettOf
 rw[List.find?_eq_none.2 (fun p hp=>by simpa using h p hp)];rfl
theorem lett_yes {L nm:List UInt8}{x:Int}{k:Nat}(hk:names[k]?=some (nm,x))(h:nm=L)(h0:∀p∈names.take k,¬p.1=L):lettOf L=some x:=by
 subst h
 have hk':k<names.length:=by
  rcases Nat.lt_or_ge k names.length with h|h
  ·exact h
  ·rw[List.getElem?_eq_none h]at hk;cases hk
 have e:names=names.take k++(nm,x)::names.drop (k+1):=by
  have h1:=List.take_append_drop k names
  rw[List.drop_eq_getElem_cons hk']at h1
  rw[List.getElem?_eq_getElem hk',Option.some.injEq]at hk
  rw[hk]at h1
  exact h1.symm
 unfold lettOf
 rw[e,List.find?_append,List.find?_eq_none.2 (fun p hp=>by simpa using h0 p hp)]
 simp
theorem take_next {k:Nat}{nm:List UInt8}{x:Int}{P:List UInt8×Int->Prop}(hk:names[k]?=some (nm,x))(h0:∀p∈names.take k,P p)(h:P (nm,x)):∀p∈names.take (k+1),P p:=by
 rw[List.take_add_one,hk]
 intro p hp
 rcases List.mem_append.1 hp with h1|h1
 ·exact h0 p h1
 ·simp at h1;subst h1;exact h
theorem letterNamed_any (s:ByteArray)(w:World)(hl:Lett w):Calls Tryz.prog 272 #[.string s] w fun e w'=>Kept w w'/\((lettOf s.data.toList=none/\e=.returned (.tuple #[.agg #[.string ⟨#[]⟩,.int .i64 0],.bool false])) ∨ ∃p,lettOf s.data.toList=some p/\e=.returned (.tuple #[.agg #[.string s,.int .i64 p],.bool true])):=by
 have HL:=hid' hl
 clear hl
 go_enter Tryz.func272,Tryz.ntmps272
 go_upto_region 1 with fail
 have hK:=(Kept.refl w).alloc (.cells #[.string ⟨#[]⟩,.int .i64 0] 195)
 have hR:=Row2.alloc 195 w (.string ⟨#[]⟩) (.int .i64 0)
 generalize w.alloc (.cells #[.string ⟨#[]⟩,.int .i64 0] 195)=W at hK hR ⊢
 obtain⟨p2,hp2⟩:∃p,p=w.heap.size:=⟨_,rfl⟩
 rw[<-hp2]at hR ⊢
 have HP:Hid (w.heap.size<=p2):=by show _<=_;omega
 refine wp_region_list ?_
 refine wpList_load_mid rfl 215 (.global 0) rfl 0 0 rfl lcs.toList _ (HL.out.kept hK) Tryz.underlying215 rfl (by kernel_rfl) ?_
 obtain⟨C,hC⟩:∃C,C=lcs:=⟨_,rfl⟩
 rw[show lcs.toList.toArray=C by rw[hC]]
 have HS:=hid' hC
 have HK:=hid' hK
 have HR:=hid' hR
 clear hC hK hR hp2
 go_wp2_with fail
 go_loopw [7] (fun vi wr=>∃k:Nat,k<=10/\vi=.int .i64 (k:Int)/\Hid (Kept W wr/\∀p∈names.take k,¬p.1=s.data.toList)) (fun vi _=>10-(intOf vi).toNat)
 case atStart=>exact⟨0,Nat.zero_le _,rfl,Kept.refl _,fun p hp=>by simp at hp⟩
 case round=>
  obtain⟨k,hk,rfl,HI⟩:=hrel
  by_cases hlt:k<10
  ·obtain⟨nm,x,hnm,hidx⟩:=idx k hlt
   rw[<-HS.out]at hidx
   have HN:=hid' hnm
   clear hnm
   have hlt':(k:Int)<10:=by omega
   have r2:=HR.out.kept (HI.out.1.alloc (.cells #[.string ⟨nm.toArray⟩,.int .i64 x] 195))
   obtain⟨q0,q1,q2,q3⟩:=r2.all
   by_cases he:nm=s.data.toList
   ·have hs:(nm == s.toList)=true:=by rw[str_eq,decide_eq_true he]
    have HE:=hid' he
    have H2:=hid' r2
    clear he r2
    go_wp2_with fail
    exact bodyPost_ret (v:=.tuple #[.agg #[.string ⟨nm.toArray⟩,.int .i64 x],.bool true]) (by simp[results,Tryz.results272,go_sem,q0,q1]) rfl ⟨Kept.put2 ((HK.out.trans HI.out.1).alloc _) HP.out _ _,.inr ⟨x,lett_yes HN.out HE.out HI.out.2,by rw[bytes_eq HE.out]⟩⟩
   ·have hs:(nm == s.toList)=false:=by rw[str_eq,decide_eq_false he]
    have HE:=hid' he
    clear he r2
    go_wp2_with fail
    go_roundw
    case rel=>exact⟨k+1,by omega,by go_num,HI.out.1.alloc _,take_next HN.out HI.out.2 HE.out⟩
    case measure=>show 10-((k:Int)+1).toNat<10-(k:Int).toNat;omega
  ·obtain rfl:k=10:=by omega
   have H0:=hid' (lett_no (L:=s.data.toList) (fun p hp=>HI.out.2 p (by simpa[names]using hp)))
   obtain⟨q0,q1,q2,q3⟩:=(HR.out.kept HI.out.1).all
   go_wp2_with fail
   exact bodyPost_ret (v:=.tuple #[.agg #[.string ⟨#[]⟩,.int .i64 0],.bool false]) (by simp[results,Tryz.results272,go_sem,q0,q1]) rfl ⟨Kept.put2 (HK.out.trans HI.out.1) HP.out _ _,.inl ⟨H0.out,rfl⟩⟩
def belK (x:Int)(k:Nat):Option (List UInt8×Int):=(names.take k).foldl (fun a p=>if p.2<=x then some p else a) none
theorem belK_next {x:Int}{k:Nat}{nm:List UInt8}{y:Int}(hk:names[k]?=some (nm,y)):belK x (k+1)=if y<=x then some (nm,y) else belK x k:=by
 unfold belK
 rw[List.take_add_one,hk,List.foldl_append]
 rfl
def fnm (o:Option (List UInt8×Int)):ByteArray:=match o with|none=>⟨#[]⟩|some p=>⟨p.1.toArray⟩
def fex (o:Option (List UInt8×Int)):Int:=match o with|none=>0|some p=>p.2
theorem letterBelow_any (x:Int)(w:World)(hl:Lett w):Calls Tryz.prog 183 #[.int .i64 x] w fun e w'=>Kept w w'/\e=.returned (.tuple #[.agg #[.string (fnm (below x)),.int .i64 (fex (below x))],.bool (below x).isSome]):=by
 have HL:=hid' hl
 clear hl
 go_enter Tryz.func183,Tryz.ntmps183
 go_upto_region 2 with fail
 have hK:=((Kept.refl w).alloc (.cells #[.string ⟨#[]⟩,.int .i64 0] 195)).alloc (.cells #[.string ⟨#[]⟩,.int .i64 0] 195)
 have hR:=(Row2.alloc 195 w (.string ⟨#[]⟩) (.int .i64 0)).kept ((Kept.refl _).alloc (.cells #[.string ⟨#[]⟩,.int .i64 0] 195))
 have hR4:=Row2.alloc 195 (w.alloc (.cells #[.string ⟨#[]⟩,.int .i64 0] 195)) (.string ⟨#[]⟩) (.int .i64 0)
 rw[World.size_alloc]at hR4
 generalize (w.alloc (.cells #[.string ⟨#[]⟩,.int .i64 0] 195)).alloc (.cells #[.string ⟨#[]⟩,.int .i64 0] 195)=W at hK hR hR4 ⊢
 obtain⟨p4,hp4⟩:∃p,p=w.heap.size+1:=⟨_,rfl⟩
 rw[<-hp4]at hR4 ⊢
 obtain⟨p2,hp2⟩:∃p,p=w.heap.size:=⟨_,rfl⟩
 rw[<-hp2]at hR ⊢
 have HP:Hid (w.heap.size<=p2/\w.heap.size<=p4/\¬p2=p4):=⟨by omega,by omega,by omega⟩
 refine wp_region_list ?_
 refine wpList_load_mid rfl 215 (.global 0) rfl 0 0 rfl lcs.toList _ (HL.out.kept hK) Tryz.underlying215 rfl (by kernel_rfl) ?_
 obtain⟨C,hC⟩:∃C,C=lcs:=⟨_,rfl⟩
 rw[show lcs.toList.toArray=C by rw[hC]]
 have HS:=hid' hC
 have H0:=hid' (And.intro hK (And.intro hR hR4))
 clear hC hK hR hR4 hp2 hp4
 go_wp2_with fail
 go_loopw [5,10] (fun vo vi wr=>∃k:Nat,k<=10/\vi=.int .i64 (k:Int)/\vo=.bool (belK x k).isSome/\Hid (Kept w wr/\Row2 195 wr p2 (.string ⟨#[]⟩) (.int .i64 0)/\Row2 195 wr p4 (.string (fnm (belK x k))) (.int .i64 (fex (belK x k))))) (fun _ vi _=>10-(intOf vi).toNat)
 case atStart=>exact⟨0,Nat.zero_le _,rfl,rfl,H0.out⟩
 case round=>
  obtain⟨k,hk,rfl,rfl,HI⟩:=hrel
  by_cases hlt:k<10
  ·obtain⟨nm,y,hnm,hidx⟩:=idx k hlt
   rw[<-HS.out]at hidx
   have HN:=hid' (belK_next (x:=x) hnm)
   clear hnm
   have hlt':(k:Int)<10:=by omega
   have r4:=HI.out.2.2.kept ((Kept.refl wr).alloc (.cells #[.string ⟨nm.toArray⟩,.int .i64 y] 195))
   obtain⟨q0,q1,q2,q3⟩:=r4.all
   by_cases he:y<=x
   ·have HE:=hid' he
    have H4:=hid' r4
    clear r4
    go_wp2_with fail
    go_roundw
    case rel=>
     have e:=HN.out
     rw[if_pos HE.out]at e
     refine⟨k+1,by omega,by go_num,by rw[e];rfl,Kept.put2 (HI.out.1.alloc _) HP.out.2.1 _ _,(HI.out.2.1.kept ((Kept.refl wr).alloc _)).far HP.out.2.2 _ _,?_⟩
     rw[e]
     exact H4.out.set2 _ _
    case measure=>show 10-((k:Int)+1).toNat<10-(k:Int).toNat;omega
   ·have HE:=hid' he
    have H4:=hid' r4
    clear r4
    go_wp2_with fail
    go_roundw
    case rel=>
     have e:=HN.out
     rw[if_neg HE.out]at e
     refine⟨k+1,by omega,by go_num,by rw[e],HI.out.1.alloc _,HI.out.2.1.kept ((Kept.refl wr).alloc _),?_⟩
     rw[e]
     exact H4.out
    case measure=>show 10-((k:Int)+1).toNat<10-(k:Int).toNat;omega
  ·obtain rfl:k=10:=by omega
   obtain⟨q0,q1,q2,q3⟩:=HI.out.2.1.all
   obtain⟨g0,g1,g2,g3⟩:=HI.out.2.2.all
   have hne:¬p4=p2:=fun h=>HP.out.2.2 h.symm
   go_wp2_with fail
   exact bodyPost_ret (v:=.tuple #[.agg #[.string (fnm (belK x 10)),.int .i64 (fex (belK x 10))],.bool (belK x 10).isSome]) (by simp[results,Tryz.results183,go_sem,q0,q1]) rfl ⟨Kept.put2 HI.out.1 HP.out.1 _ _,by rw[show below x=belK x 10 from rfl]⟩
end Q
end Go.Proofs.YtdjhmgmjiglcbaaGreatDoor
