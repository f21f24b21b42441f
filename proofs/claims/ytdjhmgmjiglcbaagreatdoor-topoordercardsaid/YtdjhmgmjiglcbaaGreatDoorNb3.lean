/- flat's longName, rightNames, rightNodes. -/
import Derived.Test.YtdjhmgmjiglcbaaGreatDoorGay
import Derived.Test.YtdjhmgmjiglcbaaGreatDoorNa2
set_option maxRecDepth 100000
set_option maxHeartbeats 8000000
namespace Go.Proofs.YtdjhmgmjiglcbaaGreatDoor
open Go.RowKit
namespace V
open Q (hid')
open X (RS)
theorem splitN_any (s:ByteArray)(w:World)(hs:s.size<=4611686018427387903) :
  Calls Tryz.prog 116 #[.string s,.string ⟨#[46]⟩,.int .i64 10] w fun e w'=>Kept w w'/\∃ao c,e=.returned (.slice ao (splitD 9 s.data.toList).length c)/\RS w' (.slice ao (splitD 9 s.data.toList).length c) (splitD 9 s.data.toList)/\c<=10:=by
 have hG:=genSplit_any s w hs
 generalize splitD 9 s.data.toList=P at hG ⊢
 go_enter Tryz.func116,Tryz.ntmps116
 go_wp2_with fail
 refine hG.mono ?_
 rintro e w1 ⟨hk,ao,c,rfl,hr,hc⟩
 have H:=hid' (And.intro hk (And.intro hr hc))
 clear hk hr hc hG
 go_wp2_with fail
 go_ret
 exact⟨H.out.1,ao,c,rfl,H.out.2.1,H.out.2.2⟩
def longB (l:List UInt8):Bool:=decide ((splitD 9 l).length<=9) && !((splitD 9 l).any fun p=>!okName p)
theorem long1 (p:List UInt8)(w:World)(hs:p.length<=9223372036854775807):Calls Tryz.prog 118 #[.string (X.bs p)] w fun e w'=>e=.returned (.bool (!okName p))/\Kept w w':=by
 have hn:=fun V=>fName_any (X.bs p) V (by rw[X.bs_size];exact hs)
 rw[X.bs_list]at hn
 generalize okName p=ok at hn ⊢
 generalize X.bs p=s at hn ⊢
 go_enter Tryz.func118,Tryz.ntmps118
 go_wp2_with fail
 refine(hn _).mono ?_
 rintro e w1 ⟨hk,rfl⟩
 go_wp2_with fail
 go_ret
 exact⟨rfl,hk⟩
theorem long_any (s:ByteArray)(w:World)(hs:s.size<=4611686018427387903):Calls Tryz.prog 75 #[.string s] w fun e w'=>Kept w w'/\e=.returned (.bool (longB s.data.toList)):=by
 have hl:s.data.toList.length=s.size:=by rw[Array.length_toList];rfl
 have hS:=splitN_any s w hs
 have hle:=splitD_lens 9 s.data.toList
 have hll:=splitD_len 9 s.data.toList
 have HB:=hid' (show longB s.data.toList=(decide ((splitD 9 s.data.toList).length<=9) && !((splitD 9 s.data.toList).any fun p=>!okName p)) from rfl)
 generalize longB s.data.toList=lb at HB ⊢
 generalize splitD 9 s.data.toList=P at hS hle hll HB
 have HC:=hid' (fun V ao c (h:RS V (.slice ao P.length c) P)=>con_strs 118 #[] (fun j=>!okName (P.getD j [])) (fun _ _=>by simp) ao P.length c P V (fun W j hW hj=>(long1 (P.getD j []) W (by
  have:P.getD j []∈P:=by rw[List.getD_eq_getElem?_getD,List.getElem?_eq_getElem hj];exact List.getElem_mem _
  have:=hle _ this
  omega)).mono (fun e w' k=>⟨k.1,hW.trans k.2⟩)) h (by omega))
 have e1:=anyB_list P [] (fun p=>!okName p) (fun j=>!okName (P.getD j [])) P.length rfl (fun _ _=>rfl)
 rw[e1]at HC
 generalize (P.any fun p=>!okName p)=bb at HC HB
 obtain⟨n,hn⟩:∃n,n=P.length:=⟨_,rfl⟩
 have HS:=hid' hS
 rw[<-hn]at HS HC HB hll
 clear hl hle e1 hn hS
 go_enter Tryz.func75,Tryz.ntmps75
 go_wp2_with fail
 refine HS.out.mono ?_
 rintro e w1 ⟨hk,ao,c,rfl,hr,_⟩
 have H:=hid' (And.intro hk (HC.out _ _ _ hr))
 clear hk hr
 by_cases h9:n<=9
 ·have h9i:(n:Int)<=9:=by omega
  have HE:=hid' (show lb=!bb by rw[HB.out,decide_eq_true h9];rfl)
  go_wp2_with fail
  refine H.out.2.mono ?_
  rintro e w2 ⟨hk,rfl⟩
  have HK:=hid' (H.out.1.trans hk)
  clear hk
  go_wp2_with fail
  go_ret
  exact⟨HK.out,by rw[HE.out];rfl⟩
 ·have h9i:¬(n:Int)<=9:=by omega
  have HE:=hid' (show lb=false by rw[HB.out,decide_eq_false h9];rfl)
  go_wp2_with fail
  go_ret
  exact⟨H.out.1,by rw[HE.out];rfl⟩
theorem sidx_any (ao:Option Addr)(n c:Nat)(l:List (List UInt8))(t:ByteArray)(w:World)(h:RS w (.slice ao n c) l)(hbig:n<=9223372036854775807) :
  Calls Tryz.prog 120 #[.slice ao n c,.string t] w fun e w'=>Kept w w'/\IdxIs e n (fun j=>t.toList == (X.bs (l.getD j [])).toList):=by
 have HS:=hid' h
 clear h
 go_enter Tryz.func120,Tryz.ntmps120
 go_wp2
 go_loopg [5,8] n (fun gg _ s8 wr=>∃kk:Nat,kk<=n/\n-kk<=gg/\s8=.int .i64 kk/\Aside (Kept w wr)/\Aside (∀j,j<kk->(t.toList == (X.bs (l.getD j [])).toList)=false))
 case atStart=>exact⟨0,Nat.zero_le _,by omega,rfl,Kept.refl w,fun j hj=>absurd hj (Nat.not_lt_zero _)⟩
 case round=>
  obtain⟨kk,hkk,hg,rfl,BW,A⟩:=hrel
  by_cases hlt:kk<n
  ·have hltz:(kk:Int)<(n:Int):=by omega
   obtain⟨ao',cap',hv,hx⟩:=HS.out.kept BW.out
   simp only[Value.slice.injEq]at hv
   obtain⟨rfl,hn,rfl⟩:=hv
   obtain⟨b,off,rfl,hb,hc⟩:=hx (by omega)
   have c0:=hc kk (by omega)
   obtain⟨x0,hx0⟩:∃x,x=X.bs (l.getD kk []):=⟨_,rfl⟩
   rw[<-hx0]at c0
   have HX:=hid' hx0
   have HN:=hid' hn
   clear hx hc hn hx0
   cases hq:(t.toList == x0.toList) with
   |true=>
    have HQ:=hid' (hq.symm.trans (by rw[HX.out])).symm
    go_wp2_with fail
    go_ret
    exact⟨BW.out,idx_hit hlt A.out HQ.out⟩
   |false=>
    have HQ:=hid' (hq.symm.trans (by rw[HX.out])).symm
    go_wp2_with fail
    go_roundg (n-(kk+1))
    case measure=>omega
    case rel=>
     refine⟨kk+1,by omega,by omega,by go_num,BW.out,(show Aside _ from fun j hj=>?_)⟩
     by_cases e:j=kk
     ·subst e;exact HQ.out
     ·exact A.out j (by omega)
  ·have hltz:¬(kk:Int)<(n:Int):=by omega
   have:kk=n:=by omega
   subst this
   go_wp2
   go_ret
   exact⟨BW.out,idx_miss A.out⟩
theorem scon_any (ao:Option Addr)(n c:Nat)(l:List (List UInt8))(t:ByteArray)(w:World)(h:RS w (.slice ao n c) l)(hbig:n<=9223372036854775807) :
  Calls Tryz.prog 76 #[.slice ao n c,.string t] w fun e w'=>Kept w w'/\e=.returned (.bool (anyB (fun j=>t.toList == (X.bs (l.getD j [])).toList) n)):=by
 have hc:=sidx_any ao n c l t w h hbig
 clear h
 go_enter Tryz.func76,Tryz.ntmps76
 go_wp2_with fail
 refine hc.mono ?_
 rintro e w' ⟨hk,i,hi,h1,h2,rfl⟩
 have hA:=any_of_idx hi h1 h2
 generalize (if i=n then (-1:Int) else (i:Int))=z at hA ⊢
 have HA:=hid' (show _=anyB (fun j=>t.toList == (X.bs (l.getD j [])).toList) n from hA)
 clear hA h1 h2 hi
 go_wp2
 all_goals
  go_ret
  refine⟨hk,congrArg (fun b=>Ending.returned (Value.bool b)) ?_⟩
  rw[<-HA.out]
  try simp_all
def badN (l:List (List UInt8))(i:Nat):Bool:=!longB (l.getD i [])||anyB (fun j=>(X.bs (l.getD i [])).toList == (X.bs (l.getD j [])).toList) i
def namesB (l:List (List UInt8)):Bool:=!(anyB (badN l) l.length)
theorem rightNames_any (ao:Option Addr)(n c:Nat)(l:List (List UInt8))(w:World)(h:RS w (.slice ao n c) l)(hcap:n<=c)(hbig:c<=9223372036854775807)(hs:∀x∈l,x.length<=4611686018427387903) :
  Calls Tryz.prog 56 #[.slice ao n c] w fun e w'=>Kept w w'/\e=.returned (.bool (namesB l)):=by
 have hn:n=l.length:=by obtain⟨_,_,e,_⟩:=h;simp at e;exact e.2.1
 have HS:=hid' (And.intro h hs)
 have HN:=hid' hn
 obtain⟨r,hr⟩:∃r,r=namesB l:=⟨_,rfl⟩
 rw[<-hr]
 have HR:=hid' (show r=!(anyB (badN l) n) by rw[hr,hn];rfl)
 clear h hs hr hn
 go_enter Tryz.func56,Tryz.ntmps56
 go_wp2_with fail
 go_loopw [7] (fun v7 wr=>∃i:Nat,i<=n/\v7=.int .i64 (i:Int)/\Hid (Kept w wr/\∀k,k<i->badN l k=false)) (fun v7 _=>n-(intOf v7).toNat)
 case atStart=>exact⟨0,Nat.zero_le _,rfl,Kept.refl w,fun k hk=>absurd hk (Nat.not_lt_zero _)⟩
 case round=>
  obtain⟨i,hi,rfl,H⟩:=hrel
  by_cases hit:i<n
  ·have hii:(i:Int)<(n:Int):=by omega
   have hi0:(0:Int)<=(i:Int):=by omega
   have hic:(i:Int)<=(c:Int):=by omega
   obtain⟨ao',cap',hv,hx⟩:=HS.out.1.kept H.out.1
   simp only[Value.slice.injEq]at hv
   obtain⟨rfl,hn,rfl⟩:=hv
   obtain⟨b,off,rfl,hb,hc⟩:=hx (by omega)
   have c0:=hc i (by omega)
   obtain⟨s,hs⟩:∃s,s=X.bs (l.getD i []):=⟨_,rfl⟩
   rw[<-hs]at c0
   have hsl:s.size<=4611686018427387903:=by
    rw[hs,X.bs_size]
    refine HS.out.2 _ ?_
    rw[List.getD_eq_getElem?_getD,List.getElem?_eq_getElem (by omega)]
    exact List.getElem_mem _
   have hlo:=fun V=>long_any s V hsl
   have hsd:s.data.toList=l.getD i []:=by rw[hs,X.bs_list]
   rw[hsd]at hlo
   have hco:=fun V (K:Kept w V)=>scon_any (some ⟨b,off,none⟩) i c (l.take i) s V ((RS.take HS.out.1 i c (by omega)).kept K) (by omega)
   have e9:anyB (fun j=>s.toList == (X.bs ((l.take i).getD j [])).toList) i=anyB (fun j=>(X.bs (l.getD i [])).toList == (X.bs (l.getD j [])).toList) i:=by
    unfold anyB
    exact any_cong (fun j hj=>by
     have hji:=List.mem_range.1 hj
     rw[List.getD_eq_getElem?_getD,List.getElem?_take_of_lt hji,<-List.getD_eq_getElem?_getD,hs])
   simp only[e9]at hco
   have HBd:=hid' (show badN l i=(!longB (l.getD i [])||anyB (fun j=>(X.bs (l.getD i [])).toList == (X.bs (l.getD j [])).toList) i) from rfl)
   generalize longB (l.getD i [])=lb at hlo HBd
   generalize anyB (fun j=>(X.bs (l.getD i [])).toList == (X.bs (l.getD j [])).toList) i=ab at hco HBd
   have HCO:=hid' hco
   clear hx hc hn hb hs hsd e9 hco hsl
   go_wp2_with fail
   refine(hlo _).mono ?_
   rintro e w1 ⟨hk,rfl⟩
   have HK:=hid' (H.out.1.trans hk)
   clear hk
   cases lb
   ·have HE:=hid' (show r=false by rw[HR.out,anyB_hit hit HBd.out];rfl)
    go_wp2_with fail
    go_ret
    exact⟨HK.out,by rw[HE.out];rfl⟩
   ·go_wp2_with fail
    refine(HCO.out _ HK.out).mono ?_
    rintro e w2 ⟨hk,rfl⟩
    have HK:=hid' (HK.out.trans hk)
    clear hk
    cases ab
    ·have HNx:=hid' (And.intro HK.out (show ∀k,k<i+1->badN l k=false from fun k hk=>by
      by_cases e:k=i
      ·subst e;exact HBd.out
      ·exact H.out.2 k (by omega)))
     go_wp2_with fail
     go_roundw
     case rel=>exact⟨i+1,by omega,by go_num,HNx.out⟩
     case measure=>show n-((i:Int)+1).toNat<n-(i:Int).toNat;omega
    ·have HE:=hid' (show r=false by rw[HR.out,anyB_hit hit HBd.out];rfl)
     go_wp2_with fail
     go_ret
     exact⟨HK.out,by rw[HE.out];rfl⟩
  ·have hii:¬(i:Int)<(n:Int):=by omega
   obtain rfl:i=n:=by omega
   have HE:=hid' (show r=true by rw[HR.out,anyB_miss H.out.2];rfl)
   go_wp2_with fail
   go_ret
   exact⟨H.out.1,by rw[HE.out];rfl⟩
def nodesB (l:List (List UInt8)):Bool:=decide (1<=l.length/\l.length<=32)&&((l.getD 0 [] == [48])&&namesB l)
theorem rightNodes_any (ao:Option Addr)(n c:Nat)(l:List (List UInt8))(w:World)(h:RS w (.slice ao n c) l)(hcap:n<=c)(hbig:c<=9223372036854775807)(hs:∀x∈l,x.length<=4611686018427387903) :
  Calls Tryz.prog 46 #[.slice ao n c] w fun e w'=>Kept w w'/\e=.returned (.bool (nodesB l)):=by
 have hn:n=l.length:=by obtain⟨_,_,e,_⟩:=h;simp at e;exact e.2.1
 have HNm:=hid' (rightNames_any ao n c l w h hcap hbig hs)
 have HB:=hid' (show nodesB l=(decide (1<=n/\n<=32)&&((l.getD 0 [] == [48])&&namesB l)) by rw[hn];rfl)
 generalize nodesB l=nb at HB ⊢
 generalize namesB l=mb at HNm HB
 by_cases h1:n<1
 ·have h1i:(n:Int)<1:=by omega
  have HE:=hid' (show nb=false by rw[HB.out,decide_eq_false (by omega)];rfl)
  clear h hs hn
  go_enter Tryz.func46,Tryz.ntmps46
  go_wp2_with fail
  go_ret
  exact⟨Kept.refl _,by rw[HE.out];rfl⟩
 have h1i:¬(n:Int)<1:=by omega
 by_cases h2:32<n
 ·have h2i:(32:Int)<(n:Int):=by omega
  have HE:=hid' (show nb=false by rw[HB.out,decide_eq_false (by omega)];rfl)
  clear h hs hn
  go_enter Tryz.func46,Tryz.ntmps46
  go_wp2_with fail
  go_ret
  exact⟨Kept.refl _,by rw[HE.out];rfl⟩
 have h2i:¬(32:Int)<(n:Int):=by omega
 have hn0:0<n:=by omega
 have hn0i:(0:Int)<(n:Int):=by omega
 obtain⟨ao',cap',hv,hx⟩:=h
 simp only[Value.slice.injEq]at hv
 obtain⟨rfl,hn',rfl⟩:=hv
 obtain⟨b,off,rfl,hb,hc⟩:=hx (by omega)
 have c0:=hc 0 (by omega)
 rw[Nat.add_zero]at c0
 have ht:(X.bs (l.getD 0 [])).toList=l.getD 0 []:=by rw[ByteArray.toList_eq,X.bs_list]
 rw[<-ht]at HB
 generalize X.bs (l.getD 0 [])=s at c0 HB
 rw[decide_eq_true (show 1<=n/\n<=32 by omega)]at HB
 clear hx hc hn' hn hs ht
 cases h0:(s.toList == [48])
 ·have HE:=hid' (show nb=false by rw[HB.out,h0];rfl)
  have h0n:(s.toList != [48])=true:=by rw[bne,h0];rfl
  go_enter Tryz.func46,Tryz.ntmps46
  go_wp2_with fail
  go_ret
  exact⟨Kept.refl _,by rw[HE.out];rfl⟩
 ·have HE:=hid' (show nb=mb by rw[HB.out,h0];rfl)
  have h0n:(s.toList != [48])=false:=by rw[bne,h0];rfl
  go_enter Tryz.func46,Tryz.ntmps46
  go_wp2_with fail
  refine HNm.out.mono ?_
  rintro e w1 ⟨hk,rfl⟩
  go_wp2_with fail
  go_ret
  exact⟨hk,by rw[HE.out];rfl⟩
end V
end Go.Proofs.YtdjhmgmjiglcbaaGreatDoor
