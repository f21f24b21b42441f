/- Lemmas. -/
import Derived.Test.YtdjhmgmjiglcbaaGreatDoorGaq
import Derived.Test.YtdjhmgmjiglcbaaGreatDoorGba
import Derived.Lib.QuietBelow
import Derived.Deep.QuietTactic
import Derived.BigQuiet
set_option maxRecDepth 100000
set_option maxHeartbeats 4000000
namespace Go.Proofs.YtdjhmgmjiglcbaaGreatDoor
open Go.RowKit
open Go.Sort (grow)
namespace V
open Q (hid' Row3 Row2 okN)
def Row4 (t:TypeId)(w:World)(p:Nat)(x0 x1 x2 x3:Value):Prop:=w.rowIs p t 4 (fun i=>if i=0 then x0 else if i=1 then x1 else if i=2 then x2 else x3)
theorem Row4.alloc (t:TypeId)(w:World)(x0 x1 x2 x3:Value):Row4 t (w.alloc (.cells #[x0,x1,x2,x3] t)) w.heap.size x0 x1 x2 x3 :=
 World.rowIs_alloc w #[x0,x1,x2,x3] t _ (fun i hi=>by
  match i,hi with
  |0,_=>rfl
  |1,_=>rfl
  |2,_=>rfl
  | 3,_=>rfl)
section
variable {t:TypeId} {w w':World} {p:Nat} {x0 x1 x2 x3:Value}
theorem Row4.lt (h:Row4 t w p x0 x1 x2 x3):p<w.heap.size:=World.rowIs.lt h
theorem Row4.c0 (h:Row4 t w p x0 x1 x2 x3):w.cell? ⟨p,0,none⟩=some x0:=World.rowIs.cell h (i:=0) (by omega)
theorem Row4.c1 (h:Row4 t w p x0 x1 x2 x3):w.cell? ⟨p,1,none⟩=some x1:=World.rowIs.cell h (i:=1) (by omega)
theorem Row4.c2 (h:Row4 t w p x0 x1 x2 x3):w.cell? ⟨p,2,none⟩=some x2:=World.rowIs.cell h (i:=2) (by omega)
theorem Row4.c3 (h:Row4 t w p x0 x1 x2 x3):w.cell? ⟨p,3,none⟩=some x3:=World.rowIs.cell h (i:=3) (by omega)
theorem Row4.kept (h:Row4 t w p x0 x1 x2 x3)(k:Kept w w'):Row4 t w' p x0 x1 x2 x3:=World.rowIs.of_block h (k.block p h.lt)
end
def fitsM (k:Int)(n m:Nat):Bool:=if k=100 then decide (n=m+1/\n<=4) else if k=115 then decide (n=2/\m=1) else false
def riseN (vs:List (Int×Int)):Bool:=decide (∀i,i<vs.length-1->U (vs.getD i (0,0)).1 (vs.getD i (0,0)).2<U (vs.getD (i+1) (0,0)).1 (vs.getD (i+1) (0,0)).2)
def allN (l:List (Int×Int)):Bool:=!(l.any fun q=>!okN q.1 q.2)
def okM (s:List UInt8)(k:Int)(gs vs:List (Int×Int)):Bool:=okName s&&fitsM k gs.length vs.length&&allN gs&&allN vs&&riseN vs
theorem fitsM_any (s:ByteArray)(k:Int)(a1 a2:Option Addr)(n c m c':Nat)(w:World)(hm:m<=4611686018427387903) :
  Calls Tryz.prog 153 #[.agg #[.string s,.int .u8 k,.slice a1 n c,.slice a2 m c']] w fun e w'=>Kept w w'/\e=.returned (.bool (fitsM k n m)):=by
 go_enter Tryz.func153,Tryz.ntmps153
 go_upto_region 1 with fail
 have hK:=(Kept.refl w).alloc (.cells #[.string s,.int .u8 k,.slice a1 n c,.slice a2 m c'] 46)
 have hR:=Row4.alloc 46 w (.string s) (.int .u8 k) (.slice a1 n c) (.slice a2 m c')
 generalize w.alloc (.cells #[.string s,.int .u8 k,.slice a1 n c,.slice a2 m c'] 46)=W at hK hR ⊢
 obtain⟨p1,hp1⟩:∃p,p=w.heap.size:=⟨_,rfl⟩
 rw[<-hp1]at hR ⊢
 have HK:=hid' hK
 have q1:=hR.c1
 have q2:=hR.c2
 have q3:=hR.c3
 clear hp1 hK hR
 have hw:IntKind.i64.wrap ((m:Int)+1)=(m:Int)+1:=by rw[IntKind.wrap_i64];omega
 by_cases h1:k=100
 ·subst h1
  go_wp2_with fail
  all_goals
   go_ret
   refine⟨HK.out,congrArg (fun b=>Ending.returned (Value.bool b)) ?_⟩
   unfold fitsM
   rw[if_pos rfl,Bool.eq_iff_iff]
   simp_all
   try omega
 ·have h1':(k == 100)=false:=by simpa using h1
  by_cases h2:k=115
  ·subst h2
   go_wp2_with fail
   all_goals
    go_ret
    refine⟨HK.out,congrArg (fun b=>Ending.returned (Value.bool b)) ?_⟩
    unfold fitsM
    rw[if_neg (by decide),if_pos rfl,Bool.eq_iff_iff]
    simp_all
    try omega
  ·have h2':(k == 115)=false:=by simpa using h2
   go_wp2_with fail
   go_ret
   exact⟨HK.out,by unfold fitsM;rw[if_neg h1,if_neg h2];rfl⟩
theorem right1 (m x:Int)(w:World):Calls Tryz.prog 179 #[.agg #[.int .i64 m,.int .i64 x]] w fun e w'=>e=.returned (.bool (!okN m x))/\Kept w w':=by
 go_enter Tryz.func179,Tryz.ntmps179
 go_wp2_with (go_at_call 180;refine(Q.Valid_any m x _).mono ?_;rintro e w' ⟨hk,rfl⟩)
 go_ret
 exact⟨rfl,((Kept.refl w).alloc _).trans hk⟩
theorem allRight_any (ao:Option Addr)(n c:Nat)(l:List (Int×Int))(w:World)(h:NSl w (.slice ao n c) l)(hn:n<=9223372036854775807) :
  Calls Tryz.prog 154 #[.slice ao n c] w fun e w'=>Kept w w'/\e=.returned (.bool (allN l)):=by
 have HS:=hid' h
 clear h
 have HA:=hid' (show allN l=!(l.any fun q=>!okN q.1 q.2) from rfl)
 generalize allN l=ok at HA ⊢
 go_enter Tryz.func154,Tryz.ntmps154
 go_wp2_with fail
 refine(con_nums 179 #[] (fun x y=>!okN x y) (fun _ _=>by simp) ao n c l w (fun V x y hV=>(right1 x y V).mono fun e w' h=>⟨h.1,hV.trans h.2⟩) HS.out hn).mono ?_
 rintro e w' ⟨hk,rfl⟩
 have HN:=hid' hk
 clear hk
 obtain⟨b,hb⟩:∃b,b=l.any (fun q=>!okN q.1 q.2):=⟨_,rfl⟩
 rw[<-hb]
 have HO2:=hid' (show ok=!b by rw[HA.out,hb])
 clear hb HA
 go_wp2_with fail
 go_ret
 exact⟨HN.out,by rw[HO2.out];rfl⟩
end V
end Go.Proofs.YtdjhmgmjiglcbaaGreatDoor
namespace Go.Proofs.YtdjhmgmjiglcbaaGreatDoor
open Go.RowKit
open Go.Sort (grow)
namespace V
open Q (hid' Row3 Row2 okN okN_bd Scl)
theorem isgn_terms {N N' A A':Int}{D D' S:Nat}(hD:0<D)(hD':0<D')(hS:0<S)(h:N*(S:Int)=A*D)(h':N'*(S:Int)=A'*D'):isgn (N*D') (N'*D)=isgn A A':=by
 have pS:(0:Int)<S:=by omega
 have pD:(0:Int)<(D:Int)*D':=Int.mul_pos (by omega) (by omega)
 have e1:N*D'*S=A*((D:Int)*D'):=by rw[Int.mul_right_comm,h,Int.mul_assoc]
 have e2:N'*D*S=A'*((D:Int)*D'):=by rw[Int.mul_right_comm,h',Int.mul_assoc,Int.mul_comm (D':Int)]
 apply F.isgn_eq
 ·constructor
  ·intro hlt
   have:=Int.mul_lt_mul_of_pos_right hlt pS
   rw[e1,e2]at this
   exact Int.lt_of_mul_lt_mul_right this (Int.le_of_lt pD)
  ·intro hlt
   have:=Int.mul_lt_mul_of_pos_right hlt pD
   rw[<-e1,<-e2]at this
   exact Int.lt_of_mul_lt_mul_right this (Int.le_of_lt pS)
 ·constructor
  ·intro heq
   have:A*((D:Int)*D')=A'*((D:Int)*D'):=by rw[<-e1,<-e2,heq]
   exact Int.eq_of_mul_eq_mul_right (by omega) this
  ·intro heq
   have:N*D'*S=N'*D*S:=by rw[e1,e2,heq]
   exact Int.eq_of_mul_eq_mul_right (by omega) this
theorem cmp_u (m x m' x':Int)(h:okN m x=true)(h':okN m' x'=true)(w:World) :
  Calls Tryz.prog 181 #[.agg #[.int .i64 m,.int .i64 x],.agg #[.int .i64 m',.int .i64 x']] w fun e w'=>Kept w w'/\e=.returned (.tuple #[.int .i64 (isgn (U m x) (U m' x')),.int .i64 0]):=by
 refine(Q.cmp_any m x m' x' w).mono ?_
 rintro e w' ⟨hk,⟨h0,_⟩|⟨_,N,D,N',D',hs,hs',rfl⟩⟩
 ·exact absurd ⟨h,h'⟩ h0
 ·rw[isgn_terms hs.1 hs'.1 (show 0<10^18 by decide) (scl_u (okN_bd h).2.2.1 hs) (scl_u (okN_bd h').2.2.1 hs')]
  exact⟨hk,rfl⟩
theorem isgn_neg {a b:Int}:isgn a b<0↔a<b:=by unfold isgn;split <;> (try split) <;> omega
theorem risingM_any (ao:Option Addr)(n c:Nat)(vs:List (Int×Int))(w:World)(h:NSl w (.slice ao n c) vs)(hn:n<=4611686018427387903)(hall:allN vs=true) :
  Calls Tryz.prog 155 #[.slice ao n c] w fun e w'=>Kept w w'/\e=.returned (.bool (riseN vs)):=by
 have hok:∀q∈vs,okN q.1 q.2=true:=by
  intro q hq
  unfold allN at hall
  have:vs.any (fun q=>!okN q.1 q.2)=false:=by simpa using hall
  rw[List.any_eq_false]at this
  have:=this q hq
  simpa using this
 have HS:=hid' (And.intro h hok)
 clear h hok hall
 have hw:IntKind.i64.wrap ((n:Int)-1)=(n:Int)-1:=by rw[IntKind.wrap_i64];omega
 go_enter Tryz.func155,Tryz.ntmps155
 go_wp2_with fail
 go_loopw [9] (fun vi wr=>∃j:Nat,(j+1<=n∨j=0)/\vi=.int .i64 (j:Int)/\Hid (Kept w wr/\∀i,i<j->U (vs.getD i (0,0)).1 (vs.getD i (0,0)).2<U (vs.getD (i+1) (0,0)).1 (vs.getD (i+1) (0,0)).2)) (fun vi _=>n-(intOf vi).toNat)
 case atStart=>exact⟨0,.inr rfl,rfl,Kept.refl w,fun i hi=>absurd hi (Nat.not_lt_zero _)⟩
 case round=>
  obtain⟨j,hj,rfl,H⟩:=hrel
  by_cases hlt:j+1<n
  ·have hltz:(j:Int)<(n:Int)-1:=by omega
   have hj1:(j:Int)<(n:Int):=by omega
   have hj2:(j:Int)+1<(n:Int):=by omega
   have hj3:(0:Int)<=(j:Int)+1:=by omega
   have hlen:=HS.out.1.len
   obtain⟨ao',cap',hv,hx⟩:=HS.out.1.kept H.out.1
   simp only[Value.slice.injEq]at hv
   obtain⟨rfl,hq,rfl⟩:=hv
   obtain⟨b,off,rfl,hb,hc⟩:=hx (by omega)
   clear hq
   obtain⟨c0,c1⟩:=hc j (by omega)
   obtain⟨d0,d1⟩:=hc (j+1) (by omega)
   have ok1:okN (vs.getD j (0,0)).1 (vs.getD j (0,0)).2=true:=HS.out.2 _ (by
    rw[List.getD_eq_getElem?_getD,List.getElem?_eq_getElem (by omega)]
    exact List.getElem_mem (by omega))
   have ok2:okN (vs.getD (j+1) (0,0)).1 (vs.getD (j+1) (0,0)).2=true:=HS.out.2 _ (by
    rw[List.getD_eq_getElem?_getD,List.getElem?_eq_getElem (by omega)]
    exact List.getElem_mem (by omega))
   obtain⟨x,hX⟩:∃x,x=vs.getD j (0,0):=⟨_,rfl⟩
   obtain⟨y,hY⟩:∃y,y=vs.getD (j+1) (0,0):=⟨_,rfl⟩
   rw[<-hX]at c0 c1 ok1
   rw[<-hY]at d0 d1 ok2
   have HX:=hid' (And.intro hX hY)
   obtain⟨x0,x1⟩:=x
   obtain⟨y0,y1⟩:=y
   dsimp only at c0 c1 d0 d1 ok1 ok2
   have ht1:((j:Int)+1).toNat=j+1:=by omega
   have hw2:IntKind.i64.wrap ((j:Int)+1)=(j:Int)+1:=by rw[IntKind.wrap_i64];omega
   clear hX hY hx hc hlen
   go_upto_region 4 with fail
   have KR:∀d os,Kept wr (grow (redrawn wr d) os):=fun d os=>below_regrown wr d os
   have r0:∀d os,(grow (redrawn wr d) os).cell? ⟨b,off+j*2,none⟩=some (.int .i64 x0):=fun d os=>(Below.cell (KR d os) (p:=⟨b,off+j*2,none⟩) hb).trans c0
   have r1:∀d os,(grow (redrawn wr d) os).cell? ⟨b,off+j*2+1,none⟩=some (.int .i64 x1):=fun d os=>(Below.cell (KR d os) (p:=⟨b,off+j*2+1,none⟩) hb).trans c1
   have r2:∀d os,(grow (redrawn wr d) os).cell? ⟨b,off+(j+1)*2,none⟩=some (.int .i64 y0):=fun d os=>(Below.cell (KR d os) (p:=⟨b,off+(j+1)*2,none⟩) hb).trans d0
   have r3:∀d os,(grow (redrawn wr d) os).cell? ⟨b,off+(j+1)*2+1,none⟩=some (.int .i64 y1):=fun d os=>(Below.cell (KR d os) (p:=⟨b,off+(j+1)*2+1,none⟩) hb).trans d1
   obtain⟨sg,hsg⟩:∃sg,sg=isgn (U x0 x1) (U y0 y1):=⟨_,rfl⟩
   have cS:∀d os,Calls Tryz.prog 181 #[.agg #[.int .i64 x0,.int .i64 x1],.agg #[.int .i64 y0,.int .i64 y1]] (grow (redrawn wr d) os) fun e w''=>e=.returned (.tuple #[.int .i64 sg,.int .i64 0])/\∃p:Regrown,w''=grow (redrawn wr p.d) p.os:=fun d os=>
    Calls.regrown_of ((cmp_u x0 x1 y0 y1 ok1 ok2 _).mono fun e w' h=>⟨by rw[h.2,hsg],h.1⟩)
   have HSG:=hid' hsg
   have HKR:=hid' KR
   clear KR c0 c1 d0 d1 hb hsg ok1 ok2
   refine wp_region_quiet_below (by kernel_rfl) (by kernel_rfl) ?_
   repeat (quiet_step (exact cS _ _))
   refine wpQuiet_nil ?_
   intro _ hw'
   obtain⟨⟨dq,osq⟩,hw''⟩:=hw'
   subst hw''
   by_cases hs:0<=sg
   ·have HR:=hid' (show riseN vs=false by
     unfold riseN
     refine decide_eq_false (fun hh=>?_)
     have h1:=hh j (by have:=HS.out.1.len;omega)
     rw[<-HX.out.1,<-HX.out.2]at h1
     have h2:=isgn_neg.2 h1
     rw[<-HSG.out]at h2
     omega)
    go_wp2_with fail
    go_ret
    exact⟨H.out.1.trans (HKR.out dq osq),by rw[HR.out];rfl⟩
   ·have HL:=hid' (show U (vs.getD j (0,0)).1 (vs.getD j (0,0)).2<U (vs.getD (j+1) (0,0)).1 (vs.getD (j+1) (0,0)).2 by
     rw[<-HX.out.1,<-HX.out.2]
     exact isgn_neg.1 (by rw[<-HSG.out];omega))
    go_wp2_with fail
    go_roundw
    case rel=>
     refine⟨j+1,.inl (by omega),by go_num,H.out.1.trans (HKR.out dq osq),fun i hi=>?_⟩
     by_cases e:i=j
     ·subst e;exact HL.out
     ·exact H.out.2 i (by omega)
    case measure=>show n-((j:Int)+1).toNat<n-(j:Int).toNat;omega
  ·have hltz:¬(j:Int)<(n:Int)-1:=by omega
   have HR:=hid' (show riseN vs=true by
    unfold riseN
    refine decide_eq_true (fun i hi=>?_)
    exact H.out.2 i (by have:=HS.out.1.len;omega))
   go_wp2_with fail
   go_ret
   exact⟨H.out.1,by rw[HR.out];rfl⟩
end V
end Go.Proofs.YtdjhmgmjiglcbaaGreatDoor
namespace Go.Proofs.YtdjhmgmjiglcbaaGreatDoor
open Go.RowKit
namespace V
open Q (hid' Row3 Row2 okN okN_bd Scl)
theorem validM_any (s:ByteArray)(k:Int)(a1 a2:Option Addr)(n c m c':Nat)(gs vs:List (Int×Int))(w:World)(hs:s.size<=9223372036854775807)(h1:NSl w (.slice a1 n c) gs)(h2:NSl w (.slice a2 m c') vs)(hn:n<=4611686018427387903)(hm:m<=4611686018427387903) :
  Calls Tryz.prog 128 #[.agg #[.string s,.int .u8 k,.slice a1 n c,.slice a2 m c']] w fun e w'=>Kept w w'/\e=.returned (.bool (okM s.data.toList k gs vs)):=by
 have HS:=hid' (And.intro h1 h2)
 have HO:=hid' (show okM s.data.toList k gs vs=(okName s.data.toList&&fitsM k n m&&allN gs&&allN vs&&riseN vs) by unfold okM;rw[h1.len,h2.len])
 generalize okM s.data.toList k gs vs=ok at HO ⊢
 clear h1 h2
 go_enter Tryz.func128,Tryz.ntmps128
 go_upto_region 1 with fail
 have hK:=(Kept.refl w).alloc (.cells #[.string s,.int .u8 k,.slice a1 n c,.slice a2 m c'] 46)
 have hR:=Row4.alloc 46 w (.string s) (.int .u8 k) (.slice a1 n c) (.slice a2 m c')
 generalize w.alloc (.cells #[.string s,.int .u8 k,.slice a1 n c,.slice a2 m c'] 46)=W at hK hR ⊢
 obtain⟨p1,hp1⟩:∃p,p=w.heap.size:=⟨_,rfl⟩
 rw[<-hp1]at hR ⊢
 have HK:=hid' (And.intro hK hR)
 have q0:=hR.c0
 clear hp1 hK hR
 go_wp2_with fail
 refine(isName_any s _ hs).mono ?_
 rintro e w1 ⟨hk1,rfl⟩
 have HK1:=hid' (And.intro (HK.out.1.trans hk1) (HK.out.2.kept hk1))
 clear hk1 q0 HK
 obtain⟨b1,hb1⟩:∃b,b=okName s.data.toList:=⟨_,rfl⟩
 rw[<-hb1]at HO ⊢
 clear hb1
 cases b1
 ·go_wp2_with fail
  go_ret
  exact⟨HK1.out.1,by rw[HO.out];rfl⟩
 have q0:=HK1.out.2.c0
 have q1:=HK1.out.2.c1
 have q2:=HK1.out.2.c2
 have q3:=HK1.out.2.c3
 go_wp2_with fail
 refine(fitsM_any s k a1 a2 n c m c' _ hm).mono ?_
 rintro e w2 ⟨hk2,rfl⟩
 have HK2:=hid' (And.intro (HK1.out.1.trans hk2) (HK1.out.2.kept hk2))
 clear hk2 q0 q1 q2 q3 HK1
 obtain⟨b2,hb2⟩:∃b,b=fitsM k n m:=⟨_,rfl⟩
 rw[<-hb2]at HO ⊢
 clear hb2
 cases b2
 ·go_wp2_with fail
  go_ret
  exact⟨HK2.out.1,by rw[HO.out];rfl⟩
 have q2:=HK2.out.2.c2
 go_wp2_with fail
 refine(allRight_any a1 n c gs _ (HS.out.1.kept HK2.out.1) (by omega)).mono ?_
 rintro e w3 ⟨hk3,rfl⟩
 have HK3:=hid' (And.intro (HK2.out.1.trans hk3) (HK2.out.2.kept hk3))
 clear hk3 q2 HK2
 obtain⟨b3,hb3⟩:∃b,b=allN gs:=⟨_,rfl⟩
 rw[<-hb3]at HO ⊢
 clear hb3
 cases b3
 ·go_wp2_with fail
  go_ret
  exact⟨HK3.out.1,by rw[HO.out];rfl⟩
 have q3:=HK3.out.2.c3
 go_wp2_with fail
 refine(allRight_any a2 m c' vs _ (HS.out.2.kept HK3.out.1) (by omega)).mono ?_
 rintro e w4 ⟨hk4,rfl⟩
 have HK4:=hid' (And.intro (HK3.out.1.trans hk4) (HK3.out.2.kept hk4))
 clear hk4 q3 HK3
 obtain⟨b4,hb4⟩:∃b,b=allN vs:=⟨_,rfl⟩
 rw[<-hb4]at HO ⊢
 have HB4:=hid' hb4
 clear hb4
 cases b4
 ·go_wp2_with fail
  go_ret
  exact⟨HK4.out.1,by rw[HO.out];rfl⟩
 have q3:=HK4.out.2.c3
 go_wp2_with fail
 refine(risingM_any a2 m c' vs _ (HS.out.2.kept HK4.out.1) (by omega) HB4.out.symm).mono ?_
 rintro e w5 ⟨hk5,rfl⟩
 have HK5:=hid' (HK4.out.1.trans hk5)
 clear hk5 q3 HK4
 obtain⟨b5,hb5⟩:∃b,b=riseN vs:=⟨_,rfl⟩
 rw[<-hb5]at HO ⊢
 clear hb5
 go_wp2_with fail
 go_ret
 exact⟨HK5.out,by rw[HO.out];rfl⟩
def refM (s:List UInt8)(k:Int)(gs vs:List (Int×Int))(i:Int):Int:=if okM s k gs vs=true then if i<0∨(gs.length:Int)<=i then 111 else 0 else 50
end V
end Go.Proofs.YtdjhmgmjiglcbaaGreatDoor
