/- Lemmas. -/
import Derived.Test.YtdjhmgmjiglcbaaGreatDoorGao
import Derived.Test.YtdjhmgmjiglcbaaGreatDoorGab
import Derived.Test.YtdjhmgmjiglcbaaGreatDoorGal
set_option maxHeartbeats 4000000
namespace Go.Proofs.YtdjhmgmjiglcbaaGreatDoor
open Go.RowKit
namespace V
open Q (okN)
def riseB:List Int->Bool
 |a::b::l=>decide (a<b)&&riseB (b::l)
 |_=>true
theorem riseB_iff (l:List Int):riseB l=true ↔ ∀i,i+1<l.length->l.getD i 0<l.getD (i+1) 0:=by
 induction l with
 |nil=>simp[riseB]
 |cons a l ih=>
  cases l with
  |nil=>simp[riseB]
  |cons b l=>
   unfold riseB
   rw[Bool.and_eq_true,ih,decide_eq_true_iff]
   constructor
   ·rintro⟨h1,h2⟩ i hi
    cases i with
    |zero=>exact h1
    |succ i=>exact h2 i (by simpa using hi)
   ·intro h
    exact⟨h 0 (by simp),fun i hi=>h (i+1) (by simpa using hi)⟩
def fitsB (k:Int)(n m:Nat):Bool :=
 (k == 1&&n == 1&&m == 0)||(k == 2&&n == 2&&m == 5)||(k == 3&&(decide (1<=n)&&decide (n<=16))&&m == n)||(k == 4&&(decide (1<=n)&&decide (n<=16))&&m == 0)
def hangB (k:Int)(ss:List Int):Bool :=
 if k=2 then decide (1<=ss.getD 4 0)&&decide (ss.getD 1 0+ss.getD 2 0+ss.getD 3 0<=ss.getD 4 0) else if k=3 then riseB ss else true
def okW (k:Int)(vs:List (Int×Int))(ss:List Int):Bool :=
 fitsB k vs.length ss.length&&(vs.all (fun p=>okN p.1 p.2)&&ss.all okS)&&hangB k ss
def fa:List Int->Int->Nat
 | [],_=>0
 |s::l,t=>if t<s then 0 else fa l t+1
open Q (hid' Row3 Row2)
theorem fits_any (k:Int)(a1 a2:Option Addr)(n c m c':Nat)(w:World) :
  Calls Tryz.prog 193 #[.agg #[.int .i64 k,.slice a1 n c,.slice a2 m c']] w fun e w'=>Kept w w'/\e=.returned (.bool (fitsB k n m)):=by
 go_enter Tryz.func193,Tryz.ntmps193
 go_upto_region 1 with fail
 have hK:=(Kept.refl w).alloc (.cells #[.int .i64 k,.slice a1 n c,.slice a2 m c'] 44)
 have hR:=Row3.alloc 44 w (.int .i64 k) (.slice a1 n c) (.slice a2 m c')
 generalize w.alloc (.cells #[.int .i64 k,.slice a1 n c,.slice a2 m c'] 44)=W at hK hR ⊢
 obtain⟨p1,hp1⟩:∃p,p=w.heap.size:=⟨_,rfl⟩
 rw[<-hp1]at hR ⊢
 have HK:=hid' hK
 have q0:=hR.c0
 have q1:=hR.c1
 have q2:=hR.c2
 clear hp1 hK hR
 go_region_held3 (fun w'=>w'.cell? ⟨p1,0,none⟩=some (.int .i64 k)/\w'.cell? ⟨p1,1,none⟩=some (.slice a1 n c)/\w'.cell? ⟨p1,2,none⟩=some (.slice a2 m c')) (go_keep) (fail)
 by_cases h1:k=1
 ·subst h1
  go_wp2_with fail
  all_goals
   go_ret
   refine⟨HK.out.drew,congrArg (fun b=>Ending.returned (Value.bool b)) ?_⟩
   unfold fitsB
   simp_all
   try first|omega|(rw[Bool.eq_iff_iff];simp;omega)
 by_cases h2:k=2
 ·subst h2
  go_wp2_with fail
  all_goals
   go_ret
   refine⟨HK.out.drew,congrArg (fun b=>Ending.returned (Value.bool b)) ?_⟩
   unfold fitsB
   simp_all
   try first|omega|(rw[Bool.eq_iff_iff];simp;omega)
 by_cases h3:k=3
 ·subst h3
  go_wp2_with fail
  refine(isPoints_any (n:Int) _).mono ?_
  rintro e w1 ⟨rfl,rfl⟩
  by_cases hp:1<=(n:Int)/\(n:Int)<=16
  ·rw[decide_eq_true hp]
   go_wp2_with fail
   all_goals
    go_ret
    refine⟨HK.out.drew,congrArg (fun b=>Ending.returned (Value.bool b)) ?_⟩
    unfold fitsB
    simp_all
    try first|omega|(rw[Bool.eq_iff_iff];simp;omega)
  ·rw[decide_eq_false hp]
   go_wp2_with fail
   all_goals
    go_ret
    refine⟨HK.out.drew,congrArg (fun b=>Ending.returned (Value.bool b)) ?_⟩
    unfold fitsB
    simp_all
    try first|omega|(rw[Bool.eq_iff_iff];simp;omega)
 by_cases h4:k=4
 ·subst h4
  go_wp2_with fail
  refine(isPoints_any (n:Int) _).mono ?_
  rintro e w1 ⟨rfl,rfl⟩
  by_cases hp:1<=(n:Int)/\(n:Int)<=16
  ·rw[decide_eq_true hp]
   go_wp2_with fail
   all_goals
    go_ret
    refine⟨HK.out.drew,congrArg (fun b=>Ending.returned (Value.bool b)) ?_⟩
    unfold fitsB
    simp_all
    try first|omega|(rw[Bool.eq_iff_iff];simp;omega)
  ·rw[decide_eq_false hp]
   go_wp2_with fail
   all_goals
    go_ret
    refine⟨HK.out.drew,congrArg (fun b=>Ending.returned (Value.bool b)) ?_⟩
    unfold fitsB
    simp_all
    try first|omega|(rw[Bool.eq_iff_iff];simp;omega)
 have b1:(k == 1)=false:=by simpa using h1
 have b2:(k == 2)=false:=by simpa using h2
 have b3:(k == 3)=false:=by simpa using h3
 have b4:(k == 4)=false:=by simpa using h4
 go_wp2_with fail
 go_ret
 refine⟨HK.out.drew,congrArg (fun b=>Ending.returned (Value.bool b)) ?_⟩
 unfold fitsB
 rw[b1,b2,b3,b4]
 simp
theorem any_of_idx {n:Nat}{i:Nat}{p:Nat->Bool}(hi:i<=n)(h1:∀j,j<i->p j=false)(h2:i<n->p i=true):decide ((0:Int)<=if i=n then -1 else (i:Int))=(List.range n).any p:=by
 by_cases h:i=n
 ·subst h
  rw[if_pos rfl]
  symm
  rw[show decide ((0:Int)<=-1)=false by decide,List.any_eq_false]
  intro j hj
  rw[h1 j (List.mem_range.1 hj)];simp
 ·rw[if_neg h]
  symm
  rw[show decide ((0:Int)<=(i:Int))=true from decide_eq_true (by omega),List.any_eq_true]
  exact⟨i,List.mem_range.2 (by omega),h2 (by omega)⟩
theorem any_range {α:Type}(l:List α)(d:α)(p:α->Bool):(List.range l.length).any (fun j=>p (l.getD j d))=l.any p:=by
 rw[Bool.eq_iff_iff,List.any_eq_true,List.any_eq_true]
 constructor
 ·rintro⟨j,hj,hp⟩
  have hj:=List.mem_range.1 hj
  refine⟨l.getD j d,?_,hp⟩
  rw[List.getD_eq_getElem?_getD,List.getElem?_eq_getElem hj]
  exact List.getElem_mem hj
 ·rintro⟨x,hx,hp⟩
  obtain⟨j,hj,rfl⟩:=List.getElem_of_mem hx
  refine⟨j,List.mem_range.2 hj,?_⟩
  rw[List.getD_eq_getElem?_getD,List.getElem?_eq_getElem hj]
  exact hp
theorem con_ints (g:Nat)(lb:Array Value)(p:Int->Bool)(eg:∀args w,(callFunc g args).run Tryz.prog w=.ok (.enter g args) w)(ao:Option Addr)(n c:Nat)(l:List Int)(w:World)
  (hp:∀W x,Kept w W->Calls Tryz.prog g (#[.int .i64 x]++lb) W fun e w'=>e=.returned (.bool (p x))/\Kept w w') (h:ISl w (.slice ao n c) l) (hbig:n<=9223372036854775807) :
  Calls Tryz.prog 78 #[.slice ao n c,.func (.func g) #[] lb] w fun e w'=>Kept w w'/\e=.returned (.bool (l.any p)):=by
 have hc:=idx_ints g lb p eg ao n c l w hp h hbig
 have HL:=hid' h.len
 clear hp h
 go_enter Tryz.func78,Tryz.ntmps78
 go_wp2_with fail
 refine hc.mono ?_
 rintro e w' ⟨hk,i,hi,h1,h2,rfl⟩
 have hA:=any_of_idx hi h1 h2
 rw[HL.out]at hA
 rw[any_range l 0 p]at hA
 rw[<-HL.out]at hA
 generalize (if i=n then (-1:Int) else (i:Int))=z at hA ⊢
 have HA:=hid' hA
 clear hA h1 h2 hi
 go_wp2
 all_goals
  go_ret
  refine⟨hk,congrArg (fun b=>Ending.returned (Value.bool b)) ?_⟩
  rw[<-HA.out]
  try simp_all
theorem con_nums (g:Nat)(lb:Array Value)(p:Int->Int->Bool)(eg:∀args w,(callFunc g args).run Tryz.prog w=.ok (.enter g args) w)(ao:Option Addr)(n c:Nat)(l:List (Int×Int))(w:World)
  (hp:∀W x y,Kept w W->Calls Tryz.prog g (#[.agg #[.int .i64 x,.int .i64 y]]++lb) W fun e w'=>e=.returned (.bool (p x y))/\Kept w w') (h:NSl w (.slice ao n c) l) (hbig:n<=9223372036854775807) :
  Calls Tryz.prog 178 #[.slice ao n c,.func (.func g) #[] lb] w fun e w'=>Kept w w'/\e=.returned (.bool (l.any (fun q=>p q.1 q.2))):=by
 have hc:=idx_nums g lb p eg ao n c l w hp h hbig
 have HL:=hid' h.len
 clear hp h
 go_enter Tryz.func178,Tryz.ntmps178
 go_wp2_with fail
 refine hc.mono ?_
 rintro e w' ⟨hk,i,hi,h1,h2,rfl⟩
 have hA:=any_of_idx hi h1 h2
 rw[HL.out]at hA
 rw[any_range l (0,0) (fun q=>p q.1 q.2)]at hA
 rw[<-HL.out]at hA
 generalize (if i=n then (-1:Int) else (i:Int))=z at hA ⊢
 have HA:=hid' hA
 clear hA h1 h2 hi
 go_wp2
 all_goals
  go_ret
  refine⟨hk,congrArg (fun b=>Ending.returned (Value.bool b)) ?_⟩
  rw[<-HA.out]
  try simp_all
theorem cl1 (m x:Int)(w:World):Calls Tryz.prog 194 #[.agg #[.int .i64 m,.int .i64 x]] w fun e w'=>e=.returned (.bool (!Q.okN m x))/\Kept w w':=by
 go_enter Tryz.func194,Tryz.ntmps194
 go_wp2_with (go_at_call 180;refine(Q.Valid_any m x _).mono ?_;rintro e w' ⟨hk,rfl⟩)
 go_ret
 exact⟨rfl,((Kept.refl w).alloc _).trans hk⟩
theorem cl2 (n:Int)(w:World):Calls Tryz.prog 195 #[.int .i64 n] w fun e w'=>e=.returned (.bool (!okS n))/\Kept w w':=by
 go_enter Tryz.func195,Tryz.ntmps195
 go_wp2_with (go_at_call 196;refine(isStep_any n _).mono ?_;rintro e w' ⟨rfl,rfl⟩)
 go_ret
 exact⟨rfl,Kept.refl _⟩
theorem rising_any (ao:Option Addr)(n c:Nat)(l:List Int)(w:World)(h:ISl w (.slice ao n c) l)(hbig:n<=9223372036854775807) :
  Calls Tryz.prog 218 #[.slice ao n c] w fun e w'=>Kept w w'/\e=.returned (.bool (riseB l)):=by
 have HS:=hid' h
 clear h
 go_enter Tryz.func218,Tryz.ntmps218
 go_wp2
 go_loopw [3] (fun vi wr=>∃j:Nat,(j+1<=n∨j=0)/\vi=.int .i64 ((j:Int)+1)/\Hid (Kept w wr/\∀i,i<j->l.getD i 0<l.getD (i+1) 0)) (fun vi _=>n-(intOf vi).toNat)
 case atStart=>exact⟨0,.inr rfl,rfl,Kept.refl w,fun i hi=>absurd hi (Nat.not_lt_zero _)⟩
 case round=>
  obtain⟨j,hj,rfl,H⟩:=hrel
  by_cases hlt:j+1<n
  ·have hltz:(j:Int)+1<(n:Int):=by omega
   obtain⟨ao',cap',hv,hx⟩:=HS.out.kept H.out.1
   simp only[Value.slice.injEq]at hv
   obtain⟨rfl,hn,rfl⟩:=hv
   obtain⟨b,off,rfl,hb,hc⟩:=hx (by omega)
   have c0:=hc (j+1) (by omega)
   have c1:=hc j (by omega)
   have HN:=hid' hn
   clear hx hc hn hb
   have hw:IntKind.i64.wrap ((j:Int)+1-1)=(j:Int):=by rw[IntKind.wrap_i64];omega
   have hw2:IntKind.i64.wrap (j:Int)=(j:Int):=by rw[IntKind.wrap_i64];omega
   have ht:((j:Int)+1).toNat=j+1:=by omega
   have h2:(0:Int)<=(j:Int)+1:=by omega
   have h3:(j:Int)<(n:Int):=by omega
   obtain⟨x,hX⟩:∃x,x=l.getD (j+1) 0:=⟨_,rfl⟩
   obtain⟨y,hY⟩:∃y,y=l.getD j 0:=⟨_,rfl⟩
   rw[<-hX]at c0
   rw[<-hY]at c1
   have HX:=hid' (And.intro hX hY)
   clear hX hY
   go_upto_region 4 with fail
   go_region_held3 (fun w'=>w'.cell? ⟨b,off+(j+1),none⟩=some (.int .i64 x)/\w'.cell? ⟨b,off+j,none⟩=some (.int .i64 y)) (go_keep) (fail)
   by_cases hxy:x<=y
   ·go_wp2_with fail
    go_ret
    refine⟨H.out.1.drew,congrArg (fun b=>Ending.returned (Value.bool b)) ?_⟩
    symm
    rw[Bool.eq_false_iff]
    intro hr
    have:=(riseB_iff l).1 hr j (by have:=HN.out;omega)
    rw[<-HX.out.1,<-HX.out.2]at this
    omega
   ·go_wp2_with fail
    go_roundw
    case rel=>
     refine⟨j+1,.inl (by omega),by push_cast;go_num,H.out.1.drew,fun i hi=>?_⟩
     by_cases e:i=j
     ·subst e
      rw[<-HX.out.1,<-HX.out.2]
      omega
     ·exact H.out.2 i (by omega)
    case measure=>show n-((j:Int)+1+1).toNat<n-((j:Int)+1).toNat;omega
  ·have hltz:¬(j:Int)+1<(n:Int):=by omega
   go_wp2_with fail
   go_ret
   refine⟨H.out.1,congrArg (fun b=>Ending.returned (Value.bool b)) ?_⟩
   symm
   rw[riseB_iff]
   intro i hi
   exact H.out.2 i (by have:=HS.out.len;omega)
open Q (hid' Row3 Row2)
theorem pulseOf_any (k:Int)(a1 a2:Option Addr)(n c m c':Nat)(vs:List (Int×Int))(ss:List Int)(w:World)(h1:NSl w (.slice a1 n c) vs)(h2:ISl w (.slice a2 m c') ss)(hn:n=2)(hm:m=5) :
  Calls Tryz.prog 216 #[.agg #[.int .i64 k,.slice a1 n c,.slice a2 m c']] w fun e w'=>Kept w w'/\e=.returned (pul (vs.getD 0 (0,0)).1 (vs.getD 0 (0,0)).2 (vs.getD 1 (0,0)).1 (vs.getD 1 (0,0)).2 (ss.getD 0 0) (ss.getD 1 0) (ss.getD 2 0) (ss.getD 3 0) (ss.getD 4 0)):=by
 subst hn hm
 obtain⟨ao,cap,hv,hx⟩:=h1
 simp only[Value.slice.injEq]at hv
 obtain⟨rfl,hl,rfl⟩:=hv
 obtain⟨b1,o1,rfl,hb1,hc1⟩:=hx (by omega)
 obtain⟨ao',cap',hv',hx'⟩:=h2
 simp only[Value.slice.injEq]at hv'
 obtain⟨rfl,hl',rfl⟩:=hv'
 obtain⟨b2,o2,rfl,hb2,hc2⟩:=hx' (by omega)
 obtain⟨u0,u1⟩:=hc1 0 (by omega)
 obtain⟨u2,u3⟩:=hc1 1 (by omega)
 have t0:=hc2 0 (by omega)
 have t1:=hc2 1 (by omega)
 have t2:=hc2 2 (by omega)
 have t3:=hc2 3 (by omega)
 have t4:=hc2 4 (by omega)
 clear hx hx' hc1 hc2 hl hl'
 simp only[Nat.zero_mul,Nat.one_mul,Nat.add_zero]at u0 u1 u2 u3 t0
 generalize (vs.getD 0 (0,0)).1=x0 at *
 generalize (vs.getD 0 (0,0)).2=x1 at *
 generalize (vs.getD 1 (0,0)).1=x2 at *
 generalize (vs.getD 1 (0,0)).2=x3 at *
 generalize ss.getD 0 0=y0 at *
 generalize ss.getD 1 0=y1 at *
 generalize ss.getD 2 0=y2 at *
 generalize ss.getD 3 0=y3 at *
 generalize ss.getD 4 0=y4 at *
 go_enter Tryz.func216,Tryz.ntmps216
 go_upto_region 1 with fail
 have hK:=((Kept.refl w).alloc (.cells #[.int .i64 k,.slice (some ⟨b1,o1,none⟩) 2 c,.slice (some ⟨b2,o2,none⟩) 5 c'] 44)).alloc (.cells #[.int .i64 0,.int .i64 0,.int .i64 0,.int .i64 0,.int .i64 0,.int .i64 0,.int .i64 0,.int .i64 0,.int .i64 0] 233)
 have hR:=(Row3.alloc 44 w (.int .i64 k) (.slice (some ⟨b1,o1,none⟩) 2 c) (.slice (some ⟨b2,o2,none⟩) 5 c')).kept ((Kept.refl _).alloc (.cells #[.int .i64 0,.int .i64 0,.int .i64 0,.int .i64 0,.int .i64 0,.int .i64 0,.int .i64 0,.int .i64 0,.int .i64 0] 233))
 have hZ:=World.rowIs_alloc (w.alloc (.cells #[.int .i64 k,.slice (some ⟨b1,o1,none⟩) 2 c,.slice (some ⟨b2,o2,none⟩) 5 c'] 44)) #[.int .i64 0,.int .i64 0,.int .i64 0,.int .i64 0,.int .i64 0,.int .i64 0,.int .i64 0,.int .i64 0,.int .i64 0] 233 (fun _=>.int .i64 0) (fun i hi=>by
  match i,hi with
  |0,_=>rfl
  |1,_=>rfl
  |2,_=>rfl
  |3,_=>rfl
  |4,_=>rfl
  |5,_=>rfl
  |6,_=>rfl
  |7,_=>rfl
  |8,_=>rfl)
 rw[World.size_alloc]at hZ
 generalize (w.alloc (.cells #[.int .i64 k,.slice (some ⟨b1,o1,none⟩) 2 c,.slice (some ⟨b2,o2,none⟩) 5 c'] 44)).alloc (.cells #[.int .i64 0,.int .i64 0,.int .i64 0,.int .i64 0,.int .i64 0,.int .i64 0,.int .i64 0,.int .i64 0,.int .i64 0] 233)=W at hK hR hZ ⊢
 obtain⟨p2,hp2⟩:∃p,p=w.heap.size+1:=⟨_,rfl⟩
 rw[<-hp2]at hZ ⊢
 obtain⟨p1,hp1⟩:∃p,p=w.heap.size:=⟨_,rfl⟩
 rw[<-hp1]at hR ⊢
 have n1:¬p2=p1:=by omega
 have n2:¬p2=b1:=by omega
 have n3:¬p2=b2:=by omega
 have HP:Hid (w.heap.size<=p2):=by show _<=_;omega
 have HK:=hid' hK
 have q0:=hR.c0
 have q1:=hR.c1
 have q2:=hR.c2
 rw[<-Below.cell hK (p:=⟨b1,o1,none⟩) hb1]at u0
 rw[<-Below.cell hK (p:=⟨b1,o1+1,none⟩) hb1]at u1
 rw[<-Below.cell hK (p:=⟨b1,o1+2,none⟩) hb1]at u2
 rw[<-Below.cell hK (p:=⟨b1,o1+2+1,none⟩) hb1]at u3
 rw[<-Below.cell hK (p:=⟨b2,o2,none⟩) hb2]at t0
 rw[<-Below.cell hK (p:=⟨b2,o2+1,none⟩) hb2]at t1
 rw[<-Below.cell hK (p:=⟨b2,o2+2,none⟩) hb2]at t2
 rw[<-Below.cell hK (p:=⟨b2,o2+3,none⟩) hb2]at t3
 rw[<-Below.cell hK (p:=⟨b2,o2+4,none⟩) hb2]at t4
 have z0:=hZ.cell (i:=0) (by decide)
 have f0:=hZ.frozen 0
 have z1:=hZ.cell (i:=1) (by decide)
 have f1:=hZ.frozen 1
 have z2:=hZ.cell (i:=2) (by decide)
 have f2:=hZ.frozen 2
 have z3:=hZ.cell (i:=3) (by decide)
 have f3:=hZ.frozen 3
 have z4:=hZ.cell (i:=4) (by decide)
 have f4:=hZ.frozen 4
 have z5:=hZ.cell (i:=5) (by decide)
 have f5:=hZ.frozen 5
 have z6:=hZ.cell (i:=6) (by decide)
 have f6:=hZ.frozen 6
 have z7:=hZ.cell (i:=7) (by decide)
 have f7:=hZ.frozen 7
 have z8:=hZ.cell (i:=8) (by decide)
 have f8:=hZ.frozen 8
 clear hp1 hp2 hK hR hZ hb1 hb2
 go_upto_region 2 with fail
 go_region_held3 (fun w'=>w'.cell? ⟨p1,1,none⟩=some (.slice (some ⟨b1,o1,none⟩) 2 c)/\w'.cell? ⟨b1,o1,none⟩=some (.int .i64 x0)/\w'.cell? ⟨b1,o1+1,none⟩=some (.int .i64 x1)/\w'.cell? ⟨b1,o1+2,none⟩=some (.int .i64 x2)/\w'.cell? ⟨b1,o1+2+1,none⟩=some (.int .i64 x3)/\w'.cell? ⟨b2,o2,none⟩=some (.int .i64 y0)/\w'.cell? ⟨b2,o2+1,none⟩=some (.int .i64 y1)/\w'.cell? ⟨b2,o2+2,none⟩=some (.int .i64 y2)/\w'.cell? ⟨b2,o2+3,none⟩=some (.int .i64 y3)/\w'.cell? ⟨b2,o2+4,none⟩=some (.int .i64 y4)) (go_keep) (fail)
 go_wp2
 exact bodyPost_ret (v:=pul x0 x1 x2 x3 y0 y1 y2 y3 y4) (by simp[pul,results,Tryz.results216,go_sem,z0,z1,z2,z3,z4,z5,z6,z7,z8]) rfl ⟨((((((((((HK.out.setCell (p:=⟨p2,0,none⟩) HP.out _).setCell (p:=⟨p2,1,none⟩) HP.out _).setCell (p:=⟨p2,2,none⟩) HP.out _).setCell (p:=⟨p2,3,none⟩) HP.out _).setCell (p:=⟨p2,4,none⟩) HP.out _).setCell (p:=⟨p2,5,none⟩) HP.out _).setCell (p:=⟨p2,6,none⟩) HP.out _).setCell (p:=⟨p2,7,none⟩) HP.out _).setCell (p:=⟨p2,8,none⟩) HP.out _).drew),rfl⟩
end V
end Go.Proofs.YtdjhmgmjiglcbaaGreatDoor
