/- Lemmas. -/
import Derived.Test.YtdjhmgmjiglcbaaGreatDoorGaz
import Derived.Test.YtdjhmgmjiglcbaaGreatDoorGal
import Derived.Test.YtdjhmgmjiglcbaaGreatDoorGas
set_option maxRecDepth 100000
set_option maxHeartbeats 8000000
namespace Go.Proofs.YtdjhmgmjiglcbaaGreatDoor
open Go.RowKit
namespace Q
theorem okN_bd {m x:Int}(h:okN m x=true):-999999999<=m/\m<=999999999/\-18<=x/\x<=9:=by
 rcases okN_iff.1 h with ⟨rfl,rfl⟩|⟨_,h1,h2,_,h4,h5⟩
 ·decide
 ·exact⟨h1,h2,h4,h5⟩
def Scl (m x N:Int)(D:Nat):Prop:=0<D/\Nat.Coprime N.natAbs D/\N*(10^(-x).toNat:Nat)=m*(10^x.toNat:Nat)*D
def GridIs (e:Ending)(m x:Int):Prop :=
 (okN m x=false/\e=.returned (.tuple #[.int .i64 0,.int .i64 30]))∨(okN m x=true/\∃N D,Scl m (x+9) N D/\e=.returned (.tuple #[.int .i64 (F.gridV (F.near N D)),.int .i64 (F.gridE (F.near N D))]))
end Q
namespace V
open Q (okN okN_bd Scl)
def U (m x:Int):Int:=m*((10^(x+18).toNat:Nat):Int)
theorem scl_u {m x N:Int}{D:Nat}(hx:-18<=x)(h:Scl m x N D):N*((10^18:Nat):Int)=U m x*D:=by
 obtain⟨_,_,e⟩:=h
 unfold U
 by_cases h0:0<=x
 ·have e1:(-x).toNat=0:=by omega
  have e2:(x+18).toNat=x.toNat+18:=by omega
  rw[e1]at e
  rw[e2,Nat.pow_add,Int.natCast_mul,<-Int.mul_assoc,Int.mul_right_comm (m*_),<-e]
  simp
 ·have e1:x.toNat=0:=by omega
  have e2:10^18=10^(-x).toNat*10^(x+18).toNat:=by rw[<-Nat.pow_add];congr 1;omega
  rw[e1]at e
  rw[e2,Int.natCast_mul,<-Int.mul_assoc,e]
  simp only[Nat.pow_zero,Int.natCast_one,Int.mul_one]
  rw[Int.mul_right_comm]
end V
namespace Q
def ValIs (B:Nat)(w':World)(e:Ending)(m x:Int):Prop :=
 (okN m x=false/\e=.returned (.tuple #[.agg #[.bool false,.slice none 0 0,.bool false,.slice none 0 0],.int .i64 30]))∨(okN m x=true/\∃v N D,e=.returned (.tuple #[v,.int .i64 0])/\RQ B w' v N D/\Scl m x N D)
def CmpIs (e:Ending)(m x m' x':Int):Prop :=
 (¬(okN m x=true/\okN m' x'=true)/\e=.returned (.tuple #[.int .i64 0,.int .i64 30]))∨((okN m x=true/\okN m' x'=true)/\∃(N:Int) (D:Nat) (N':Int) (D':Nat),Scl m x N D/\Scl m' x' N' D'/\e=.returned (.tuple #[.int .i64 (isgn (N*D') (N'*D)),.int .i64 0]))
theorem cmp_any (m x m' x':Int)(w:World):Calls Tryz.prog 181 #[.agg #[.int .i64 m,.int .i64 x],.agg #[.int .i64 m',.int .i64 x']] w fun e w'=>Kept w w'/\CmpIs e m x m' x':=by
 go_enter Tryz.func181,Tryz.ntmps181
 go_upto_region 1 with fail
 have hK:=((Kept.refl w).alloc (.cells #[.int .i64 m,.int .i64 x] 25)).alloc (.cells #[.int .i64 m',.int .i64 x'] 25)
 have hR2:=(Row2.alloc 25 w (.int .i64 m) (.int .i64 x)).kept ((Kept.refl _).alloc (.cells #[.int .i64 m',.int .i64 x'] 25))
 have hR3:=Row2.alloc 25 (w.alloc (.cells #[.int .i64 m,.int .i64 x] 25)) (.int .i64 m') (.int .i64 x')
 rw[World.size_alloc]at hR3
 generalize (w.alloc (.cells #[.int .i64 m,.int .i64 x] 25)).alloc (.cells #[.int .i64 m',.int .i64 x'] 25)=W at hK hR2 hR3 ⊢
 obtain⟨p3,hp3⟩:∃p,p=w.heap.size+1:=⟨_,rfl⟩
 rw[<-hp3]at hR3 ⊢
 obtain⟨p2,hp2⟩:∃p,p=w.heap.size:=⟨_,rfl⟩
 rw[<-hp2]at hR2 ⊢
 have HK:=hid' hK
 have HR2:=hid' hR2
 have HR3:=hid' hR3
 obtain⟨q0,q1,q2,q3⟩:=hR2.all
 clear hp2 hp3 hK hR2 hR3
 go_wp2_with fail
 refine(Valid_any m x _).mono ?_
 rintro e w1 ⟨hk1,rfl⟩
 have HK1:=hid' hk1
 clear hk1 q0 q1 q2 q3
 by_cases ho:okN m x=true
 ·have hb:=okN_bd ho
  rw[ho]
  have HO:=hid' ho
  clear ho
  obtain⟨q0,q1,q2,q3⟩:=(HR3.out.kept HK1.out).all
  go_wp2_with fail
  refine(Valid_any m' x' _).mono ?_
  rintro e w2 ⟨hk2,rfl⟩
  have HK2:=hid' (HK1.out.trans hk2)
  clear hk2 q0 q1 q2 q3
  by_cases ho':okN m' x'=true
  ·have hb':=okN_bd ho'
   rw[ho']
   have HO':=hid' ho'
   clear ho'
   go_upto_region 3 with fail
   obtain⟨q0,q1,q2,q3⟩:=(HR2.out.kept HK2.out).all
   obtain⟨r0,r1,r2,r3⟩:=(HR3.out.kept HK2.out).all
   go_region_held3 (fun w'=>w'.cell? ⟨p2,0,none⟩=some (.int .i64 m)/\w'.cell? ⟨p2,1,none⟩=some (.int .i64 x)/\w'.cell? ⟨p3,0,none⟩=some (.int .i64 m')/\w'.cell? ⟨p3,1,none⟩=some (.int .i64 x')) (go_keep) (first
    |(go_at_call_of 204 (Value.int .i64 m);refine(scaled_any m x (by omega) (by omega) (by omega) (by omega) _).mono ?_;rintro e w3 ⟨hk3,v3,N3,D3,rfl,hq3,he3⟩;have HS3:Hid (Scl m x N3 D3):=⟨hq3.low.1,hq3.low.2,he3⟩;obtain⟨s,ao,ap,k,c,k',c',l,l',rfl,n1,n2,r,rfl,rfl⟩:=hq3;have H3:=hid' (And.intro n1.sl (And.intro n2.sl r));have K3:=HK2.out.trans ((Kept.refl w2).drew.trans hk3);have a0:=(HR2.out.kept K3).c0;have a1:=(HR2.out.kept K3).c1;have a2:=(HR3.out.kept K3).c0;have a3:=(HR3.out.kept K3).c1;clear n1 n2 r he3)
    |(go_at_call_of 204 (Value.int .i64 m');refine(scaled_any m' x' (by omega) (by omega) (by omega) (by omega) _).mono ?_;rintro e w4 ⟨hk4,v4,N4,D4,rfl,hq4,he4⟩;have HS4:Hid (Scl m' x' N4 D4):=⟨hq4.low.1,hq4.low.2,he4⟩;obtain⟨s4,ao4,ap4,k4,c4,k4',c4',l4,l4',rfl,n1,n2,r,rfl,rfl⟩:=hq4;have H4:=hid' (And.intro n1.sl (And.intro n2.sl (And.intro r hk4)));have K4:=K3.trans hk4;have b0:=(HR2.out.kept K4).c0;have b1:=(HR2.out.kept K4).c1;have b2:=(HR3.out.kept K4).c0;have b3:=(HR3.out.kept K4).c1;clear n1 n2 r he4)
    | (go_at_call 203;refine(F.Cmp_ok s false s4 false ao ap ao4 ap4 k c k' c' k4 c4 k4' c4' l l' l4 l4' _ (H3.out.1.kept H4.out.2.2.2) (H3.out.2.1.kept H4.out.2.2.2) H4.out.1 H4.out.2.1 H3.out.2.2 H4.out.2.2.1).mono ?_;rintro e w5 ⟨rfl,hk5⟩;have K5:=K4.trans hk5;have d0:=(HR2.out.kept K5).c0;have d1:=(HR2.out.kept K5).c1;have d2:=(HR3.out.kept K5).c0;have d3:=(HR3.out.kept K5).c1))
   have HK5:=hid' (HK.out.trans K5)
   clear K3 K4 K5 hk3 hk4 hk5 q0 q1 q2 q3 r0 r1 r2 r3 a0 a1 a2 a3 b0 b1 b2 b3 d0 d1 d2 d3
   generalize hgi:isgn (M.int s l*M.val l4') (M.int s4 l4*M.val l')=gi
   have HGI:=hid' hgi
   clear hgi
   go_wp2
   go_ret2
   exact⟨HK5.out,.inr ⟨⟨HO.out,HO'.out⟩,_,_,_,_,HS3.out,HS4.out,by rw[HGI.out];rfl⟩⟩
  ·have ho':okN m' x'=false:=by simpa using ho'
   rw[ho']
   have HO':=hid' ho'
   clear ho'
   go_wp2
   go_ret2
   exact⟨HK.out.trans HK2.out,.inl ⟨fun hh=>absurd (HO'.out.symm.trans hh.2) (by decide),rfl⟩⟩
 ·have ho:okN m x=false:=by simpa using ho
  rw[ho]
  have HO:=hid' ho
  clear ho
  go_wp2
  go_ret2
  exact⟨HK.out.trans HK1.out,.inl ⟨fun hh=>absurd (HO.out.symm.trans hh.1) (by decide),rfl⟩⟩
end Q
namespace V
open Q (okN okN_bd Scl RQ hid')
def RT (B:Nat)(w:World)(v:Value)(A:Int)(S:Nat):Prop:=∃N D,RQ B w v N D/\N*(S:Int)=A*D
theorem RT.kept {B:Nat}{w w':World}{v:Value}{A:Int}{S:Nat}(h:RT B w v A S)(k:Kept w w'):RT B w' v A S:=by
 obtain⟨N,D,h1,h2⟩:=h
 exact⟨N,D,h1.kept k,h2⟩
theorem RT.mono {B B':Nat}{w:World}{v:Value}{A:Int}{S:Nat}(h:RT B w v A S)(k:B'<=B):RT B' w v A S:=by
 obtain⟨N,D,h1,h2⟩:=h
 exact⟨N,D,h1.mono k,h2⟩
theorem RT.shape {B:Nat}{w:World}{v:Value}{A:Int}{S:Nat}(h:RT B w v A S):∃(s:Bool) (ao ap:Option Addr) (k c k' c':Nat),v=.agg #[.bool s,.slice ao k c,.bool false,.slice ap k' c']:=by
 obtain⟨N,D,⟨s,ao,ap,k,c,k',c',l,l',rfl,_⟩,_⟩:=h
 exact⟨_,_,_,_,_,_,_,rfl⟩
theorem hW:(10:Nat)^200<M.W72:=by unfold M.W72;decide
end V
end Go.Proofs.YtdjhmgmjiglcbaaGreatDoor
