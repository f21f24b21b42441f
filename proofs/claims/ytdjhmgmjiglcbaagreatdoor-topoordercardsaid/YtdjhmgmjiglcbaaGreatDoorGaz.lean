/- Lemmas. -/
import Derived.Test.YtdjhmgmjiglcbaaGreatDoorGao
import Derived.Test.YtdjhmgmjiglcbaaGreatDoorFsum
import Derived.Test.YtdjhmgmjiglcbaaGreatDoorGan
import Derived.Test.YtdjhmgmjiglcbaaGreatDoorGas
import Derived.Test.YtdjhmgmjiglcbaaGreatDoorGaf
set_option maxRecDepth 100000
set_option maxHeartbeats 8000000
namespace Go.Proofs.YtdjhmgmjiglcbaaGreatDoor
open Go.RowKit
namespace F
structure IsProd (xA:Int) (yA:Nat) (xB:Int) (yB:Nat) (N:Int) (D:Nat):Prop where
 pos:0<D
 low:Nat.Coprime N.natAbs D
 eq:N*(yA*yB)=(xA*xB)*D
theorem prod_low {xA xB nA nB dA dB:Int}{yA yB g1 g2:Nat}(hA:Nat.Coprime xA.natAbs yA)(hB:Nat.Coprime xB.natAbs yB)(pA:0<yA)(pB:0<yB)(e1:Nat.gcd xA.natAbs yB=g1)(e2:Nat.gcd xB.natAbs yA=g2)
  (h1:nA*g1=xA) (h2:dB*g1=yB) (h3:nB*g2=xB) (h4:dA*g2=yA):0<dA/\0<dB/\IsProd xA yA xB yB (nA*nB) (dA*dB).natAbs:=by
 have g1p:0<g1:=by rw[<-e1];exact Nat.gcd_pos_of_pos_right _ pB
 have g2p:0<g2:=by rw[<-e2];exact Nat.gcd_pos_of_pos_right _ pA
 have dAp:0<dA:=by
  rcases Int.lt_trichotomy dA 0 with h|h|h
  ·have:=Int.mul_neg_of_neg_of_pos h (show (0:Int)<g2 by omega);omega
  ·rw[h]at h4;simp at h4;omega
  ·exact h
 have dBp:0<dB:=by
  rcases Int.lt_trichotomy dB 0 with h|h|h
  ·have:=Int.mul_neg_of_neg_of_pos h (show (0:Int)<g1 by omega);omega
  ·rw[h]at h2;simp at h2;omega
  ·exact h
 have a1:nA.natAbs*g1=xA.natAbs:=by rw[<-h1,Int.natAbs_mul,Int.natAbs_natCast]
 have a2:dB.natAbs*g1=yB:=by have:=congrArg Int.natAbs h2;rwa [Int.natAbs_mul,Int.natAbs_natCast,Int.natAbs_natCast]at this
 have a3:nB.natAbs*g2=xB.natAbs:=by rw[<-h3,Int.natAbs_mul,Int.natAbs_natCast]
 have a4:dA.natAbs*g2=yA:=by have:=congrArg Int.natAbs h4;rwa [Int.natAbs_mul,Int.natAbs_natCast,Int.natAbs_natCast]at this
 have c1:Nat.Coprime nA.natAbs dB.natAbs:=by
  rw[<-a1,<-a2,Nat.gcd_mul_right]at e1
  exact Nat.eq_of_mul_eq_mul_right g1p (by omega)
 have c2:Nat.Coprime nB.natAbs dA.natAbs:=by
  rw[<-a3,<-a4,Nat.gcd_mul_right]at e2
  exact Nat.eq_of_mul_eq_mul_right g2p (by omega)
 have c3:Nat.Coprime nA.natAbs dA.natAbs:=(hA.coprime_dvd_left (by rw[<-a1];exact Nat.dvd_mul_right _ _)).coprime_dvd_right (by rw[<-a4];exact Nat.dvd_mul_right _ _)
 have c4:Nat.Coprime nB.natAbs dB.natAbs:=(hB.coprime_dvd_left (by rw[<-a3];exact Nat.dvd_mul_right _ _)).coprime_dvd_right (by rw[<-a2];exact Nat.dvd_mul_right _ _)
 have hD:0<dA*dB:=Int.mul_pos dAp dBp
 have eD:(((dA*dB).natAbs:Nat):Int)=dA*dB:=by omega
 refine⟨dAp,dBp,by omega,?_,?_⟩
 ·rw[Int.natAbs_mul,Int.natAbs_mul]
  exact Nat.Coprime.mul_left (Nat.Coprime.mul_right c3 c1) (Nat.Coprime.mul_right c2 c4)
 ·rw[eD,<-h1,<-h3,<-h4,<-h2]
  clear a1 a2 a3 a4 c1 c2 c3 c4 hD eD dAp dBp g1p g2p e1 e2 hA hB pA pB h1 h2 h3 h4
  grind
theorem flag_two {f1 f2:Bool}{v1 v2 z1 z2:Int}{W:Nat}(h1:f1=false->(false:Bool)=false/\v1=z1)(k1:(false:Bool)=false->z1.natAbs<W->f1=false)(h2:f2=false->f1=false/\v2=z2)(k2:f1=false->z2.natAbs<W->f2=false) :
  (f2=false->v1=z1/\v2=z2)/\(z1.natAbs<W->z2.natAbs<W->f2=false) :=
 ⟨fun h=>⟨(h1 (h2 h).1).2,(h2 h).2⟩,fun a b=>k2 (k1 rfl a) b⟩
theorem product_r (m nA n nB:Bool)(a1 a2 b1 b2:Option Addr)(k1 c1 k2 c2 k3 c3 k4 c4:Nat)(an ad bn bd:List Nat)(w:World)
  (ha:Sl w (.slice a1 k1 c1) an) (had:Sl w (.slice a2 k2 c2) ad) (hb:Sl w (.slice b1 k3 c3) bn) (hbd:Sl w (.slice b2 k4 c4) bd) (hA:RatR m nA an ad) (hB:RatR n nB bn bd) :
  Calls Tryz.prog 248 #[.agg #[.bool m,.slice a1 k1 c1,.bool nA,.slice a2 k2 c2],.agg #[.bool n,.slice b1 k3 c3,.bool nB,.slice b2 k4 c4]] w fun e w'=>Kept w w'/\∃N D,IsProd (M.int m an) (M.val ad) (M.int n bn) (M.val bd) N D/\SumIs w.heap.size w' e N D:=by
 obtain rfl:=hA.sgn
 obtain rfl:=hB.sgn
 have HR:Hid (RatR m false an ad/\RatR n false bn bd):=⟨hA,hB⟩
 have HA:Hid (Sl w (.slice a1 k1 c1) an/\Sl w (.slice a2 k2 c2) ad/\Sl w (.slice b1 k3 c3) bn/\Sl w (.slice b2 k4 c4) bd):=⟨ha,had,hb,hbd⟩
 clear ha had hb hbd hA hB
 have K3:∀x y t,Kept w (((w.alloc x).alloc y).alloc t):=fun x y t=>(((Kept.refl w).alloc x).alloc y).alloc t
 go_enter Tryz.func248,Tryz.ntmps248
 go_wp2_with fail
 refine(reduced_r m false a1 b2 k1 c1 k4 c4 an bd _ (HA.out.1.kept (K3 _ _ _)) (HA.out.2.2.2.kept (K3 _ _ _)) HR.out.1.ra HR.out.2.rd (Nat.gcd_pos_of_pos_right _ HR.out.2.vpos)).mono ?_
 rintro e w1 ⟨hk,s6,a6,k6,c6,l6,s7,a7,k7,c7,l7,rfl,n6,n7,r6,r7,v6,v7⟩
 have rA:=((RRow.alloc w (.bool m) (.slice a1 k1 c1) (.bool false) (.slice a2 k2 c2))).kept ((((Kept.refl _).alloc _).alloc _).trans hk)
 have rB:=((RRow.alloc (w.alloc (.cells #[.bool m,.slice a1 k1 c1,.bool false,.slice a2 k2 c2] 213)) (.bool n) (.slice b1 k3 c3) (.bool false) (.slice b2 k4 c4))).kept (((Kept.refl _).alloc _).trans hk)
 have rZ:=((RRow.alloc ((w.alloc (.cells #[.bool m,.slice a1 k1 c1,.bool false,.slice a2 k2 c2] 213)).alloc (.cells #[.bool n,.slice b1 k3 c3,.bool false,.slice b2 k4 c4] 213)) (.bool false) (.slice none 0 0) (.bool false) (.slice none 0 0))).kept hk
 simp only[World.size_alloc]at rB rZ
 have HK:=hidp ((K3 _ _ _).trans hk)
 have H6:Hid (M.Right s6 l6/\M.Right s7 l7/\M.int s6 l6*(Nat.gcd (M.val an) (M.val bd):Nat)=M.int m an/\M.int s7 l7*(Nat.gcd (M.val an) (M.val bd):Nat)=M.int false bd):=⟨r6,r7,v6,v7⟩
 have HN:Hid (New (w.heap.size+1+1+1) w1 (.slice a6 k6 c6) l6/\New (w.heap.size+1+1+1) w1 (.slice a7 k7 c7) l7/\RRow w1 (w.heap.size+1+1) (.bool false) (.slice none 0 0) (.bool false) (.slice none 0 0)):=⟨n6.mono (by simp),n7.mono (by simp),rZ⟩
 have HA1:=hidp rA
 have HB1:=hidp rB
 clear hk n6 n7 r6 r7 v6 v7 rA rB rZ K3
 go_upto_region 2 with fail
 have hK:Kept w1 ((w1.alloc (.cells #[.bool s6,.slice a6 k6 c6] 211)).alloc (.cells #[.bool s7,.slice a7 k7 c7] 211)):=((Kept.refl w1).alloc _).alloc _
 have hY:=box_kept2 (Kept.refl ((w1.alloc (.cells #[.bool s6,.slice a6 k6 c6] 211)).alloc (.cells #[.bool s7,.slice a7 k7 c7] 211)))
 have hsz:((w1.alloc (.cells #[.bool s6,.slice a6 k6 c6] 211)).alloc (.cells #[.bool s7,.slice a7 k7 c7] 211)).heap.size=w1.heap.size+1+1:=by simp
 generalize (w1.alloc (.cells #[.bool s6,.slice a6 k6 c6] 211)).alloc (.cells #[.bool s7,.slice a7 k7 c7] 211)=W1 at hK hY hsz ⊢
 obtain⟨hy0,hy1,hy2,hy3⟩:=hY
 obtain⟨p7,hp7⟩:∃p,p=w1.heap.size+1:=⟨_,rfl⟩
 rw[<-hp7]at hy2 hy3 ⊢
 obtain⟨p6,hp6⟩:∃p,p=w1.heap.size:=⟨_,rfl⟩
 rw[<-hp6]at hy0 hy1 ⊢
 have H67:Hid ((W1.cell? ⟨p6,0,none⟩=some (.bool s6)/\W1.cell? ⟨p6,1,none⟩=some (.slice a6 k6 c6))/\(W1.cell? ⟨p7,0,none⟩=some (.bool s7)/\W1.cell? ⟨p7,1,none⟩=some (.slice a7 k7 c7))/\w1.heap.size<=p6/\w1.heap.size<=p7/\p6<W1.heap.size/\p7<W1.heap.size):=⟨⟨hy0,hy1⟩,⟨hy2,hy3⟩,by omega,by omega,by omega,by omega⟩
 have HN:Hid (New (w.heap.size+1+1+1) W1 (.slice a6 k6 c6) l6/\New (w.heap.size+1+1+1) W1 (.slice a7 k7 c7) l7/\RRow W1 (w.heap.size+1+1) (.bool false) (.slice none 0 0) (.bool false) (.slice none 0 0)/\w.heap.size+1+1<w1.heap.size):=⟨HN.out.1.kept hK,HN.out.2.1.kept hK,HN.out.2.2.kept hK,HN.out.2.2.lt⟩
 have HA1:=hidp (HA1.out.kept hK)
 have HB1:=hidp (HB1.out.kept hK)
 have HK:=hidp (HK.out.trans hK)
 clear hK hy0 hy1 hy2 hy3 hp6 hp7 hsz
 have q0:=HB1.out.c0
 have q1:=HB1.out.c1
 have q2:=HA1.out.c2
 have q3:=HA1.out.c3
 go_wp2_with fail
 refine(reduced_r n false b1 a2 k3 c3 k2 c2 bn ad _ (HA.out.2.2.1.kept HK.out) (HA.out.2.1.kept HK.out) HR.out.2.ra HR.out.1.rd (Nat.gcd_pos_of_pos_right _ HR.out.1.vpos)).mono ?_
 rintro e w2 ⟨hk,s8,a8,k8,c8,l8,s9,a9,k9,c9,l9,rfl,n8,n9,r8,r9,v8,v9⟩
 have H8:Hid (M.Right s8 l8/\M.Right s9 l9/\M.int s8 l8*(Nat.gcd (M.val bn) (M.val ad):Nat)=M.int n bn/\M.int s9 l9*(Nat.gcd (M.val bn) (M.val ad):Nat)=M.int false ad):=⟨r8,r9,v8,v9⟩
 have H67:Hid ((w2.cell? ⟨p6,0,none⟩=some (.bool s6)/\w2.cell? ⟨p6,1,none⟩=some (.slice a6 k6 c6))/\(w2.cell? ⟨p7,0,none⟩=some (.bool s7)/\w2.cell? ⟨p7,1,none⟩=some (.slice a7 k7 c7))/\w.heap.size+1+1<p6/\w.heap.size+1+1<p7/\p6<w2.heap.size/\p7<w2.heap.size):=by
  obtain⟨g1,g2,g3,g4,g5,g6⟩:=H67.out
  have h9:=HN.out.2.2.2
  have h8:=hk.size
  exact⟨⟨cell_kept hk g1.1,cell_kept hk g1.2⟩,⟨cell_kept hk g2.1,cell_kept hk g2.2⟩,by omega,by omega,by omega,by omega⟩
 have HNN:Hid (Kept w w2/\Sl w2 (.slice a6 k6 c6) l6/\Sl w2 (.slice a7 k7 c7) l7/\Sl w2 (.slice a8 k8 c8) l8/\Sl w2 (.slice a9 k9 c9) l9/\RRow w2 (w.heap.size+1+1) (.bool false) (.slice none 0 0) (.bool false) (.slice none 0 0)):=⟨HK.out.trans hk,(HN.out.1.kept hk).sl,(HN.out.2.1.kept hk).sl,n8.sl,n9.sl,HN.out.2.2.1.kept hk⟩
 clear hk n8 n9 r8 r9 v8 v9 q0 q1 q2 q3 HA1 HB1 HN HA HK
 go_upto_region 4 with fail
 have hK2:Kept w2 ((w2.alloc (.cells #[.bool s8,.slice a8 k8 c8] 211)).alloc (.cells #[.bool s9,.slice a9 k9 c9] 211)):=((Kept.refl w2).alloc _).alloc _
 have hY:=box_kept2 (Kept.refl ((w2.alloc (.cells #[.bool s8,.slice a8 k8 c8] 211)).alloc (.cells #[.bool s9,.slice a9 k9 c9] 211)))
 have hsz:((w2.alloc (.cells #[.bool s8,.slice a8 k8 c8] 211)).alloc (.cells #[.bool s9,.slice a9 k9 c9] 211)).heap.size=w2.heap.size+1+1:=by simp
 have hF:=Flag.alloc ((w2.alloc (.cells #[.bool s8,.slice a8 k8 c8] 211)).alloc (.cells #[.bool s9,.slice a9 k9 c9] 211)) false
 rw[hsz]at hF
 have hK3:Kept ((w2.alloc (.cells #[.bool s8,.slice a8 k8 c8] 211)).alloc (.cells #[.bool s9,.slice a9 k9 c9] 211)) (((w2.alloc (.cells #[.bool s8,.slice a8 k8 c8] 211)).alloc (.cells #[.bool s9,.slice a9 k9 c9] 211)).alloc (.cells #[.bool false] 289)):=(Kept.refl _).alloc _
 obtain⟨hy0,hy1,hy2,hy3⟩:=hY
 have hy0:=cell_kept hK3 hy0
 have hy1:=cell_kept hK3 hy1
 have hy2:=cell_kept hK3 hy2
 have hy3:=cell_kept hK3 hy3
 have hKW:=hK2.trans hK3
 generalize ((w2.alloc (.cells #[.bool s8,.slice a8 k8 c8] 211)).alloc (.cells #[.bool s9,.slice a9 k9 c9] 211)).alloc (.cells #[.bool false] 289)=W at hF hy0 hy1 hy2 hy3 hKW ⊢
 clear hK2 hK3 hsz
 obtain⟨kb,hkb⟩:∃p,p=w2.heap.size+1+1:=⟨_,rfl⟩
 rw[<-hkb]at hF ⊢
 obtain⟨p9,hp9⟩:∃p,p=w2.heap.size+1:=⟨_,rfl⟩
 rw[<-hp9]at hy2 hy3 ⊢
 obtain⟨p8,hp8⟩:∃p,p=w2.heap.size:=⟨_,rfl⟩
 rw[<-hp8]at hy0 hy1 ⊢
 obtain⟨p4,hp4⟩:∃p,p=w.heap.size+1+1:=⟨_,rfl⟩
 rw[<-hp4]at HNN H67 ⊢
 obtain⟨g1,g2,g3,g4,g5,g6⟩:=H67.out
 obtain⟨u0,u1,u2,u3,u4,u5⟩:=HNN.out
 have B6:Box kb W p6 s6 a6 k6 c6 l6:=Box.mk hF (by omega) (cell_kept hKW g1.1) (cell_kept hKW g1.2) (u1.kept hKW)
 have B7:Box kb W p7 s7 a7 k7 c7 l7:=Box.mk hF (by omega) (cell_kept hKW g2.1) (cell_kept hKW g2.2) (u2.kept hKW)
 have B8:Box kb W p8 s8 a8 k8 c8 l8:=Box.mk hF (by omega) hy0 hy1 (u3.kept hKW)
 have B9:Box kb W p9 s9 a9 k9 c9 l9:=Box.mk hF (by omega) hy2 hy3 (u4.kept hKW)
 have R4:=u5.kept hKW
 have nk:p4≠kb:=by have:=u5.lt;omega
 have m1:¬(p4=p6):=by omega
 have m2:¬(p4=p7):=by omega
 have m3:¬(p4=p8):=by have:=u5.lt;omega
 have m4:¬(p4=p9):=by have:=u5.lt;omega
 have HP:Hid (Kept w W/\w.heap.size<=kb/\w.heap.size<=p4/\p4<W.heap.size/\w.heap.size<=W.heap.size):=⟨u0.trans hKW,by have:=u5.lt;omega,by omega,R4.lt,(u0.trans hKW).size⟩
 clear hy0 hy1 hy2 hy3 hKW hkb hp9 hp8 hp4 H67 HNN g1 g2 g3 g4 g5 g6 u0 u1 u2 u3 u4 u5
 have KK:KeptK kb W W:=KeptK.refl _ _
 have q0:=B6.c0 KK
 have q1:=B6.c1 KK
 have q2:=B8.c0 KK
 have q3:=B8.c1 KK
 have q4:=B9.c0 KK
 have q5:=B9.c1 KK
 have q6:=B7.c0 KK
 have q7:=B7.c1 KK
 clear KK
 go_region_held3 (fun w'=>w'.cell? ⟨p6,0,none⟩=some (.bool s6)/\w'.cell? ⟨p6,1,none⟩=some (.slice a6 k6 c6)/\w'.cell? ⟨p8,0,none⟩=some (.bool s8)/\w'.cell? ⟨p8,1,none⟩=some (.slice a8 k8 c8)/\w'.cell? ⟨p9,0,none⟩=some (.bool s9)/\w'.cell? ⟨p9,1,none⟩=some (.slice a9 k9 c9)/\w'.cell? ⟨p7,0,none⟩=some (.bool s7)/\w'.cell? ⟨p7,1,none⟩=some (.slice a7 k7 c7)) (go_keep) (first
  |(go_at_call_of 268 (Value.slice a6 k6 c6);refine(mul_q kb false s6 s8 (.slice a6 k6 c6) (.slice a8 k8 c8) l6 l8 _ (hF.kept (Kept.refl _).drew) (B6.sl (KeptK.of (Kept.refl _).drew)) (B8.sl (KeptK.of (Kept.refl _).drew)) (R.of_right H6.out.1) (R.of_right H8.out.1)).mono ?_;rintro e w3 ⟨hk3,x3,s3,ao3,kk3,cc3,l3,rfl,hF3,n3,r3,hx3,hy3,_,_⟩;have K3:=(KeptK.of (kb:=kb) (Kept.refl W).drew).trans hk3;have H3:=hidp (And.intro r3 (And.intro hx3 hy3));clear r3 hx3 hy3;have d0:=B6.c0 K3;have d1:=B6.c1 K3;have d2:=B8.c0 K3;have d3:=B8.c1 K3;have d4:=B9.c0 K3;have d5:=B9.c1 K3;have d6:=B7.c0 K3;have d7:=B7.c1 K3)
  |(go_at_call_of 268 (Value.slice a9 k9 c9);refine(mul_q kb x3 s9 s7 (.slice a9 k9 c9) (.slice a7 k7 c7) l9 l7 _ hF3 (B9.sl K3) (B7.sl K3) (R.of_right H8.out.2.1) (R.of_right H6.out.2.1)).mono ?_;rintro e w4 ⟨hk4,x4,s4,ao4,kk4,cc4,l4,rfl,hF4,n4,r4,hx4,hy4,_,_⟩;have K4:=K3.trans hk4;have H4:=hidp (And.intro r4 (And.intro hx4 hy4));have n3:=New.keptK hF3 n3 hk4;have HZ3:=hidp K3.size;clear r4 hx4 hy4;have f0:=B6.c0 K4;have f1:=B6.c1 K4;have f2:=B8.c0 K4;have f3:=B8.c1 K4;have f4:=B9.c0 K4;have f5:=B9.c1 K4;have f6:=B7.c0 K4;have f7:=B7.c1 K4)
  | (go_at_call 267;refine(answer_q kb x4 s3 s4 ao3 ao4 kk3 cc3 kk4 cc4 _ hF4).mono ?_;rintro e w5 ⟨hk5,y0,y2,z1,z3,j1,e1,j3,e3,er,rfl,hcase⟩;have K5:=K4.then hk5;have HCA:=hidp hcase;clear hcase;have g0:=B6.c0 K5;have g1:=B6.c1 K5;have g2:=B8.c0 K5;have g3:=B8.c1 K5;have g4:=B9.c0 K5;have g5:=B9.c1 K5;have g6:=B7.c0 K5;have g7:=B7.c1 K5;have r4':=R4.keptK nk K5;have i0:=r4'.c0;have i1:=r4'.c1;have i2:=r4'.c2;have i3:=r4'.c3;have o0:=r4'.fz 0;have o1:=r4'.fz 1;have o2:=r4'.fz 2;have o3:=r4'.fz 3))
 have HK5:=hidp (KeptK.out HP.out.1 K5 HP.out.2.1)
 have HN5:=hidp (And.intro (New.kept n3 hk5) (New.kept n4 hk5))
 have HZW:=hidp (KeptK.of (kb:=kb) (Kept.refl W).drew).size
 clear q0 q1 q2 q3 q4 q5 q6 q7 d0 d1 d2 d3 d4 d5 d6 d7 f0 f1 f2 f3 f4 f5 f6 f7 g0 g1 g2 g3 g4 g5 g6 g7 hk3 hk4 hk5 K3 K4 K5 hF hF3 hF4 n3 n4 B6 B7 B8 B9 R4 r4'
 go_wp2
 obtain⟨b0,b1,b2,b3,b4⟩:=HP.out
 have hz3:=HZ3.out
 have hzw:=HZW.out
 have hlA:Nat.Coprime (M.int m an).natAbs (M.val ad):=by rw[M.natAbs_int];exact HR.out.1.low
 have hlB:Nat.Coprime (M.int n bn).natAbs (M.val bd):=by rw[M.natAbs_int];exact HR.out.2.low
 obtain⟨t1,t2,hP⟩:=prod_low hlA hlB HR.out.1.vpos HR.out.2.vpos (by rw[M.natAbs_int]) (by rw[M.natAbs_int]) H6.out.2.2.1 (by rw[<-HR.out.2.val];exact H6.out.2.2.2) H8.out.2.2.1 (by rw[<-HR.out.1.val];exact H8.out.2.2.2)
 have hD:(((M.int s9 l9*M.int s7 l7).natAbs:Nat):Int)=M.int s9 l9*M.int s7 l7:=by have:=Int.mul_pos t1 t2;omega
 have FL:=flag_two (W:=M.W72) (fun h=>⟨rfl,(H3.out.2.1 h).2⟩) (fun _=>H3.out.2.2 trivial) H4.out.2.1 H4.out.2.2
 refine bodyPost_ret (v:=.tuple #[.agg #[.bool y0,.slice z1 j1 e1,.bool y2,.slice z3 j3 e3],.int .i64 er]) (by simp[results,Tryz.results248,go_sem,i0,i1,i2,i3]) rfl ⟨?_,_,_,hP,?_⟩
 ·exact(((HK5.out.setCell b2 _).setCell b2 _).setCell b2 _).setCell b2 _
 ·rcases HCA.out with ⟨h0,rfl,rfl,rfl,rfl,rfl,rfl,rfl,rfl,rfl⟩|⟨h0,rfl,rfl,rfl,rfl,rfl,rfl,rfl,rfl,rfl⟩
  ·obtain⟨w1',w2'⟩:=FL.1 h0
   exact .inl ⟨_,rfl,_,_,_,_,_,_,_,_,_,_,rfl,(set4 HN5.out.1 (by omega) _ _ _ _).mono (by omega),H3.out.1,w1',(set4 HN5.out.2 (by omega) _ _ _ _).mono (by omega),H4.out.1,by rw[w2',hD]⟩
  ·refine .inr ⟨rfl,fun hf=>?_⟩
   have:=FL.2 hf.1 hf.2
   rw[this]at h0
   simp at h0
structure IsSum (xA:Int) (yA:Nat) (xB:Int) (yB:Nat) (N:Int) (D:Nat):Prop where
 pos:0<D
 low:Nat.Coprime N.natAbs D
 eq:N*(yA*yB)=(xA*yB+xB*yA)*D
theorem SumIs.set4 {B p:Nat}{w:World}{e:Ending}{N:Int}{D:Nat}(h:SumIs B w e N D)(hp:p<B)(x0 x1 x2 x3:Value):SumIs B ((((w.setCell ⟨p,0,none⟩ x0).setCell ⟨p,1,none⟩ x1).setCell ⟨p,2,none⟩ x2).setCell ⟨p,3,none⟩ x3) e N D:=by
 rcases h with ⟨v,rfl,s,ao,k,c,l,t,ap,k',c',l',rfl,n1,r1,v1,n2,r2,v2⟩|h
 ·exact .inl ⟨_,rfl,s,ao,k,c,l,t,ap,k',c',l',rfl,F.set4 n1 hp _ _ _ _,r1,v1,F.set4 n2 hp _ _ _ _,r2,v2⟩
 ·exact .inr h
theorem SumIs.mono {B B':Nat}{w:World}{e:Ending}{N:Int}{D:Nat}(h:SumIs B w e N D)(hB:B'<=B):SumIs B' w e N D:=by
 rcases h with ⟨v,rfl,s,ao,k,c,l,t,ap,k',c',l',rfl,n1,r1,v1,n2,r2,v2⟩|h
 ·exact .inl ⟨_,rfl,s,ao,k,c,l,t,ap,k',c',l',rfl,n1.mono hB,r1,v1,n2.mono hB,r2,v2⟩
 ·exact .inr h
theorem Mul_ok (m nA n nB:Bool)(a1 a2 b1 b2:Option Addr)(k1 c1 k2 c2 k3 c3 k4 c4:Nat)(an ad bn bd:List Nat)(w:World)
  (ha:Sl w (.slice a1 k1 c1) an) (had:Sl w (.slice a2 k2 c2) ad) (hb:Sl w (.slice b1 k3 c3) bn) (hbd:Sl w (.slice b2 k4 c4) bd) (hA:RatR m nA an ad) (hB:RatR n nB bn bd) :
  Calls Tryz.prog 228 #[.agg #[.bool m,.slice a1 k1 c1,.bool nA,.slice a2 k2 c2],.agg #[.bool n,.slice b1 k3 c3,.bool nB,.slice b2 k4 c4]] w fun e w'=>Kept w w'/\∃N D,IsProd (M.int m an) (M.val ad) (M.int n bn) (M.val bd) N D/\SumIs w.heap.size w' e N D:=by
 have HA:Hid (Sl w (.slice a1 k1 c1) an/\Sl w (.slice a2 k2 c2) ad/\Sl w (.slice b1 k3 c3) bn/\Sl w (.slice b2 k4 c4) bd):=⟨ha,had,hb,hbd⟩
 have HR:Hid (RatR m nA an ad/\RatR n nB bn bd):=⟨hA,hB⟩
 have HL:Hid (an.length<=72/\ad.length<=72/\bn.length<=72/\bd.length<=72):=⟨hA.ra.1,hA.rd.1,hB.ra.1,hB.rd.1⟩
 clear ha had hb hbd hA hB
 have K4:∀x y t u,Kept w ((((w.alloc x).alloc y).alloc t).alloc u):=fun x y t u=>((((Kept.refl w).alloc x).alloc y).alloc t).alloc u
 go_enter Tryz.func228,Tryz.ntmps228
 go_wp2_with fail
 refine(refusal_any _ (w.heap.size+1+1+1) 0 2 2 _ _ _ _ _ _ _ _ _ _ _ (fun _=>rfl) (by omega) (RatAll.two (m:=m) (n:=nA) (p:=n) (q:=nB) (a1:=a1) (a2:=a2) (b1:=b1) (b2:=b2) (k1:=k1) (c1:=c1) (k2:=k2) (c2:=c2) (k3:=k3) (c3:=c3) (k4:=k4) (c4:=c4) (by rw[World.cell?_alloc_at _ _ _ _ (by simp)];rfl) (by rw[World.cell?_alloc_at _ _ _ _ (by simp)];rfl) (by rw[World.cell?_alloc_at _ _ _ _ (by simp)];rfl) (by rw[World.cell?_alloc_at _ _ _ _ (by simp)];rfl) (by rw[World.cell?_alloc_at _ _ _ _ (by simp)];rfl) (by rw[World.cell?_alloc_at _ _ _ _ (by simp)];rfl) (by rw[World.cell?_alloc_at _ _ _ _ (by simp)];rfl) (by rw[World.cell?_alloc_at _ _ _ _ (by simp)];rfl) (HA.out.1.kept (K4 _ _ _ _)) (HA.out.2.1.kept (K4 _ _ _ _)) (HA.out.2.2.1.kept (K4 _ _ _ _)) (HA.out.2.2.2.kept (K4 _ _ _ _)) (by have:=HL.out;omega) (by have:=HL.out;omega) (by have:=HL.out;omega) (by have:=HL.out;omega))).mono ?_
 rintro e w1 ⟨hk,c,rfl,hc⟩
 obtain rfl:c=0:=Refused.two HR.out.1 HR.out.2 hc
 clear hc
 have rA:=(RRow.alloc w (.bool m) (.slice a1 k1 c1) (.bool nA) (.slice a2 k2 c2))
 have rB:=(RRow.alloc (w.alloc (.cells #[.bool m,.slice a1 k1 c1,.bool nA,.slice a2 k2 c2] 213)) (.bool n) (.slice b1 k3 c3) (.bool nB) (.slice b2 k4 c4))
 have rZ:=(RRow.alloc ((w.alloc (.cells #[.bool m,.slice a1 k1 c1,.bool nA,.slice a2 k2 c2] 213)).alloc (.cells #[.bool n,.slice b1 k3 c3,.bool nB,.slice b2 k4 c4] 213)) (.bool false) (.slice none 0 0) (.bool false) (.slice none 0 0))
 have rA:=rA.kept (((((Kept.refl _).alloc _).alloc _).alloc _).trans hk)
 have rB:=rB.kept ((((Kept.refl _).alloc _).alloc _).trans hk)
 have rZ:=rZ.kept (((Kept.refl _).alloc _).trans hk)
 simp only[World.size_alloc]at rB rZ
 have HK:Hid (Kept w w1):=(K4 _ _ _ _).trans hk
 have a0:=rA.c0
 have a1':=rA.c1
 have a2':=rA.c2
 have a3:=rA.c3
 have b0:=rB.c0
 have b1':=rB.c1
 have b2':=rB.c2
 have b3:=rB.c3
 clear rA rB hk K4
 go_wp2_with fail
 refine(product_r m nA n nB a1 a2 b1 b2 k1 c1 k2 c2 k3 c3 k4 c4 an ad bn bd _ (HA.out.1.kept HK.out) (HA.out.2.1.kept HK.out) (HA.out.2.2.1.kept HK.out) (HA.out.2.2.2.kept HK.out) HR.out.1 HR.out.2).mono ?_
 rintro e w2 ⟨hk2,N,D,hs,hS⟩
 have HS:=hid hs
 have HZ:Hid (w.heap.size+1+1<w1.heap.size):=rZ.lt
 have rZ:=rZ.kept hk2
 have i0:=rZ.c0
 have i1:=rZ.c1
 have i2:=rZ.c2
 have i3:=rZ.c3
 have o0:=rZ.fz 0
 have o1:=rZ.fz 1
 have o2:=rZ.fz 2
 have o3:=rZ.fz 3
 have HK2:Hid (Kept w w2):=HK.out.trans hk2
 clear hs hk2 rZ a0 a1' a2' a3 b0 b1' b2' b3
 rcases hS with ⟨v,rfl,s,ao,k,c,l,t,ap,k',c',l',rfl,n1,r1,v1,n2,r2,v2⟩|⟨rfl,hw⟩
 ·have HN:Hid (New w1.heap.size w2 (.slice ao k c) l/\M.Right s l/\M.int s l=N/\New w1.heap.size w2 (.slice ap k' c') l'/\M.Right t l'/\M.int t l'=D):=⟨n1,r1,v1,n2,r2,v2⟩
  clear n1 r1 v1 n2 r2 v2
  go_wp2
  have hz:=HZ.out
  obtain⟨n1,r1,v1,n2,r2,v2⟩:=HN.out
  refine bodyPost_ret (v:=.tuple #[.agg #[.bool s,.slice ao k c,.bool t,.slice ap k' c'],.int .i64 0]) (by simp[results,Tryz.results228,go_sem,i0,i1,i2,i3]) rfl ⟨?_,N,D,HS.out,.inl ⟨_,rfl,s,ao,k,c,l,t,ap,k',c',l',rfl,(set4 n1 (by omega) _ _ _ _).mono (by omega),r1,v1,(set4 n2 (by omega) _ _ _ _).mono (by omega),r2,v2⟩⟩
  exact(((HK2.out.setCell (by show w.heap.size<=w.heap.size+1+1;omega) _).setCell (by show w.heap.size<=w.heap.size+1+1;omega) _).setCell (by show w.heap.size<=w.heap.size+1+1;omega) _).setCell (by show w.heap.size<=w.heap.size+1+1;omega) _
 ·have HX:=hid hw
  clear hw
  go_wp2
  refine bodyPost_ret (v:=.tuple #[.agg #[.bool false,.slice none 0 0,.bool false,.slice none 0 0],.int .i64 13]) (by simp[results,Tryz.results228,go_sem,i0,i1,i2,i3]) rfl ⟨?_,N,D,HS.out,.inr ⟨rfl,HX.out⟩⟩
  exact(((HK2.out.setCell (by show w.heap.size<=w.heap.size+1+1;omega) _).setCell (by show w.heap.size<=w.heap.size+1+1;omega) _).setCell (by show w.heap.size<=w.heap.size+1+1;omega) _).setCell (by show w.heap.size<=w.heap.size+1+1;omega) _
end F
namespace Q
def RQ (B:Nat)(w:World)(v:Value)(N:Int)(D:Nat):Prop :=
 ∃(s:Bool) (ao ap:Option Addr) (k c k' c':Nat) (l l':List Nat),v=.agg #[.bool s,.slice ao k c,.bool false,.slice ap k' c']/\New B w (.slice ao k c) l/\New B w (.slice ap k' c') l'/\F.RatR s false l l'/\M.int s l=N/\M.val l'=D
theorem new_one (w:World)(x:Nat)(hx:x<4294967296):New w.heap.size (w.alloc (.cells #[.int .u32 (x:Int)] 185)) (.slice (some ⟨w.heap.size,0,none⟩) 1 1) [x]:=by
 refine⟨fun y hy=>by simp at hy;omega,.inr ⟨w.heap.size,1,fun _=>.int .u32 (x:Int),rfl,Nat.le_refl _,Nat.le_refl _,World.rowIs_alloc w #[.int .u32 (x:Int)] 185 _ (fun i hi=>by
  match i,hi with
  | 0,_=>rfl),fun j hj=>?_⟩⟩
 match j,hj with
 |0,_=>rfl
theorem ratR_one (s:Bool)(x:Nat)(h0:0<x):F.RatR s false [x] [1] :=
 ⟨⟨by simp,by simp,by simp;omega⟩,⟨by simp,by simp,by simp⟩,by decide,by show Nat.gcd (x+4294967296*0) (1+4294967296*0)=1;simp⟩
theorem ratR_nil:F.RatR false false [] [1] :=
 ⟨⟨by simp,by simp,by simp⟩,⟨by simp,by simp,by simp⟩,by decide,by decide⟩
theorem rq_one (w:World)(A C:Obj)(s:Bool)(x:Nat)(n:Int)(h0:0<x)(hx:x<4294967296)(hn:n=if s=true then -(x:Int) else (x:Int)) :
  RQ w.heap.size ((((w.alloc A).alloc (.cells #[.int .u32 1] 185)).alloc C).alloc (.cells #[.int .u32 (x:Int)] 185)) (.agg #[.bool s,.slice (some ⟨w.heap.size+1+1+1,0,none⟩) 1 1,.bool false,.slice (some ⟨w.heap.size+1,0,none⟩) 1 1]) n 1:=by
 have h1:=(new_one (w.alloc A) 1 (by decide)).kept (((Kept.refl _).alloc C).alloc (.cells #[.int .u32 (x:Int)] 185))
 have h2:=new_one (((w.alloc A).alloc (.cells #[.int .u32 1] 185)).alloc C) x hx
 simp only[World.size_alloc]at h1 h2
 refine⟨s,_,_,1,1,1,1,[x],[1],rfl,h2.mono (by omega),h1.mono (by omega),ratR_one s x h0,?_,rfl⟩
 rw[hn]
 show (if s=true then -((x+4294967296*0:Nat):Int) else ((x+4294967296*0:Nat):Int))=_
 simp
theorem whole_any (n:Int)(h1:-4294967296<n)(h2:n<4294967296)(w:World) :
  Calls Tryz.prog 229 #[.int .i64 n] w fun e w'=>Kept w w'/\∃v,e=.returned v/\RQ w.heap.size w' v n 1:=by
 go_enter Tryz.func229,Tryz.ntmps229
 by_cases h0:n=0
 ·subst h0
  go_wp2_with fail
  refine bodyPost_ret (v:=.agg #[.bool false,.slice none 0 0,.bool false,.slice (some ⟨w.heap.size+1,0,none⟩) 1 1]) (by simp[results,Tryz.results229,go_sem]) rfl ⟨(((Kept.refl w).alloc _).alloc _).alloc _,_,rfl,false,none,_,0,0,1,1,[],[1],rfl,⟨by intro x hx;simp at hx,.inl ⟨rfl,rfl⟩⟩,?_,ratR_nil,rfl,rfl⟩
  have h1:=(new_one (w.alloc (.cells #[.bool false,.slice none 0 0,.bool false,.slice (some ⟨w.heap.size+1,0,none⟩) 1 1] 213)) 1 (by decide)).kept ((Kept.refl _).alloc (.cells #[.bool false,.slice none 0 0,.bool false,.slice (some ⟨w.heap.size+1,0,none⟩) 1 1] 213))
  simp only[World.size_alloc]at h1
  exact h1.mono (by omega)
 ·have hb:(n == 0)=false:=by simpa using h0
  by_cases hn:n<0
  ·have hm:max n (-n)=-n:=by omega
   obtain⟨x,hx⟩:∃x:Nat,-n=(x:Int):=⟨(-n).toNat,by omega⟩
   have HX:=hid' hx
   clear hx
   go_wp2_with fail
   refine bodyPost_ret (v:=.agg #[.bool true,.slice (some ⟨w.heap.size+1+1+1,0,none⟩) 1 1,.bool false,.slice (some ⟨w.heap.size+1,0,none⟩) 1 1]) (by simp[results,Tryz.results229,go_sem]) rfl ⟨((((Kept.refl w).alloc _).alloc _).alloc _).alloc _,_,rfl,?_⟩
   rw[HX.out]
   exact rq_one w _ _ true x n (by have:=HX.out;omega) (by have:=HX.out;omega) (by have:=HX.out;simp;omega)
  ·have hm:max n (-n)=n:=by omega
   obtain⟨x,hx⟩:∃x:Nat,n=(x:Int):=⟨n.toNat,by omega⟩
   have HX:=hid' hx
   clear hx
   go_wp2_with fail
   refine bodyPost_ret (v:=.agg #[.bool false,.slice (some ⟨w.heap.size+1+1+1,0,none⟩) 1 1,.bool false,.slice (some ⟨w.heap.size+1,0,none⟩) 1 1]) (by simp[results,Tryz.results229,go_sem]) rfl ⟨((((Kept.refl w).alloc _).alloc _).alloc _).alloc _,_,rfl,?_⟩
   have e:=HX.out
   clear HX
   subst e
   exact rq_one w _ _ false x _ (by omega) (by omega) (by simp)
def put4 (w:World)(p:Nat)(x0 x1 x2 x3:Value):World:=(((w.setCell ⟨p,0,none⟩ x0).setCell ⟨p,1,none⟩ x1).setCell ⟨p,2,none⟩ x2).setCell ⟨p,3,none⟩ x3
theorem Kept.put4 {a b:World}{p:Nat}(h:Kept a b)(hp:a.heap.size<=p)(x0 x1 x2 x3:Value):Kept a (put4 b p x0 x1 x2 x3):=(((h.setCell hp x0).setCell hp x1).setCell hp x2).setCell hp x3
theorem New.put4 {B p:Nat}{w:World}{v:Value}{l:List Nat}{t:TypeId}{y0 y1 y2 y3:Value}(h:New B w v l)(hr:w.rowIs p t 4 (fun i=>if i=0 then y0 else if i=1 then y1 else if i=2 then y2 else y3))(ht:¬t=185)(x0 x1 x2 x3:Value):New B (Q.put4 w p x0 x1 x2 x3) v l:=by
 obtain⟨hb,⟨rfl,rfl⟩|⟨b,N,f,rfl,h1,h2,h3,h4⟩⟩:=h
 ·exact⟨hb,.inl ⟨rfl,rfl⟩⟩
 ·refine⟨hb,.inr ⟨b,N,f,rfl,h1,h2,?_,h4⟩⟩
  have hne:¬b=p:=by
   intro e;subst e
   obtain⟨c,hc,_⟩:=h3
   obtain⟨c',hc',_⟩:=hr
   rw[hc]at hc'
   simp at hc'
   exact ht hc'.2.symm
  unfold Q.put4
  exact World.rowIs.setOther (World.rowIs.setOther (World.rowIs.setOther (World.rowIs.setOther h3 hne x0) hne x1) hne x2) hne x3
theorem tenTo_any (x:Int)(h1:-9<=x)(h2:x<=9)(w:World) :
  Calls Tryz.prog 230 #[.int .i64 x] w fun e w'=>Kept w w'/\∃v,e=.returned v/\RQ w.heap.size w' v ((10^x.toNat:Nat):Int) (10^(-x).toNat):=by
 obtain⟨nn,hnn⟩:∃n:Nat,max x (-x)=(n:Int):=⟨(max x (-x)).toNat,by omega⟩
 have hnn9:nn<=9:=by omega
 have HNN:=hid' hnn
 go_enter Tryz.func230,Tryz.ntmps230
 go_upto_region 1 with fail
 have hK:=(Kept.refl w).alloc (.cells #[.bool false,.slice none 0 0,.bool false,.slice none 0 0] 213)
 have hR:=F.RRow.alloc w (.bool false) (.slice none 0 0) (.bool false) (.slice none 0 0)
 generalize w.alloc (.cells #[.bool false,.slice none 0 0,.bool false,.slice none 0 0] 213)=W at hK hR ⊢
 obtain⟨p2,hp2⟩:∃p,p=w.heap.size:=⟨_,rfl⟩
 rw[<-hp2]at hR ⊢
 have HP:Hid (w.heap.size<=p2):=by show _<=_;omega
 have HK:=hid' hK
 have HR:=hid' hR
 clear hp2 hK hR
 go_wp2_with fail
 go_loopw [3,9] (fun vp vi wr=>∃j:Nat,j<=nn/\vi=.int .i64 (j:Int)/\vp=.int .i64 ((10^j:Nat):Int)/\wr=W) (fun _ vi _=>nn-(intOf vi).toNat)
 case atStart=>exact⟨0,Nat.zero_le _,rfl,rfl,rfl⟩
 case round=>
  obtain⟨j,hj,rfl,rfl,hw⟩:=hrel
  subst hw
  by_cases hlt:j<nn
  ·have hji:(j:Int)<(nn:Int):=by omega
   have hpw:10^j<=100000000:=Nat.pow_le_pow_right (n:=10) (j:=8) (by decide) (by omega)
   have hps:10^(j+1)=10^j*10:=Nat.pow_succ ..
   have HPS:=hid' hps
   clear hps
   obtain⟨pw,hpe⟩:∃p,p=10^j:=⟨_,rfl⟩
   rw[<-hpe]at hpw HPS ⊢
   clear hpe
   go_wp2_with fail
   go_roundw
   case rel=>exact⟨j+1,by omega,by go_num,by rw[HPS.out];push_cast;rfl,trivial⟩
   case measure=>show nn-((j:Int)+1).toNat<nn-(j:Int).toNat;omega
  ·obtain rfl:j=nn:=by omega
   have hji:¬(j:Int)<(j:Int):=by omega
   have hpw:10^j<=1000000000:=Nat.pow_le_pow_right (n:=10) (j:=9) (by decide) (by omega)
   have hp0:0<10^j:=Nat.pow_pos (by decide)
   obtain⟨pw,hpe⟩:∃p,p=10^j:=⟨_,rfl⟩
   rw[<-hpe]at hpw hp0 ⊢
   have HPE:=hid' hpe
   clear hpe
   go_wp2_with fail
   refine(whole_any (pw:Int) (by omega) (by omega) _).mono ?_
   rintro e w1 ⟨hk1,v,rfl,s,ao,ap,k,c,k',c',l,l',rfl,n1,n2,hr,hi,hv⟩
   have hs:s=false:=by
    cases s
    ·rfl
    ·exfalso
     have e1:M.int true l=-(M.val l:Int):=rfl
     rw[e1]at hi;omega
   subst hs
   have hi':M.val l=pw:=by
    have e1:M.int false l=(M.val l:Int):=rfl
    rw[e1]at hi;omega
   have H1:=hid' (And.intro n1 (And.intro n2 (And.intro hr (And.intro hi' hv))))
   have HK1:=hid' hk1
   have Hq:∀X,F.RRow (w1.alloc X) p2 (.bool false) (.slice none 0 0) (.bool false) (.slice none 0 0):=fun X=>HR.out.kept (HK1.out.alloc X)
   have q0:∀X,(w1.alloc X).cell? ⟨p2,0,none⟩=some (.bool false):=fun X=>(Hq X).c0
   have q1:∀X,(w1.alloc X).cell? ⟨p2,1,none⟩=some (.slice none 0 0):=fun X=>(Hq X).c1
   have q2:∀X,(w1.alloc X).cell? ⟨p2,2,none⟩=some (.bool false):=fun X=>(Hq X).c2
   have q3:∀X,(w1.alloc X).cell? ⟨p2,3,none⟩=some (.slice none 0 0):=fun X=>(Hq X).c3
   have f0:∀X,(w1.alloc X).frozen? ⟨p2,0,none⟩=false:=fun X=>(Hq X).fz 0
   have f1:∀X,(w1.alloc X).frozen? ⟨p2,1,none⟩=false:=fun X=>(Hq X).fz 1
   have f2:∀X,(w1.alloc X).frozen? ⟨p2,2,none⟩=false:=fun X=>(Hq X).fz 2
   have f3:∀X,(w1.alloc X).frozen? ⟨p2,3,none⟩=false:=fun X=>(Hq X).fz 3
   have HQ:=hid' Hq
   clear n1 n2 hr hi hv hi' hk1 Hq
   by_cases hx:x<0
   ·have hx2:x.toNat=0/\(-x).toNat=j:=by have:=HNN.out;omega
    have HX:=hid' hx2
    clear hx2
    go_wp2_with fail
    refine bodyPost_ret (v:=.agg #[.bool false,.slice ap k' c',.bool false,.slice ao k c]) (by simp[results,Tryz.results230,go_sem,q0,q1,q2,q3]) rfl ⟨Kept.put4 ((HK.out.trans HK1.out).alloc _) HP.out _ _ _ _,_,rfl,false,ap,ao,k',c',k,c,l',l,rfl,?_,?_,?_,?_,?_⟩
    ·exact New.put4 (((H1.out.2.1).kept ((Kept.refl w1).alloc _)).mono HK.out.size) (HQ.out _) (by decide) _ _ _ _
    ·exact New.put4 (((H1.out.1).kept ((Kept.refl w1).alloc _)).mono HK.out.size) (HQ.out _) (by decide) _ _ _ _
    ·have e1:M.int false l=(M.val l:Int):=rfl
     exact⟨H1.out.2.2.1.rd,H1.out.2.2.1.ra,by rw[e1,H1.out.2.2.2.1];omega,by rw[H1.out.2.2.2.2];exact Nat.gcd_one_left _⟩
    ·show (M.val l':Int)=_
     rw[H1.out.2.2.2.2,HX.out.1]
    ·rw[H1.out.2.2.2.1,HPE.out,HX.out.2]
   ·have hx2:x.toNat=j/\(-x).toNat=0:=by have:=HNN.out;omega
    have HX:=hid' hx2
    clear hx2
    go_wp2_with fail
    refine bodyPost_ret (v:=.agg #[.bool false,.slice ao k c,.bool false,.slice ap k' c']) (by simp[results,Tryz.results230,go_sem,q0,q1,q2,q3]) rfl ⟨Kept.put4 ((HK.out.trans HK1.out).alloc _) HP.out _ _ _ _,_,rfl,false,ao,ap,k,c,k',c',l,l',rfl,?_,?_,H1.out.2.2.1,?_,?_⟩
    ·exact New.put4 (((H1.out.1).kept ((Kept.refl w1).alloc _)).mono HK.out.size) (HQ.out _) (by decide) _ _ _ _
    ·exact New.put4 (((H1.out.2.1).kept ((Kept.refl w1).alloc _)).mono HK.out.size) (HQ.out _) (by decide) _ _ _ _
    ·show (M.val l:Int)=_
     rw[H1.out.2.2.2.1,HPE.out,HX.out.1]
    ·rw[H1.out.2.2.2.2,HX.out.2]
theorem RQ.of {B:Nat}{w:World}{v:Value}{N:Int}{D:Nat}(h:F.RatIs B w v N D)(hp:0<D)(hl:Nat.Coprime N.natAbs D):RQ B w v N D:=by
 obtain⟨s,ao,k,c,l,t,ap,k',c',l',rfl,n1,r1,i1,n2,r2,i2⟩:=h
 have ht:t=false:=by
  cases t
  ·rfl
  ·exfalso
   have e1:M.int true l'=-(M.val l':Int):=rfl
   rw[e1]at i2;omega
 subst ht
 have e1:M.int false l'=(M.val l':Int):=rfl
 refine⟨s,ao,ap,k,c,k',c',l,l',rfl,n1,n2,⟨R.of_right r1,R.of_right r2,by rw[i2];omega,?_⟩,i1,by rw[e1]at i2;omega⟩
 have h3:M.val l'=D:=by rw[e1]at i2;omega
 rw[<-M.natAbs_int s l,i1,h3];exact hl
theorem RQ.kept {B:Nat}{w w':World}{v:Value}{N:Int}{D:Nat}(h:RQ B w v N D)(k:Kept w w'):RQ B w' v N D:=by
 obtain⟨s,ao,ap,k1,c,k',c',l,l',rfl,n1,n2,r⟩:=h
 exact⟨s,ao,ap,k1,c,k',c',l,l',rfl,n1.kept k,n2.kept k,r⟩
theorem RQ.mono {B B':Nat}{w:World}{v:Value}{N:Int}{D:Nat}(h:RQ B w v N D)(k:B'<=B):RQ B' w v N D:=by
 obtain⟨s,ao,ap,k1,c,k',c',l,l',rfl,n1,n2,r⟩:=h
 exact⟨s,ao,ap,k1,c,k',c',l,l',rfl,n1.mono k,n2.mono k,r⟩
theorem RQ.low {B:Nat}{w:World}{v:Value}{N:Int}{D:Nat}(h:RQ B w v N D):0<D/\Nat.Coprime N.natAbs D:=by
 obtain⟨s,ao,ap,k1,c,k',c',l,l',rfl,n1,n2,r,rfl,rfl⟩:=h
 exact⟨r.vpos,by rw[M.natAbs_int];exact r.low⟩
theorem prod_bd {xA:Int}{yA:Nat}{xB:Int}{yB:Nat}{N:Int}{D:Nat}(h:F.IsProd xA yA xB yB N D)(hA:0<yA)(hB:0<yB):N.natAbs<=(xA*xB).natAbs/\D<=yA*yB:=by
 have e:=congrArg Int.natAbs h.eq
 rw[Int.natAbs_mul,Int.natAbs_mul (xA*xB)]at e
 have e2:((yA:Int)*yB).natAbs=yA*yB:=by rw[<-Int.natCast_mul];rfl
 rw[e2,Int.natAbs_natCast]at e
 constructor
 ·have hd:N.natAbs ∣ (xA*xB).natAbs:=(h.low.dvd_of_dvd_mul_right (by rw[<-e];exact Nat.dvd_mul_right _ _))
  rcases Nat.eq_zero_or_pos (xA*xB).natAbs with h0|h0
  ·rw[h0,Nat.zero_mul]at e
   rcases Nat.mul_eq_zero.1 e with h1|h1
   ·omega
   ·have:=Nat.mul_pos hA hB;omega
  ·exact Nat.le_of_dvd h0 hd
 ·have hd:D ∣ yA*yB:=(h.low.symm.dvd_of_dvd_mul_left (by rw[e];exact Nat.dvd_mul_left _ _))
  exact Nat.le_of_dvd (Nat.mul_pos hA hB) hd
theorem mul_small {v v':Value}{N N':Int}{D D':Nat}{B B':Nat}(w:World)(h:RQ B w v N D)(h':RQ B' w v' N' D')(hN:(N*N').natAbs<=10^60)(hD:D*D'<=10^60) :
  Calls Tryz.prog 228 #[v,v'] w fun e w'=>Kept w w'/\∃u X Y,e=.returned (.tuple #[u,.int .i64 0])/\RQ w.heap.size w' u X Y/\X*(D*D':Nat)=N*N'*Y/\X.natAbs<=(N*N').natAbs/\Y<=D*D':=by
 have p1:=h.low.1
 have p2:=h'.low.1
 obtain⟨s,ao,ap,k,c,k',c',l,l',rfl,n1,n2,r,rfl,rfl⟩:=h
 obtain⟨s',ao',ap',k1,c1,k1',c1',l1,l1',rfl,n1',n2',r',rfl,rfl⟩:=h'
 refine(F.Mul_ok s false s' false ao ap ao' ap' k c k' c' k1 c1 k1' c1' l l' l1 l1' w n1.sl n2.sl n1'.sl n2'.sl r r').mono ?_
 rintro e w' ⟨hk,X,Y,hP,hS⟩
 have hb:=prod_bd hP p1 p2
 have hW:(10:Nat)^60<M.W72:=by unfold M.W72;decide
 rcases hS with ⟨u,rfl,hu⟩|⟨_,hno⟩
 ·exact⟨hk,u,X,Y,rfl,RQ.of hu hP.pos hP.low,by rw[Int.natCast_mul];exact hP.eq,hb.1,hb.2⟩
 ·exact absurd ⟨by omega,by omega⟩ hno
theorem pow9 {x:Int}(h2:x<=9):10^x.toNat<=1000000000:=Nat.pow_le_pow_right (n:=10) (j:=9) (by decide) (by omega)
theorem tdiv_two {x:Int}(h1:-18<=x)(h2:x<=18):-9<=x.tdiv 2/\x.tdiv 2<=9/\-9<=x-x.tdiv 2/\x-x.tdiv 2<=9/\x.toNat=(x.tdiv 2).toNat+(x-x.tdiv 2).toNat/\(-x).toNat=(-(x.tdiv 2)).toNat+(-(x-x.tdiv 2)).toNat:=by
 rcases (show x<0∨0<=x by omega) with h|h
 ·have e:x.tdiv 2=-((-x)/2):=by
   have:=Int.neg_tdiv (a:=-x) (b:=2)
   rw[Int.neg_neg]at this
   rw[this,Int.tdiv_eq_ediv_of_nonneg (by omega)]
  rw[e];omega
 ·rw[Int.tdiv_eq_ediv_of_nonneg h];omega
theorem wrap_i64' {n:Int}(h0:-9223372036854775808<=n)(h1:n<=9223372036854775807):IntKind.i64.wrap n=n:=by rw[IntKind.wrap_i64];omega
theorem RQ.put4 {B p:Nat}{w:World}{v:Value}{N:Int}{D:Nat}{y0 y1 y2 y3:Value}(h:RQ B w v N D)(hr:F.RRow w p y0 y1 y2 y3)(x0 x1 x2 x3:Value):RQ B (Q.put4 w p x0 x1 x2 x3) v N D:=by
 obtain⟨s,ao,ap,k1,c,k',c',l,l',rfl,n1,n2,r⟩:=h
 exact⟨s,ao,ap,k1,c,k',c',l,l',rfl,New.put4 n1 hr (by decide) _ _ _ _,New.put4 n2 hr (by decide) _ _ _ _,r⟩
theorem rrow_far {w:World}{p q:Nat}{x0 x1 x2 x3:Value}(h:F.RRow w p x0 x1 x2 x3)(hne:¬p=q)(y0 y1 y2 y3:Value):F.RRow (Q.put4 w q y0 y1 y2 y3) p x0 x1 x2 x3 :=
 World.rowIs.setOther (World.rowIs.setOther (World.rowIs.setOther (World.rowIs.setOther h hne y0) hne y1) hne y2) hne y3
theorem two_steps {m X X5:Int}{Y Y5 a b c d:Nat}(h1:X*((1*d:Nat):Int)=m*(c:Int)*(Y:Int))(h2:X5*((Y*b:Nat):Int)=X*(a:Int)*(Y5:Int))(hY:0<Y):X5*((d*b:Nat):Int)=m*((c*a:Nat):Int)*(Y5:Int):=by
 have hY':(Y:Int)≠0:=by omega
 apply Int.eq_of_mul_eq_mul_right hY'
 simp only[Int.natCast_mul,Nat.one_mul]at h1 h2 ⊢
 have e1:X5*((d:Int)*b)*Y=(X5*(Y*b))*d:=by rw[Int.mul_comm (d:Int) b,<-Int.mul_assoc,<-Int.mul_assoc,Int.mul_right_comm,Int.mul_right_comm X5 b Y]
 have e2:m*((c:Int)*a)*Y5*Y=(m*c*Y)*a*Y5:=by
  rw[<-Int.mul_assoc m c a,Int.mul_right_comm _ (Y5:Int) Y,Int.mul_right_comm (m*c) (a:Int) Y]
 rw[e1,e2,h2,<-h1,Int.mul_right_comm (X*a) (Y5:Int) d,Int.mul_right_comm X (a:Int) d]
theorem nat_bd {X:Int}{p:Nat}(h:X.natAbs<=10^18)(hp:p<=1000000000):(X*(p:Int)).natAbs<=10^27:=by
 rw[Int.natAbs_mul,Int.natAbs_natCast]
 exact Nat.le_trans (Nat.mul_le_mul h hp) (by decide)
theorem scaled_any (m x:Int)(hm1:-999999999<=m)(hm2:m<=999999999)(h1:-18<=x)(h2:x<=18)(w:World) :
  Calls Tryz.prog 204 #[.int .i64 m,.int .i64 x] w fun e w'=>Kept w w'/\∃v N D,e=.returned v/\RQ w.heap.size w' v N D/\N*(10^(-x).toNat:Nat)=m*(10^x.toNat:Nat)*D:=by
 have HT:=hid' (tdiv_two h1 h2)
 go_enter Tryz.func204,Tryz.ntmps204
 go_upto_region 1 with fail
 have hK:=(Kept.refl w).alloc (.cells #[.bool false,.slice none 0 0,.bool false,.slice none 0 0] 213)
 have hR:=F.RRow.alloc w (.bool false) (.slice none 0 0) (.bool false) (.slice none 0 0)
 generalize w.alloc (.cells #[.bool false,.slice none 0 0,.bool false,.slice none 0 0] 213)=W at hK hR ⊢
 obtain⟨p4,hp4⟩:∃p,p=w.heap.size:=⟨_,rfl⟩
 rw[<-hp4]at hR ⊢
 have HP:Hid (w.heap.size<=p4):=by show _<=_;omega
 have HK:=hid' hK
 have HR:=hid' hR
 clear hp4 hK hR
 obtain⟨g,hg⟩:∃g,g=x.tdiv 2:=⟨_,rfl⟩
 have HG:=hid' hg
 clear hg
 go_wp2_with fail
 refine(whole_any m (by omega) (by omega) _).mono ?_
 rintro e w1 ⟨hk1,v1,rfl,hq1⟩
 have H1:=hid' hq1
 have HK1:=hid' hk1
 clear hq1 hk1
 go_wp2_with fail
 refine(tenTo_any (x.tdiv 2) HT.out.1 HT.out.2.1 _).mono ?_
 rintro e w2 ⟨hk2,v2,rfl,hq2⟩
 have H1:=hid' (H1.out.kept hk2)
 have H2:=hid' hq2
 have HK2:=hid' (HK1.out.trans hk2)
 clear hq2 hk2
 go_wp2_with fail
 have hb1:(m*((10^(x.tdiv 2).toNat:Nat):Int)).natAbs<=10^18/\1*10^(-(x.tdiv 2)).toNat<=10^9:=by
  have a1:=pow9 HT.out.2.1
  have a2:=pow9 (x:=-(x.tdiv 2)) (by have:=HT.out.1;omega)
  refine⟨?_,by omega⟩
  rw[Int.natAbs_mul,Int.natAbs_natCast]
  exact Nat.le_trans (Nat.mul_le_mul (show m.natAbs<=1000000000 by omega) a1) (by decide)
 refine(mul_small _ H1.out H2.out (Nat.le_trans hb1.1 (by decide)) (Nat.le_trans hb1.2 (by decide))).mono ?_
 rintro e w3 ⟨hk3,u,X,Y,rfl,hq3,hX,hX1,hX2⟩
 have hq3':=hq3
 obtain⟨s,ao,ap,k,c,k',c',l,l',rfl,_⟩:=hq3'
 have H3:=hid' (And.intro hq3 (And.intro hX (And.intro (Nat.le_trans hX1 hb1.1) (Nat.le_trans hX2 hb1.2))))
 have HK3:=hid' (HK2.out.trans hk3)
 clear hq3 hX hX1 hX2 hk3 hb1
 go_upto_region 3 with fail
 have hR6:=F.RRow.alloc w3 (.bool s) (.slice ao k c) (.bool false) (.slice ap k' c')
 have hK6:=(Kept.refl w3).alloc (.cells #[.bool s,.slice ao k c,.bool false,.slice ap k' c'] 213)
 generalize w3.alloc (.cells #[.bool s,.slice ao k c,.bool false,.slice ap k' c'] 213)=W6 at hR6 hK6 ⊢
 obtain⟨p6,hp6⟩:∃p,p=w3.heap.size:=⟨_,rfl⟩
 rw[<-hp6]at hR6 ⊢
 have n46:¬p4=p6:=by have:=HR.out.lt;have:=HK3.out.size;omega
 have n64:¬p6=p4:=fun h=>n46 h.symm
 have HP6:Hid (w.heap.size<=p6):=by show _<=_;have:=HK.out.size;have:=HK3.out.size;omega
 have H3:=hid' (And.intro (H3.out.1.kept hK6) H3.out.2)
 have HK6:=hid' (HK3.out.trans hK6)
 have H6:=hid' hR6
 obtain⟨g,hg⟩:∃g,g=x.tdiv 2:=⟨_,rfl⟩
 rw[<-hg]at H3 HT ⊢
 have hwr:IntKind.i64.wrap (x-g)=x-g:=wrap_i64' (by have:=HT.out;omega) (by have:=HT.out;omega)
 have s0:=hR6.c0
 have s1:=hR6.c1
 have s2:=hR6.c2
 have s3:=hR6.c3
 clear hp6 hK6 hR6 hg
 go_region_with (first
  |(go_at_call 230;refine(tenTo_any (x-g) HT.out.2.2.1 HT.out.2.2.2.1 _).mono ?_;rintro e w4 ⟨hk4,v4,rfl,hq4⟩;have H4:=hid' hq4;have K4:Kept W6 w4:=(Kept.refl W6).drew.trans hk4;have t0:=(H6.out.kept K4).c0;have t1:=(H6.out.kept K4).c1;have t2:=(H6.out.kept K4).c2;have t3:=(H6.out.kept K4).c3;clear hq4 hk4)
  | (go_at_call 228;refine(mul_small _ (H3.out.1.kept K4) H4.out (Nat.le_trans (nat_bd H3.out.2.2.1 (pow9 HT.out.2.2.2.1)) (by decide)) (Nat.le_trans (Nat.mul_le_mul H3.out.2.2.2 (pow9 (x:=-(x-g)) (by have:=HT.out.2.2.1;omega))) (by decide))).mono ?_;rintro e w5 ⟨hk5,u5,X5,Y5,rfl,hq5,hX5,_,_⟩;have hq5':=hq5;obtain⟨s5,ao5,ap5,k5,c5,k5',c5',l5,l5',rfl,_⟩:=hq5';have H5:=hid' (And.intro hq5 hX5);have K5:Kept W6 w5:=K4.trans hk5;have z0:=(H6.out.kept K5).c0;have z1:=(H6.out.kept K5).c1;have z2:=(H6.out.kept K5).c2;have z3:=(H6.out.kept K5).c3;have y0:=(H6.out.kept K5).fz 0;have y1:=(H6.out.kept K5).fz 1;have y2:=(H6.out.kept K5).fz 2;have y3:=(H6.out.kept K5).fz 3;clear hq5 hX5 hk5))
 all_goals
  have hR4:=HR.out.kept (HK6.out.trans K5)
  have q0:=hR4.c0
  have q1:=hR4.c1
  have q2:=hR4.c2
  have q3:=hR4.c3
  have f0:=hR4.fz 0
  have f1:=hR4.fz 1
  have f2:=hR4.fz 2
  have f3:=hR4.fz 3
  have H4':=hid' hR4
  have HK5:=hid' (HK.out.trans (HK6.out.trans K5))
  have hB:w.heap.size<=w4.heap.size:=(HK.out.trans (HK6.out.trans K4)).size
  have HB:=hid' hB
  have H65:=hid' (H6.out.kept K5)
  clear hR4 K4 K5 hB t0 t1 t2 t3 s0 s1 s2 s3
  go_wp2_with fail
  refine bodyPost_ret (v:=.agg #[.bool s5,.slice ao5 k5 c5,.bool false,.slice ap5 k5' c5']) (by simp[results,Tryz.results204,go_sem,q0,q1,q2,q3]) rfl ⟨Kept.put4 (Kept.put4 HK5.out HP6.out _ _ _ _) HP.out _ _ _ _,_,X5,Y5,rfl,RQ.put4 (RQ.put4 (H5.out.1.mono HB.out) H65.out _ _ _ _) (rrow_far H4'.out n46 _ _ _ _) _ _ _ _,?_⟩
  rw[HT.out.2.2.2.2.1,HT.out.2.2.2.2.2,Nat.pow_add,Nat.pow_add]
  exact two_steps H3.out.2.1 H5.out.2 H3.out.1.low.1
end Q
namespace F
theorem Sl.one {w:World}{ao:Option Addr}{k c x:Nat}(h:Sl w (.slice ao k c) [x]):k=1/\1<=c/\∃b off,ao=some ⟨b,off,none⟩/\w.cell? ⟨b,off,none⟩=some (.int .u32 (x:Int)):=by
 obtain⟨_,ao',cap,hv,hx⟩:=h
 simp only[Value.slice.injEq]at hv
 obtain⟨rfl,rfl,rfl⟩:=hv
 obtain⟨h1,b,off,rfl,_,hc⟩:=hx (by simp)
 exact⟨by simp,by simpa using h1,b,off,rfl,by simpa using hc 0 (by simp)⟩
def three {α:Type}(x y z:α)(i:Nat):α:=if i=0 then x else if i=1 then y else z
theorem RatAll.three {w:World}{b:Nat}{m n p q r s:Bool}{a1 a2 b1 b2 d1 d2:Option Addr}{k1 c1 k2 c2 k3 c3 k4 c4 k5 c5 k6 c6:Nat}{an ad bn bd cn cd:List Nat}
  (h:∀o v,(#[Value.bool m,.slice a1 k1 c1,.bool n,.slice a2 k2 c2,.bool p,.slice b1 k3 c3,.bool q,.slice b2 k4 c4,.bool r,.slice d1 k5 c5,.bool s,.slice d2 k6 c6])[o]?=some v->w.cell? ⟨b,o,none⟩=some v)
  (s1:Sl w (.slice a1 k1 c1) an) (s2:Sl w (.slice a2 k2 c2) ad) (s3:Sl w (.slice b1 k3 c3) bn) (s4:Sl w (.slice b2 k4 c4) bd) (s5:Sl w (.slice d1 k5 c5) cn) (s6:Sl w (.slice d2 k6 c6) cd)
  (l1:an.length<=9223372036854775807) (l2:ad.length<=9223372036854775807) (l3:bn.length<=9223372036854775807) (l4:bd.length<=9223372036854775807) (l5:cn.length<=9223372036854775807) (l6:cd.length<=9223372036854775807) :
  RatAll w b 0 3 (F.three m p r) (F.three n q s) (F.three a1 b1 d1) (F.three a2 b2 d2) (F.three k1 k3 k5) (F.three c1 c3 c5) (F.three k2 k4 k6) (F.three c2 c4 c6) (F.three an bn cn) (F.three ad bd cd):=by
 intro i hi
 match i,hi with
 |0,_=>exact⟨⟨h 0 _ rfl,h 1 _ rfl,h 2 _ rfl,h 3 _ rfl⟩,s1,s2,l1,l2⟩
 |1,_=>exact⟨⟨h 4 _ rfl,h 5 _ rfl,h 6 _ rfl,h 7 _ rfl⟩,s3,s4,l3,l4⟩
 |2,_=>exact⟨⟨h 8 _ rfl,h 9 _ rfl,h 10 _ rfl,h 11 _ rfl⟩,s5,s6,l5,l6⟩
theorem IsSum.le {x x' N:Int}{y y' D:Nat}(h:IsSum x y x' y' N D)(hy:0<y)(hy':0<y'):D<=y*y'/\N.natAbs<=(x*y'+x'*y).natAbs:=by
 have e:=congrArg Int.natAbs h.eq
 rw[Int.natAbs_mul,Int.natAbs_mul,Int.natAbs_mul,Int.natAbs_natCast,Int.natAbs_natCast,Int.natAbs_natCast]at e
 have p:=Nat.mul_pos hy hy'
 constructor
 ·exact Nat.le_of_dvd p (h.low.symm.dvd_of_dvd_mul_left (by rw[e];exact Nat.dvd_mul_left _ _))
 ·have hd:N.natAbs ∣ (x*y'+x'*y).natAbs:=h.low.dvd_of_dvd_mul_right (by rw[<-e];exact Nat.dvd_mul_right _ _)
  rcases Nat.eq_zero_or_pos (x*y'+x'*y).natAbs with h0|h0
  ·rw[h0,Nat.zero_mul]at e
   rcases Nat.mul_eq_zero.1 e with h1|h1
   ·omega
   ·omega
  ·exact Nat.le_of_dvd h0 hd
end F
end Go.Proofs.YtdjhmgmjiglcbaaGreatDoor
